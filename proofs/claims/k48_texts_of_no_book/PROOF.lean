import PyProof.Rows.All
import Wide.All
import OpenK.AllK
import Wide.FinOn
import Lean
import PyProof.EqAt
import PyProof.EqKinds
import PyProof.TupleCall
import PySem.Challenge.RW_keptreading_k48_texts_of_no_book
set_option genSizeOf false
set_option genSizeOfSpec false
set_option genInjectivity false
set_option Elab.async false
set_option linter.all false
set_option maxRecDepth 100000
open PySem.W (Frag)
noncomputable section
local macro_rules | `(tactic| nofun) => `(tactic| (first|lia|omega))
local macro_rules | `(tactic| exists $h:term) => `(tactic| (first|exact List.mem_singleton.mp $h|simpa using $h))
local macro_rules | `(tactic| ext) => `(tactic| (conv => whnf))
set_option compiler.extract_closed false
def aaa:=@PySem.wpAny_bind
def aab:=@PySem.wpAny_pure
def aac:=@Nat.le_refl
def aad:=@List.mem_cons_self
def aae:=@List.map_append
def aaf:=@PySem.Heap.lt_size
def aag:=@List.mem_cons_of_mem
def aah:=@List.take_of_length_le
def aai:=@PySem.StrLaws.glued_eq_join
def aaj:=@Option.some.inj
def aak:=@Bool.not_eq_true'
def aal:=@Nat.ne_of_lt
def aam:=@Nat.zero_le
def aan:=@Nat.lt_of_lt_of_le
def aao:=@List.mem_append_right
def aap:=@PySem.W.mg_of
def aaq:=@Nat.le_trans
def aar:=@List.eq_nil_of_length_eq_zero
def aas:=@Bool.eq_false_iff
def aat:=@List.length_singleton
def aau:=@List.length_take
def aav:=@PySem.W.mg_none_of
def aaw:=@List.drop_eq_getElem_cons
def aax:=@PySem.W.kia_one
def aay:=@List.length_replicate
def aaz:=@List.filterMap_cons
def aaA:=@List.drop_zero
def aaB:=@PySem.wpAny_holding
def aaC:=@List.take_append_drop
def aaD:=@List.length_set
def aaE:=@PySem.wpAny_call_entry
def aaF:=@PySem.wpAny_newObj_type
def aaG:=@PySem.wpAny_mono
def aaH:=@Nat.lt_succ_of_lt
def aaI:=@Nat.lt_irrefl
def aaJ:=@List.append_nil
def aaK:=@List.all_cons
def aaL:=@PySem.wpAny_truthy_bool
def aaM:=@Nat.add_sub_cancel_left
def aaN:=@List.lookup_cons
def aaO:=@PySem.mem_of_lookup
def aaP:=@List.nodup_nil
def aaQ:=@List.sum_append
def aaR:=@Nat.lt_succ_self
def aaS:=@List.getElem_mem
def aaT:=@List.mem_append_left
def aaU:=@PySem.Around.under_plainId
def aaV:=@Int.eq_ofNat_of_zero_le
def aaW:=@List.Perm.refl
def aaX:=@PySem.F.slot_str_split
def aaY:=@PySem.F.plainAttrs_str
def aaZ:=@List.map_map
def aa0:=@PyProof.Rows.slot_tuple_getitem
def aa1:=@PySem.wpAny_getItem_str_slice
def aa2:=@List.drop_length
def aa3:=@PySem.StrLaws.join_length_le
def aa4:=@PySem.wpAny_setField_rec
def aa5:=@PySem.W.of_hideAll
def aa6:=@PySem.wpAny_passesOwn
def aa7:=@PySem.wpAny_execs_nil
def aa8:=@Nat.le_succ
def aa9:=@Nat.le_of_ble_eq_true
def aba:=@PySem.wpAny_setState_of
def abb:=@List.take_add_one
def abd:=@PySem.F.slot_str_partition
def abe:=@Array.toArray_toList
def abf:=@PyProof.Rows.F.plain_set_update_loop
def abg:=@List.drop_drop
def abh:=@PySem.Heap.size_push
def abi:=@PySem.Calls.call_function_entry
def abj:=@PySem.wpAny_askSetting
def abk:=@PySem.wpAny_setEntries_of
def abl:=@List.map_congr_left
def abm:=@List.length_reverse
def abn:=@PySem.StrLaws.join_split
def abo:=@List.cons.inj
def abp:=@PySem.Calls.spliced_cons
def abq:=@PySem.Calls.callWith_builtin
def abr:=@Ne.symm
def abt:=@List.nodup_append
def abu:=@Nat.zero_add
def abv:=@List.Perm.append_left
def abw:=@PySem.wpAny_execs_cons
def abx:=@PySem.Calls.evalArgs_plain
def aby:=@PySem.wpAny_attempt
def abz:=@PySem.Paired.length
def abA:=@List.any_cons
def abB:=@PySem.wpAny_field
def abC:=@PySem.SeqAt.EqAt.same
def abD:=@PySem.W.hideAll_get
def abE:=@PyProof.Rows.callWith_type1
def abF:=@Nat.not_lt_zero
def abG:=@List.toList_toArray
def abH:=@List.foldl_cons
def abI:=@Bool.eq_iff_iff
def abJ:=@Array.toList_append
def abK:=@PySem.F.type_str_partition
namespace L2
theorem aF (_:True:=by first | exact .inl rfl | exact .inr rfl | assumption):True:=trivial
theorem aD (_:True:=by decide):True:=trivial
theorem aI (_:True:=by intro _; rfl):True:=trivial
theorem aR (_:True:=by rfl):True:=trivial
end L2
namespace L2
open PySem PySem.Spec PyProof.Rows
variable{a b L it dx C:Addr}{u:Value}{P:Program}{w:World}{h h' base:Heap}{α:Type}{e c tg l:Expr}{p pos pos' apos:Pos}{pins:List (Addr×Obj)}{s s':Shared}{t' i j k n:Nat}{ch fp:List Addr}{N ps:List Str}{A:Around}{E Q:Value->Shared->Prop}{op op':CmpOp}{es:List Expr}{body:List Stmt}{f:Value->Value->Sem Value}{us:List Value}{mA mg:Str->Option Value}{name m qual:Str}{fd:FuncData}{scope:Scope}
abbrev Key:=Sum Int Str
def kW:Key->Value->Bool
 | .inl k,v=>Value.isInt k v
 | .inr x,v=>Value.isStrOf x v
def keyH (w:World):Key->Int
 | .inl k=>hashInt k
 | .inr x=>hashStr w x
theorem bg:∀ {k:Key} {v:Value},kW k v=true->(∃ i t,k=Sum.inl i/\v=Value.int i t)∨(∃ x t,k=Sum.inr x/\v=Value.str x t)
 | .inl i,v,h=>by
  obtain ⟨t,e⟩:=Value.isInt_shape (k:=i) (v:=v) h
  exact .inl ⟨i,t,rfl,e⟩
 | .inr x,v,h=>by
  obtain ⟨t,e⟩:=Value.isStrOf_shape (x:=x) (v:=v) h
  exact .inr ⟨x,t,rfl,e⟩
theorem ra (i:Int)(t:Tok):kW (.inl i) (.int i t)=true:=by simp [kW,Value.isInt]
theorem kX (x:Str)(t:Tok):kW (.inr x) (.str x t)=true:=by simp [kW,Value.isStrOf]
theorem ES (a b:Int):decide ((Sum.inl a:Key)=Sum.inl b)=(a == b):=by
 by_cases e:a=b
 ·subst e; simp
 ·have h:¬ (Sum.inl a:Key)=Sum.inl b:=fun q=>e (Sum.inl.inj q)
  rw [decide_eq_false h]
  exact (beq_eq_false_iff_ne.mpr e).symm
theorem ET (a b:Str):decide ((Sum.inr a:Key)=Sum.inr b)=decide (a=b):=by
 by_cases e:a=b
 ·subst e; simp
 ·have h:¬ (Sum.inr a:Key)=Sum.inr b:=fun q=>e (Sum.inr.inj q)
  rw [decide_eq_false h,decide_eq_false e]
theorem EU (a:Int)(b:Str):decide ((Sum.inl a:Key)=Sum.inr b)=false:=decide_eq_false (fun q=>nomatch q)
theorem EV (a:Str)(b:Int):decide ((Sum.inr a:Key)=Sum.inl b)=false:=decide_eq_false (fun q=>nomatch q)
def bt (prog:Program)(w:World):PySem.KeyKind prog w Key where
 is:=kW
 hash:=keyH w
 inj:=fun v a b ha hb=>by
  rcases bg ha with ⟨i,t,rfl,rfl⟩ | ⟨x,t,rfl,rfl⟩
  ·rcases bg hb with ⟨j,u,rfl,e⟩ | ⟨y,u,rfl,e⟩
   ·injection e with e1 _; rw [e1]
   ·exact nomatch e
  ·rcases bg hb with ⟨j,u,rfl,e⟩ | ⟨y,u,rfl,e⟩
   ·exact nomatch e
   ·injection e with e1 _; rw [e1]
 byValue:=fun k v h=>by
  rcases bg h with ⟨i,t,rfl,rfl⟩ | ⟨x,t,rfl,rfl⟩ <;> rfl
 pyHash:=fun hv h=>by
  rcases bg hv with ⟨i,t,rfl,rfl⟩ | ⟨x,t,rfl,rfl⟩
  ·exact wpAny_pyHash_int h
  ·exact wpAny_pyHash_str h
 eqBool:=fun hu hv h=>by
  rcases bg hu with ⟨i,t,rfl,rfl⟩ | ⟨x,t,rfl,rfl⟩
  ·rcases bg hv with ⟨j,u,rfl,rfl⟩ | ⟨y,u,rfl,rfl⟩
   ·rw [ES] at h; exact wpAny_eqBool_int h
   ·rw [EU] at h; exact SeqAt.EqAt.int_str i t y u _ _ _ _ h
  ·rcases bg hv with ⟨j,u,rfl,rfl⟩ | ⟨y,u,rfl,rfl⟩
   ·rw [EV] at h; exact SeqAt.EqAt.str_int x t j u _ _ _ _ h
   ·rw [ET] at h; exact wpAny_eqBool_str h
 «strs»:=fun k x t v h=>by
  rcases bg h with ⟨i,u,rfl,e⟩ | ⟨y,u,rfl,e⟩
  ·exact nomatch e
  ·injection e with e1 _
   subst e1
   cases v <;> rfl
theorem mH (prog:Program)(w:World)(i:Int)(t:Tok):(bt prog w).is (.inl i) (.int i t)=true:=ra i t
theorem mI (prog:Program)(w:World)(x:Str)(t:Tok):(bt prog w).is (.inr x) (.str x t)=true:=kX x t
inductive V where
 | non | bl (b:Bool) | int (i:Int) | str (x:Str) | byt (b:Array UInt8) | flt (b:UInt64) | ref (a:Addr) | ty (n:String)
 deriving DecidableEq
variable{v:V}{xs vs:List V}
def RelV:V->Value->Prop
 | .non,u=>u=Value.none
 | .bl b,u=>u=Value.bool b
 | .int i,u=>∃ t,u=Value.int i t
 | .str x,u=>∃ t,u=Value.str x t
 | .byt b,u=>∃ t,u=Value.bytes b t
 | .flt b,u=>∃ t,u=Value.float b t
 | .ref a,u=>u=Value.ref a
 | .ty n,u=>u=Value.type n
abbrev Vals:List V->List Value->Prop:=Paired RelV
theorem Vals.length {xs:List V}{us:List Value}(r:Vals xs us):xs.length=us.length:=abz r
theorem Vals.get:∀ {xs:List V} {us:List Value} {i:Nat} {x:V},Vals xs us->xs[i]?=some x->∃ u,us[i]?=some u/\RelV x u
 | _,_,_,_,.nil,e=>by simp at e
 | _,_,0,_,.cons r _,e=>by simp at e; subst e; exact ⟨_,rfl,r⟩
 | _,_,i+1,x,.cons _ t,e=>by
  obtain ⟨u,h1,h2⟩:=Vals.get (i:=i) (x:=x) t (by exists e)
  exact ⟨u,(by exists h1),h2⟩
theorem Vals.set {x:V}{u:Value}(r:RelV x u):∀ {xs:List V} {us:List Value} (i:Nat),Vals xs us->Vals (xs.set i x) (us.set i u)
 | _,_,_,.nil=>.nil
 | _,_,0,.cons _ t=>.cons r t
 | _,_,i+1,.cons q t=>.cons q (Vals.set r i t)
theorem Vals.append:∀ {xs ys:List V} {us ws:List Value},Vals xs us->Vals ys ws->Vals (xs++ys) (us++ws)
 | _,_,_,_,.nil,s=>s
 | _,_,_,_,.cons r t,s=>.cons r (Vals.append t s)
theorem Vals.take:∀ {xs:List V} {us:List Value} (n:Nat),Vals xs us->Vals (xs.take n) (us.take n)
 | _,_,0,_=>.nil
 | _,_,_+1,.nil=>.nil
 | _,_,n+1,.cons r t=>.cons r (Vals.take n t)
theorem Vals.drop:∀ {xs:List V} {us:List Value} (n:Nat),Vals xs us->Vals (xs.drop n) (us.drop n)
 | _,_,0,r=>r
 | _,_,_+1,.nil=>.nil
 | _,_,n+1,.cons _ t=>Vals.drop n t
def RelO:Option V->Option Value->Prop
 | some v,some u=>RelV v u
 | none,none=>True
 | _,_=>False
def KV {κ:Type}:List (κ×V)->List (κ×Value)->Prop:=Paired fun (p:κ×V) (q:κ×Value)=>p.1=q.1/\RelV p.2 q.2
def kV:Key->V
 | .inl i=>.int i
 | .inr x=>.str x
inductive HO where
 | lst (xs:List V)
 | tup (xs:List V)
 | dK (kvs:List (Key×V)) | dT (kvs:List (List Key×V))
 | set (S:Int->Bool) (n:Nat)
 | ins (C dx:Addr) (fs:List (Str×V))
 | own (x:Addr)
 | xd (fs:List (Str×V))
 | met (f x:Addr)
 | rng (lo hi:Int)
 | frz (o:Obj) (u:HO)
 | tbl (ps:Array Value)
 | ext (φ:Heap->Prop)
variable{o:HO}
abbrev Hp:=Addr->Option HO
variable{H H':Hp}{R:V->V->Hp->Prop}
def upd (H:Hp)(a:Addr)(o:HO):Hp:=fun b=>if b=a then some o else H b
theorem ao :upd H a o a=some o:=by unfold upd; rw [if_pos rfl]
theorem aU (h:b≠a):upd H a o b=H b:=by unfold upd; rw [if_neg h]
theorem Bb {u:HO}:upd (upd H a o) a u=upd H a u:=by
 funext b; unfold upd; split <;> rfl
theorem Ip {u:HO}(h:H a=some o)(h':H b=some u)(d:o≠u):a≠b:=by
 intro e; subst e; rw [h] at h'; exact d (aaj h')
theorem bx (h:H a=some o)(h':H b=none):a≠b:=by
 intro e; subst e; rw [h] at h'; cases h'
section
variable (P:Program) (w:World)
def ObjOk (H:Hp)(h:Heap)(a:Addr):HO->Prop
 | .lst xs=>xs.length<=sizeLine/\∃ (its:List Value) (n:Nat),Vals xs its/\h.get? a=some { cls:=.type "list", data:=.seq its.toArray n }
 | .tup xs=>xs.length<=sizeLine/\∃ its:List Value,Vals xs its/\IsTup h a its.toArray
 | .dK kvs=>kvs.length<=sizeLine/\(a == sysModules)=false/\∃ vs,KV kvs vs/\h.DictOf (bt P w) a vs
 | .dT kvs=>kvs.length<=sizeLine/\(a == sysModules)=false/\∃ xs:List (List Key×Addr×Value),
   Paired (fun (p:List Key×V) (q:List Key×Addr×Value)=>p.1=q.1/\H q.2.1=some (.tup (p.1.map kV))/\RelV p.2 q.2.2) kvs xs /\
   ∃ o es ep,h.get? a=some o/\o.ExactDict/\o.data=.dict es ep/\es.toList=xs.map (entryOfKey (tupleKind (bt P w)))/\(xs.map (·.1)).Nodup
 | .set S n=>h.SetOf (intKind P w) a S n
 | .ins C dx fs=>H dx=some (.own a)/\fs.length<=1000/\dx≠a/\h.get? a=some (PySem.W.instObj C dx) /\
   ∃ mA,h.Ns1 dx mA/\(∀ f,RelO (fs.lookup f) (mA f))/\PySem.Within mA (fs.map (·.1))
 | .own _=>∃ o,h.get? a=some o
 | .xd fs=>∃ mA,h.Ns1 a mA/\∀ f,RelO (fs.lookup f) (mA f)
 | .rng lo hi=>∃ t u v,h.get? a=some { cls:=.type "range", data:=.fields #[.int lo t,.int hi u,.int 1 v] }
 | .frz o u=>h.get? a=some o/\ObjOk H h a u
 | .tbl ps=>h.get? a=some { cls:=.none,data:=.fields ps }
 | .met f x=>h.get? a=some (PySem.W.methodObj (.ref f) (.ref x))
 | .ext φ=>φ h/\(∃ o,h.get? a=some o)/\∀ h1 h2:Heap,φ h1->(∀ o,h1.get? a=some o->h2.get? a=some o)->φ h2
def HOk (H:Hp)(h:Heap):Prop:=∀ a o,H a=some o->ObjOk P w H h a o
end
theorem ObjOk.lt (x:ObjOk P w H h a o):a < h.objs.size:=by
 cases o with
 | lst xs=>obtain ⟨_,_,_,_,e⟩:=x; exact aaf e
 | tup xs=>obtain ⟨_,_,_,p⟩:=x; exact p.lt
 | dK kvs=>obtain ⟨_,_,_,_,o,_,_,e,_⟩:=x; exact aaf e
 | dT kvs=>obtain ⟨_,_,_,_,o,_,_,e,_⟩:=x; exact aaf e
 | set S n=>obtain ⟨o,_,_,_,e,_⟩:=x; exact aaf e
 | ins C dx fs=>obtain ⟨_,_,_,e,_⟩:=x; exact aaf e
 | own y=>obtain ⟨_,e⟩:=x; exact aaf e
 | xd fs=>obtain ⟨_,⟨_,_,_,e,_⟩,_⟩:=x; exact aaf e
 | rng lo hi=>obtain ⟨_,_,_,e⟩:=x; exact aaf e
 | frz ob u=>obtain ⟨e,_⟩:=x; exact aaf e
 | tbl ps=>exact aaf (show h.get? a=some _ from x)
 | met f y=>exact aaf (show h.get? a=some _ from x)
 | ext φ=>obtain ⟨_,⟨_,e⟩,_⟩:=x; exact aaf e
theorem Paired.mapP {β:Type}{F G:α->β->Prop}{l₁:List α}{l₂:List β}(h:Paired F l₁ l₂)(f:∀ a b,F a b->G a b):Paired G l₁ l₂:=by
 induction h with
 | nil=>exact .nil
 | cons r t ih=>exact .cons (f _ _ r) ih
theorem ObjOk.stay (x:ObjOk P w H h a o)(k:∀ b u,(b=a∨H b=some (.own a))->h.get? b=some u->h'.get? b=some u)
  (ho:∀ b,H b=some (.own a)->H' b=some (.own a)) (ht:∀ b xs,H b=some (.tup xs)->H' b=some (.tup xs)):ObjOk P w H' h' a o:=by
 induction o with
 | lst xs=>obtain ⟨z,its,n,r,e⟩:=x; exact ⟨z,its,n,r,k _ _ (.inl rfl) e⟩
 | tup xs=>obtain ⟨z,its,r,ob,e,c⟩:=x; exact ⟨z,its,r,ob,k _ _ (.inl rfl) e,c⟩
 | dK kvs=>obtain ⟨z,y,vs,r,ob,es,ep,e,c⟩:=x; exact ⟨z,y,vs,r,ob,es,ep,k _ _ (.inl rfl) e,c⟩
 | dT kvs =>
  obtain ⟨z,y,xs,r,ob,es,ep,e,c⟩:=x
  exact ⟨z,y,xs,Paired.mapP r fun p q z=>⟨z.1,ht _ _ z.2.1,z.2.2⟩,ob,es,ep,k _ _ (.inl rfl) e,c⟩
 | set S n=>obtain ⟨ob,es,ep,t,e,c⟩:=x; exact ⟨ob,es,ep,t,k _ _ (.inl rfl) e,c⟩
 | ins C dx fs =>
  obtain ⟨d,z,ne,e,mA,⟨od,es,ep,e2,c⟩,r⟩:=x
  exact ⟨ho _ d,z,ne,k _ _ (.inl rfl) e,mA,⟨od,es,ep,k _ _ (.inr d) e2,c⟩,r⟩
 | own y=>obtain ⟨ob,e⟩:=x; exact ⟨ob,k _ _ (.inl rfl) e⟩
 | xd fs=>obtain ⟨mA,⟨od,es,ep,e,c⟩,r⟩:=x; exact ⟨mA,⟨od,es,ep,k _ _ (.inl rfl) e,c⟩,r⟩
 | rng lo hi=>obtain ⟨t,u,v,e⟩:=x; exact ⟨t,u,v,k _ _ (.inl rfl) e⟩
 | frz ob u ih=>obtain ⟨e,q⟩:=x; exact ⟨k _ _ (.inl rfl) e,ih q⟩
 | tbl ps =>
  have e:h.get? a=some { cls:=.none,data:=.fields ps }:=x
  show h'.get? a=some { cls:=.none,data:=.fields ps }
  exact k a _ (.inl rfl) e
 | met f y =>
  have e:h.get? a=some (PySem.W.methodObj (.ref f) (.ref y)):=x
  show h'.get? a=some (PySem.W.methodObj (.ref f) (.ref y))
  exact k a _ (.inl rfl) e
 | ext φ=>obtain ⟨p,⟨o,e⟩,st⟩:=x; exact ⟨st _ _ p fun o q=>k _ _ (.inl rfl) q,⟨o,k _ _ (.inl rfl) e⟩,st⟩
theorem HOk.lt (x:HOk P w H h)(e:H a=some o):a < h.objs.size:=(x a o e).lt
theorem HOk.fresh (x:HOk P w H h)(e:h.objs.size<=a):H a=none:=by
 cases q:H a with
 | none=>rfl
 | some u=>exact absurd (aan (x.lt q) e) (aaI _)
theorem HOk.kept (x:HOk P w H h)(k:∀ b u,h.get? b=some u->h'.get? b=some u):HOk P w H h':=fun a o e =>
 (x a o e).stay (fun b u _ q=>k b u q) (fun _ q=>q) fun _ _ q=>q
theorem HOk.laid (x:HOk P w H h)(k:∀ b u,h.get? b=some u->h'.get? b=some u)(hp:h.objs.size<=a)(new:ObjOk P w (upd H a o) h' a o):HOk P w (upd H a o) h':=fun b u e=>by
 have hn:=x.fresh hp
 by_cases hb:b=a
 ·subst hb; rw [ao] at e; cases e; exact new
 ·rw [aU hb] at e
  exact (x b u e).stay (fun c v _ q=>k c v q) (fun c q=>by rw [aU (bx q hn)]; exact q) fun c xs q=>by rw [aU (bx q hn)]; exact q
def Rd (H:Hp)(a:Addr)(u:HO):Prop:=H a=some u∨∃ o,H a=some (.frz o u)
theorem Rd.ok {u:HO}(r:Rd H a u)(x:HOk P w H h):ObjOk P w H h a u:=by
 rcases r with r | ⟨o,r⟩
 ·exact x a u r
 ·obtain ⟨_,q⟩:=x a _ r
  exact q
def Mut:Option HO->Prop
 | some (.lst _)=>True
 | some (.dK _)=>True
 | some (.dT _)=>True
 | some (.set _ _)=>True
 | some (.ins _ _ _)=>True
 | some (.ext _)=>True
 | _=>False
section
variable     {x e:Addr} {o':HO}
theorem HOk.write (ok:HOk P w H h)(mu:Mut (H x))(he:e=x∨H e=some (.own x))(k:∀ b u,b≠e->h.get? b=some u->h'.get? b=some u)(heo:∃ u,h'.get? e=some u)
  (new:ObjOk P w (upd H x o') h' x o'):HOk P w (upd H x o') h':=fun b u q=>by
 have nown:∀ c y,H c=some (.own y)->c≠x:=fun c y r z=>by subst z; rw [r] at mu; exact mu
 have ntup:∀ c xs,H c=some (.tup xs)->c≠x:=fun c xs r z=>by subst z; rw [r] at mu; exact mu
 by_cases hb:b=x
 ·subst hb; rw [ao] at q; cases q; exact new
 ·rw [aU hb] at q
  by_cases hbe:b=e
  ·have q':H b=some (.own x):=by
    rcases he with z | z
    ·exact absurd (hbe.trans z) hb
    ·rw [hbe]; exact z
   rw [q] at q'; cases q'
   obtain ⟨v,hv⟩:=heo
   exact ⟨v,by rw [hbe]; exact hv⟩
  ·refine (ok b u q).stay (fun c v hc r=>k c v ?_ r) (fun c r=>by rw [aU (nown c b r)]; exact r) fun c xs r=>by rw [aU (ntup c xs r)]; exact r
   rcases hc with rfl | hc
   ·exact hbe
   ·rintro rfl
    rcases he with z | z
    ·exact nown c b hc z
    ·rw [hc] at z; cases z; exact hb rfl
end
structure Un (fs ex:List Addr)(H H':Hp)(h h':Heap):Prop where
 keep:∀ b o,h.get? b=some o->H b=none->b ∉ fs->b ∉ ex->h'.get? b=some o
 slot:∀ b o,h.get? b=some o->H b=none->b ∈ fs->b ∉ ex->∃ sl,h'.get? b=some { o with slots:=sl }
 free:∀ b o,h.get? b=some o->H b=none->b ∉ ex->H' b=none
 there:∀ b o,h.get? b=some o->b ∉ ex->∃ o',h'.get? b=some o'
 tups:∀ b xs,H b=some (.tup xs)->H' b=some (.tup xs)
 frzs:∀ b o u,H b=some (.frz o u)->H' b=some (.frz o u)
 tbls:∀ b ps,H b=some (.tbl ps)->∃ more,H' b=some (.tbl (ps++more))
section
variable {fs fs' ex ex':List Addr} {H1 H2:Hp} {h1 h2:Heap} {x e:Addr} 
theorem Un.any (u:Un fs ex H H1 h h1){ob:Obj}(q:h.get? b=some ob)(n:H b=none)(hx:b ∉ ex):∃ sl,h1.get? b=some { ob with slots:=sl }:=by
 by_cases hb:b ∈ fs
 ·exact u.slot b ob q n hb hx
 ·exact ⟨ob.slots,u.keep b ob q n hb hx⟩
theorem Un.kept (k:∀ b u,h.get? b=some u->h'.get? b=some u):Un fs ex H H h h' :=
 ⟨fun b ob q _ _ _=>k b ob q,fun b ob q _ _ _=>⟨ob.slots,k b ob q⟩,fun _ _ _ n _=>n,fun b ob q _=>⟨ob,k b ob q⟩,fun _ _ q=>q,fun _ _ _ q=>q,fun _ ps q=>⟨#[],by rw [q]; simp⟩⟩
theorem Un.refl:Un fs ex H H h h:=Un.kept fun _ _ q=>q
theorem Un.laid (k:∀ b u,h.get? b=some u->h'.get? b=some u)(hp:h.objs.size<=a)(hn:H a=none):Un fs ex H (upd H a o) h h' where
 keep:=fun b u q _ _ _=>k b u q
 slot:=fun b u q _ _ _=>⟨u.slots,k b u q⟩
 free:=fun b u q n _=>by rw [aU (aal (aan (aaf q) hp))]; exact n
 there:=fun b u q _=>⟨u,k b u q⟩
 tups:=fun b xs q=>by rw [aU (bx q hn)]; exact q
 frzs:=fun b u xs q=>by rw [aU (bx q hn)]; exact q
 tbls:=fun b ps q=>⟨#[],by rw [aU (bx q hn),q]; simp⟩
theorem Un.write (mu:Mut (H x))(he:e=x∨H e=some (.own x))(k:∀ b u,b≠e->h.get? b=some u->h'.get? b=some u)(heo:∃ u,h'.get? e=some u):Un fs ex H (upd H x o) h h':=by
 have hx:∀ b,H b=none->b≠x:=fun b n z=>by subst z; rw [n] at mu; exact mu
 have hb:∀ b,H b=none->b≠e:=fun b n z=>by
  subst z
  rcases he with r | r
  ·exact hx b n r
  ·rw [n] at r; cases r
 have hm:∀ b u,H b=some u->¬ Mut (some u)->b≠x:=fun b u q nm z=>by subst z; rw [q] at mu; exact nm mu
 refine ⟨fun b u q n _ _=>k b u (hb b n) q,fun b u q n _ _=>⟨u.slots,k b u (hb b n) q⟩,fun b u q n _=>by rw [aU (hx b n)]; exact n,fun b u q _=>?_,
  fun b xs q=>by rw [aU (hm b _ q fun z=>z)]; exact q,fun b u xs q=>by rw [aU (hm b _ q fun z=>z)]; exact q,fun b ps q=>⟨#[],by rw [aU (hm b _ q fun z=>z),q]; simp⟩⟩
 by_cases hbe:b=e
 ·subst hbe; exact heo
 ·exact ⟨u,k b u hbe q⟩
end
def trk (h:Heap)(H:Hp):List Addr:=(List.range h.objs.size).filter fun a=>(H a).isSome
def v8 (h:Heap)(H:Hp):Heap:=PySem.W.hideAll h (trk h H)
theorem rb (h:Heap)(H:Hp):(v8 h H).objs.size=h.objs.size:=PySem.W.hideAll_size _ _
theorem v9 {o:Obj}(e:h.get? b=some o)(n:H b=none):(v8 h H).get? b=some o :=
 abD _ e fun hm=>by
  have q:(H b).isSome=true:=(List.mem_filter.mp hm).2
  rw [n] at q; simp at q
theorem Bc {o:Obj}(e:(v8 h H).get? b=some o):h.get? b=some o/\H b=none:=by
 have e':h.get? b=some o:=aa5 (trk h H) e
 refine ⟨e',?_⟩
 cases q:H b with
 | none=>rfl
 | some x =>
  have hm:b ∈ trk h H:=List.mem_filter.mpr ⟨List.mem_range.mpr (aaf e'),by simp [q]⟩
  have z:(v8 h H).get? b=none:=PySem.W.hideAll_none (trk h H) hm
  rw [z] at e; cases e
def jV (g h:Heap)(L:Addr):List (Addr×Obj):=(List.range h.objs.size).filterMap fun a=>if a=L∨(g.get? a).isSome=true then none else (h.get? a).map fun o=>(a,o)
theorem eV {g:Heap}{o:Obj}(h1:a≠L)(h2:g.get? a=none)(h3:h.get? a=some o):(a,o) ∈ jV g h L :=
 List.mem_filterMap.mpr ⟨a,List.mem_range.mpr (aaf h3),by simp [h1,h2,h3]⟩
theorem jb {g:Heap}{p:Addr×Obj}(hp:p ∈ jV g h L):p.1≠L/\g.get? p.1=none/\h.get? p.1=some p.2:=by
 obtain ⟨b,_,e⟩:=List.mem_filterMap.mp hp
 split at e
 ·cases e
 ·rename_i hn
  cases q:h.get? b with
  | none=>rw [q] at e; simp at e
  | some u =>
   rw [q] at e
   simp only [Option.map_some,Option.some.injEq] at e
   subst e
   refine ⟨fun z=>hn (.inl z),?_,q⟩
   show g.get? b=none
   cases r:g.get? b with
   | none=>rfl
   | some v=>exact (hn (.inr (by simp [r]))).elim
def rest (g h:Heap)(L d:Addr):List (Addr×Obj):=(jV g h L).filter fun p=>decide (p.1≠d)
theorem wa {g:Heap}:News g L h (jV g h L):=fun p hp=>let ⟨a,b,c⟩:=jb hp; ⟨c,a,b⟩
structure Mod (K:Frag)(mg:Str->Option Value)(base:Heap):Prop where
 kin:K.In base
 glob:base.Ns mainGlobals mg
 blt:∃ mb,base.Ns builtinsNs mb/\∀ x:Str,x ≠ "__name__" -> mb x=bootBuiltins x
 nolimit:base.NoLimit
structure Cx where
 prog:Program
 w:World
 K:Frag
 mg:Str->Option Value
 base:Heap
 A:Around
 N:List Str
 s₀:Shared
 H₀:Hp
 env:Env
 outer:List Env
 stack:List Env
 ex:List Addr
 fn:Str->Bool
 calm:Bool
 pn:List (Addr×Obj)
 xe:Value->Shared->Prop
variable{X:Cx}
def frs (l:List Env):List Addr:=l.filterMap (·.frame)
abbrev Cx.fs (X:Cx):List Addr:=frs X.outer
def Vis (sc:Scope)(x:Str):Prop:=sc.names.lookup x=some .local∨sc.names.lookup x=some .cell∨sc.names.lookup x=some .free
def Loc (sc:Scope)(x:Str):Prop:=sc.names.lookup x=some .local∨sc.names.lookup x=some .cell
def JK (env:Env)(h:Heap)(m:Str->Option Value)(x:Str)(u:Value):Prop :=
 (env.kindOf x=some .local/\m x=some u)∨((env.kindOf x=some .cell∨env.kindOf x=some .free)/\∃ c,env.cells.lookup x=some c/\h.IsCell c (some u))
structure Cx.Ok (X:Cx):Prop where
 mod:Mod X.K X.mg X.base
 kind:X.env.scope.kind=.function
 glob:X.env.globals=mainGlobals
 blt:X.env.builtins=builtinsNs
 above:X.s₀.heap.objs.size<=X.env.locals
 inj:∀ x y c,X.env.cells.lookup x=some c->X.env.cells.lookup y=some c->x=y
 has:∀ x,(X.env.kindOf x=some .cell∨X.env.kindOf x=some .free)->∃ c,X.env.cells.lookup x=some c
 cab:∀ x c,X.fn x=true->X.env.cells.lookup x=some c->X.s₀.heap.objs.size<=c
 hd:X.calm=true->X.A.handled=none
 frames:X.A.frames=some X.stack
 stk:X.stack=X.outer∨(X.stack=X.env::X.outer/\X.env.frame=some X.env.locals)
 exf:∀ b ∈ X.ex,b≠X.env.locals/\∀ x c,X.env.cells.lookup x=some c->c≠b
 bs:∀ b o,X.base.get? b=some o->X.s₀.heap.get? b=some o/\X.H₀ b=none
 bsz:X.base.objs.size<=X.s₀.heap.objs.size
 noex:∀ b o,X.base.get? b=some o->b ∉ X.ex
 exfs:∀ b ∈ X.ex,b ∉ X.fs
 funs:X.s₀.heap.FunFrames X.base X.outer
 frf:∀ b ∈ X.fs,X.H₀ b=none
structure Inv (X:Cx)(pins:List (Addr×Obj))(σ:List (Option V))(H:Hp)(s:Shared):Prop where
 ok:X.Ok
 os:s.os=X.s₀.os
 bare:AllBare s.gens
 base:Un X.fs X.ex X.H₀ H X.s₀.heap s.heap
 loc:∃ m,s.heap.Ns X.env.locals m/\∀ (i:Nat) (x:Str) (v:V),X.N[i]?=some x->σ[i]?=some (some v)->Vis X.env.scope x->∃ u,RelV v u/\JK X.env s.heap m x u
 cell:∀ x c,X.env.cells.lookup x=some c->∃ v,s.heap.IsCell c v
 free:H X.env.locals=none
 freeC:∀ x c,X.env.cells.lookup x=some c->H c=none
 pin:∀ p ∈ X.pn++pins,s.heap.get? p.1=some p.2/\H p.1=none/\p.1≠X.env.locals/\p.1 ∉ X.fs/\∀ v,p.2.data≠.cell v
 hok:HOk X.prog X.w H s.heap
 len:σ.length=X.N.length
section
variable   {σ:List (Option V)}   
theorem Cx.Ok.nofr (ok:X.Ok){o:Obj}(e:X.base.get? b=some o):b ∉ X.fs:=fun hb=>by
 have:=(ok.funs.mem hb).1
 rw [e] at this; cases this
theorem Inv.bs (I:Inv X pins σ H s):∀ b o,X.base.get? b=some o->s.heap.get? b=some o/\H b=none:=fun b o e =>
 ⟨I.base.keep b o (I.ok.bs b o e).1 (I.ok.bs b o e).2 (I.ok.nofr e) (I.ok.noex b o e),I.base.free b o (I.ok.bs b o e).1 (I.ok.bs b o e).2 (I.ok.noex b o e)⟩
theorem Inv.bk (I:Inv X pins σ H s):∀ b o,X.base.get? b=some o->s.heap.get? b=some o:=fun b o e=>(I.bs b o e).1
theorem Inv.mod (I:Inv X pins σ H s):Mod X.K X.mg X.base:=I.ok.mod
theorem Inv.kIn (I:Inv X pins σ H s):X.K.In s.heap:=I.ok.mod.kin.keeps I.bk
theorem Inv.lt (I:Inv X pins σ H s):X.env.locals < s.heap.objs.size:=let ⟨_,hn,_⟩:=I.loc; hn.lt
theorem Inv.sz (I:Inv X pins σ H s):X.s₀.heap.objs.size<=s.heap.objs.size:=aaq I.ok.above (Nat.le_of_lt I.lt)
theorem Inv.nofs (I:Inv X pins σ H s)(h:s.heap.objs.size<=a):a ∉ X.fs:=fun hb=>by
 obtain ⟨_,o,ho,_⟩:=I.ok.funs.mem hb
 exact absurd (aan (aaf ho) (aaq I.sz h)) (aaI _)
theorem Inv.cne (I:Inv X pins σ H s):∀ x c,X.env.cells.lookup x=some c->c≠X.env.locals:=fun x c e z=>by
 obtain ⟨v,o,ho,hd⟩:=I.cell x c e
 obtain ⟨m,⟨o',es,ep,ho',hd',_⟩,_⟩:=I.loc
 rw [z,ho'] at ho; cases ho; rw [hd'] at hd; cases hd
theorem Inv.funs (I:Inv X pins σ H s):s.heap.FunFrames X.base X.outer:=by
 have all:∀ (l:List Env),(∀ b ∈ frs l,b ∈ X.fs)->X.s₀.heap.FunFrames X.base l->s.heap.FunFrames X.base l:=by
  intro l
  induction l with
  | nil=>intro _ _; trivial
  | cons env r ih =>
   intro hs hl
   obtain ⟨hk,⟨L,o,hf,hn,ho,hd⟩,hr⟩:=hl
   have hL:L ∈ X.fs:=hs L (by unfold frs; rw [aaz,hf]; exact aad)
   obtain ⟨sl,e⟩:=I.base.slot L o ho (I.ok.frf L hL) hL fun z=>I.ok.exfs L z hL
   exact ⟨hk,⟨L,_,hf,hn,e,hd⟩,ih (fun b hb=>hs b (by unfold frs; rw [aaz,hf]; exact aag _ hb)) hr⟩
 exact all X.outer (fun _ hb=>hb) I.ok.funs
theorem Inv.stack (I:Inv X pins σ H s):s.heap.FunFrames X.base X.stack:=by
 rcases I.ok.stk with e | ⟨e,hf⟩
 ·rw [e]; exact I.funs
 ·rw [e]
  obtain ⟨m,hn,_⟩:=I.loc
  refine .cons (by rw [I.ok.kind]; decide) hf hn ?_ I.funs
  exact Heap.get?_none_of_le (aaq I.ok.bsz I.ok.above)
theorem Inv.stkSub (I:Inv X pins σ H s):∀ b ∈ frs X.stack,b ∈ X.env.locals::X.fs:=fun b hb=>by
 rcases I.ok.stk with e | ⟨e,hf⟩
 ·rw [e] at hb; exact aag _ hb
 ·rw [e] at hb
  unfold frs at hb
  rw [aaz,hf] at hb
  exact hb
theorem Inv.stkFree (I:Inv X pins σ H s):∀ b ∈ frs X.stack,H b=none:=fun b hb=>by
 rcases List.mem_cons.mp (I.stkSub b hb) with e | hb
 ·rw [e]; exact I.free
 ·obtain ⟨_,o,ho,_⟩:=I.ok.funs.mem hb
  exact I.base.free b o ho (I.ok.frf b hb) fun z=>I.ok.exfs b z hb
theorem Inv.step {g':Array GenState}{d':Drawn}(I:Inv X pins σ H s)
  (hch:∀ b ∈ ch,(b ∈ X.ex∨X.s₀.heap.objs.size<=b)/\b≠X.env.locals/\(∀ x c,X.env.cells.lookup x=some c->c≠b)/\∀ p ∈ X.pn++pins,p.1≠b)
  (keep:∀ b o,b≠X.env.locals->b ∉ X.fs->b ∉ ch->s.heap.get? b=some o->H b=none->h'.get? b=some o)
  (slot:∀ b o,b≠X.env.locals->b ∈ X.fs->b ∉ ch->s.heap.get? b=some o->H b=none->∃ sl,h'.get? b=some { o with slots:=sl }) (free:∀ b o,b ∉ ch->s.heap.get? b=some o->H b=none->H' b=none)
  (there:∀ b o,b ∉ ch->s.heap.get? b=some o->∃ o',h'.get? b=some o')
  (tups:∀ b xs,H b=some (.tup xs)->H' b=some (.tup xs)) (frzs:∀ b o u,H b=some (.frz o u)->H' b=some (.frz o u)) (tbls:∀ b ps,H b=some (.tbl ps)->∃ more,H' b=some (.tbl (ps++more)))
  (ns:∀ m,s.heap.Ns X.env.locals m->h'.Ns X.env.locals m) (hok:HOk X.prog X.w H' h') (hg:AllBare g') :
  Inv X pins σ H' { s with heap:=h',gens:=g',drawn:=d',toks:=t' }:=by
 have neL:∀ b o,X.s₀.heap.get? b=some o->b≠X.env.locals:=fun b o e=>aal (aan (aaf e) I.ok.above)
 have neC:∀ b o,X.s₀.heap.get? b=some o->b ∉ X.ex->b ∉ ch:=fun b o e hx hb=>by
  rcases (hch b hb).1 with z | z
  ·exact hx z
  ·exact absurd (aan (aaf e) z) (aaI _)
 have cellK:∀ x c,X.env.cells.lookup x=some c->∀ v,s.heap.IsCell c v->h'.IsCell c v:=fun x c e v ⟨o,ho,hd⟩=>by
  have nch:c ∉ ch:=fun z=>(hch c z).2.2.1 x c e rfl
  by_cases hc:c ∈ X.fs
  ·obtain ⟨sl,q⟩:=slot c o (I.cne x c e) hc nch ho (I.freeC x c e)
   exact ⟨_,q,hd⟩
  ·exact ⟨o,keep c o (I.cne x c e) hc nch ho (I.freeC x c e),hd⟩
 refine ⟨I.ok,I.os,hg,⟨fun b o e n hb hx=>?_,fun b o e n hb hx=>?_,fun b o e n hx=>?_,fun b o e hx=>?_,fun b xs e=>tups b xs (I.base.tups b xs e),fun b o xs e=>frzs b o xs (I.base.frzs b o xs e),fun b ps e=>?_⟩,?_,fun x c e=>?_,?_,fun x c e=>?_,fun p hp=>?_,hok,I.len⟩
 ·exact keep b o (neL b o e) hb (neC b o e hx) (I.base.keep b o e n hb hx) (I.base.free b o e n hx)
 ·obtain ⟨sl,e1⟩:=I.base.slot b o e n hb hx
  obtain ⟨sl',e2⟩:=slot b _ (neL b o e) hb (neC b o e hx) e1 (I.base.free b o e n hx)
  exact ⟨sl',e2⟩
 ·obtain ⟨o',e1⟩:=I.base.there b o e hx
  exact free b o' (neC b o e hx) e1 (I.base.free b o e n hx)
 ·obtain ⟨o',e1⟩:=I.base.there b o e hx
  exact there b o' (neC b o e hx) e1
 ·obtain ⟨m1,e1⟩:=I.base.tbls b ps e
  obtain ⟨m2,e2⟩:=tbls b _ e1
  exact ⟨m1++m2,by rw [e2,Array.append_assoc]⟩
 ·obtain ⟨m,hn,hl⟩:=I.loc
  refine ⟨m,ns m hn,fun i x v e1 e2 e3=>?_⟩
  obtain ⟨u,r,l⟩:=hl i x v e1 e2 e3
  refine ⟨u,r,?_⟩
  rcases l with l | ⟨k,c,e,z⟩
  ·exact .inl l
  ·exact .inr ⟨k,c,e,cellK x c e _ z⟩
 ·obtain ⟨v,z⟩:=I.cell x c e
  exact ⟨v,cellK x c e v z⟩
 ·obtain ⟨m,⟨o,_,_,ho,_⟩,_⟩:=I.loc
  exact free _ o (fun z=>(hch _ z).2.1 rfl) ho I.free
 ·obtain ⟨v,o,ho,hd⟩:=I.cell x c e
  exact free c o (fun z=>(hch c z).2.2.1 x c e rfl) ho (I.freeC x c e)
 ·obtain ⟨e,n,ne,nf,d⟩:=I.pin p hp
  have nch:p.1 ∉ ch:=fun z=>(hch p.1 z).2.2.2 p hp rfl
  exact ⟨keep p.1 p.2 ne nf nch e n,free p.1 p.2 nch e n,ne,nf,d⟩
theorem Inv.un (I:Inv X pins σ H s)(u:Un X.fs [] H H' s.heap h')(hok:HOk X.prog X.w H' h'):Inv X pins σ H' { s with heap:=h',toks:=t' }:=by
 obtain ⟨m,⟨o,es,ep,ho,r⟩,_⟩:=id I.loc
 obtain ⟨sl,hL⟩:=u.any ho I.free (by simp)
 exact I.step (g':=s.gens) (d':=s.drawn) (ch:=[]) (fun _ z=>nomatch z) (fun b o _ hb _ e n=>u.keep b o e n hb (by simp)) (fun b o _ hb _ e n=>u.slot b o e n hb (by simp)) (fun b o _ e n=>u.free b o e n (by simp)) (fun b o _ e=>u.there b o e (by simp)) u.tups u.frzs u.tbls (fun m' hm=>by
  obtain ⟨o',es',ep',ho',r'⟩:=hm
  rw [ho] at ho'; cases ho'
  exact ⟨_,es',ep',hL,r'⟩) hok I.bare
theorem Inv.call {g':Array GenState}{d':Drawn}(I:Inv X pins σ H s)(u:Un (frs X.stack) ch H H' s.heap h')(hok:HOk X.prog X.w H' h')(hg:AllBare g')
  (hch:∀ b ∈ ch,(b ∈ X.ex∨X.s₀.heap.objs.size<=b)/\b≠X.env.locals/\(∀ x c,X.env.cells.lookup x=some c->c≠b)/\∀ p ∈ X.pn++pins,p.1≠b) :
  Inv X pins σ H' { s with heap:=h',gens:=g',drawn:=d',toks:=t' }:=by
 obtain ⟨m,⟨o,es,ep,ho,r⟩,_⟩:=id I.loc
 obtain ⟨sl,hL⟩:=u.any ho I.free fun z=>(hch _ z).2.1 rfl
 exact I.step (ch:=ch) hch (fun b o hL hb hc e n=>u.keep b o e n (fun z=>(List.mem_cons.mp (I.stkSub b z)).elim hL hb) hc) (fun b o _ _ hc e n=>u.any e n hc) (fun b o hc e n=>u.free b o e n hc) (fun b o hc e=>u.there b o e hc) u.tups u.frzs u.tbls (fun m' hm=>by
  obtain ⟨o',es',ep',ho',r'⟩:=hm
  rw [ho] at ho'; cases ho'
  exact ⟨_,es',ep',hL,r'⟩) hok hg
theorem Inv.turned (I:Inv X pins σ H s)(k:∀ b o,b≠it->s.heap.get? b=some o->h'.get? b=some o)(hn:H it=none)(hL:it≠X.env.locals)
  (h1:it ∈ X.ex∨X.s₀.heap.objs.size<=it) (h2:∀ x c,X.env.cells.lookup x=some c->c≠it) (h3:∀ p ∈ X.pn++pins,p.1≠it):Inv X pins σ H { s with heap:=h',toks:=t' }:=by
 have nit:∀ b u,H b=some u->b≠it:=fun b u e z=>by rw [z,hn] at e; cases e
 refine I.step (g':=s.gens) (d':=s.drawn) (ch:=[it]) (fun b hb=>?_) (fun b o _ _ hc e _=>k b o (fun z=>hc (by simp [z])) e) (fun b o _ _ hc e _=>⟨o.slots,k b o (fun z=>hc (by simp [z])) e⟩) (fun _ _ _ _ n=>n)
  (fun b o hc e=>⟨o,k b o (fun z=>hc (by simp [z])) e⟩) (fun _ _ e=>e) (fun _ _ _ e=>e) (fun b ps e=>⟨#[],by rw [e]; simp⟩) (fun m hm=>?_) (fun b u e=>?_) I.bare
 ·have e:b=it:=(by exists hb)
  subst e
  exact ⟨h1,hL,h2,h3⟩
 ·obtain ⟨o,es,ep,ho,r⟩:=hm
  exact ⟨o,es,ep,k _ o (abr hL) ho,r⟩
 ·refine (I.hok b u e).stay (fun c v hc q=>k c v ?_ q) (fun _ q=>q) fun _ _ q=>q
  rcases hc with z | z
  ·rw [z]; exact nit b u e
  ·exact nit c _ z
theorem Inv.tok (I:Inv X pins σ H s)(t:Nat):Inv X pins σ H { s with toks:=t }:=I.un (h':=s.heap) (t':=t) Un.refl I.hok
theorem Inv.kept (I:Inv X pins σ H s)(k:∀ b u,s.heap.get? b=some u->h'.get? b=some u):Inv X pins σ H { s with heap:=h',toks:=t' }:=I.un (Un.kept k) (I.hok.kept k)
theorem Inv.laid (I:Inv X pins σ H s)(k:∀ b u,s.heap.get? b=some u->h'.get? b=some u)(hp:s.heap.objs.size<=a)(new:ObjOk X.prog X.w (upd H a o) h' a o) :
  Inv X pins σ (upd H a o) { s with heap:=h',toks:=t' }:=I.un (Un.laid k hp (I.hok.fresh hp)) (I.hok.laid k hp new)
theorem Inv.write {x e:Addr}(I:Inv X pins σ H s)(mu:Mut (H x))(he:e=x∨H e=some (.own x))(k:∀ b u,b≠e->s.heap.get? b=some u->h'.get? b=some u)(heo:∃ u,h'.get? e=some u)
  (new:ObjOk X.prog X.w (upd H x o) h' x o):Inv X pins σ (upd H x o) { s with heap:=h',toks:=t' }:=I.un (Un.write mu he k heo) (I.hok.write mu he k heo new)
theorem Inv.pins_of {pins':List (Addr×Obj)}(I:Inv X pins σ H s)(h:∀ p ∈ pins',s.heap.get? p.1=some p.2/\H p.1=none/\p.1≠X.env.locals/\p.1 ∉ X.fs/\∀ v,p.2.data≠.cell v):Inv X pins' σ H s :=
 ⟨I.ok,I.os,I.bare,I.base,I.loc,I.cell,I.free,I.freeC,fun p hp=>(List.mem_append.mp hp).elim (fun z=>I.pin p (aaT _ z)) (h p),I.hok,I.len⟩
theorem nB (hN:N.Nodup){x:Str}(a:N[i]?=some x)(b:N[j]?=some x):i=j:=by
 obtain ⟨h1,e1⟩:=List.getElem?_eq_some_iff.mp a
 obtain ⟨h2,e2⟩:=List.getElem?_eq_some_iff.mp b
 exact (List.getElem_inj hN).mp (e1.trans e2.symm)
theorem hU {M:Model}{x:Str}{Q:Unit->Shared->Prop}(I:Inv X pins σ H s)(hN:X.N.Nodup)(hi:X.N[i]?=some x)(hx:Loc X.env.scope x)(r:RelV v u)
  (h:∀ s',Inv X pins (σ.set i (some v)) H s'->(∃ a,Heap.SameBut a s.heap s'.heap/\(a=X.env.locals∨X.env.cells.lookup x=some a))->Q () s') (hf:autoParam (X.fn x=true∨X.env.scope.names.lookup x=some .local) L2.aF._auto_1):wpAny M A (storeName X.env x u) Q E s:=by
 obtain ⟨m,hn,hl⟩:=id I.loc
 have hcls:(X.env.scope.kind == .class || (X.env.scope.kind == .module && X.env.locals != X.env.globals))=false:=by rw [I.ok.kind]; rfl
 have hiσ:i < σ.length:=by rw [I.len]; exact (List.getElem?_eq_some_iff.mp hi).1
 have cne:=I.cne
 have tracked:∀ {a:Addr} {h':Heap},(∃ o,s.heap.get? a=some o/\H a=none)->Heap.SameBut a s.heap h'->HOk X.prog X.w H h':=fun {a h'} ha hs b ob e=>by
  obtain ⟨_,_,hfree⟩:=ha
  refine (I.hok b ob e).stay (fun c w' hc q=>(hs.2 c ?_).trans q) (fun _ q=>q) fun _ _ q=>q
  rintro rfl
  rcases hc with rfl | hc
  ·rw [hfree] at e; cases e
  ·rw [hfree] at hc; cases hc
 rcases hx with hk | hk
 ·refine wpAny_storeName_local hk hn (fun h' hn' hs=>?_) hcls
  obtain ⟨oL,_,_,hoL,_⟩:=id hn
  refine h _ ⟨I.ok,I.os,I.bare,⟨fun b o e n hb hx=>?_,fun b o e n hb hx=>?_,I.base.free,fun b o e hx=>?_,I.base.tups,I.base.frzs,I.base.tbls⟩,⟨_,hn',fun j y v' e1 e2 e3=>?_⟩,fun y c e=>?_,I.free,I.freeC,fun p hp=>?_,tracked ⟨oL,hoL,I.free⟩ hs,by simpa using I.len⟩ ⟨_,hs,.inl rfl⟩
  ·exact (hs.2 b (aal (aan (aaf e) I.ok.above))).trans (I.base.keep b o e n hb hx)
  ·obtain ⟨sl,e1⟩:=I.base.slot b o e n hb hx
   exact ⟨sl,(hs.2 b (aal (aan (aaf e) I.ok.above))).trans e1⟩
  ·obtain ⟨o',e1⟩:=I.base.there b o e hx
   exact ⟨o',(hs.2 b (aal (aan (aaf e) I.ok.above))).trans e1⟩
  ·by_cases hj:j=i
   ·subst hj
    rw [hi] at e1; cases e1
    rw [List.getElem?_set_self hiσ] at e2
    cases e2
    exact ⟨u,r,.inl ⟨hk,by simp⟩⟩
   ·rw [List.getElem?_set_ne (abr hj)] at e2
    obtain ⟨u',r',q⟩:=hl j y v' e1 e2 e3
    refine ⟨u',r',?_⟩
    rcases q with ⟨k,e⟩ | ⟨k,c,e,z⟩
    ·refine .inl ⟨k,?_⟩
     have:y≠x:=fun e=>hj (nB hN e1 (e ▸ hi))
     simp [this,e]
    ·exact .inr ⟨k,c,e,z.sameBut hs (cne y c e)⟩
  ·obtain ⟨w',z⟩:=I.cell y c e
   exact ⟨w',z.sameBut hs (cne y c e)⟩
  ·obtain ⟨e,n,ne,nf,d⟩:=I.pin p hp
   exact ⟨(hs.2 p.1 ne).trans e,n,ne,nf,d⟩
 ·have hfn:X.fn x=true:=by
   rcases hf with z | z
   ·exact z
   ·rw [z] at hk; cases hk
  obtain ⟨c,hc⟩:=I.ok.has x (.inl hk)
  obtain ⟨w',z⟩:=I.cell x c hc
  refine wpAny_storeName_cell I.ok.kind hk hc z (fun h' hc' hs=>?_)
  obtain ⟨oc,hoc,hocd⟩:=id z
  refine h { s with heap:=h' } ⟨I.ok,I.os,I.bare,⟨fun b o e n hb hx=>?_,fun b o e n hb hx=>?_,I.base.free,fun b o e hx=>?_,I.base.tups,I.base.frzs,I.base.tbls⟩,⟨m,hn.sameBut hs (abr (cne x c hc)),fun j y v' e1 e2 e3=>?_⟩,fun y c' e=>?_,I.free,I.freeC,fun p hp=>?_,tracked ⟨oc,hoc,I.freeC x c hc⟩ hs,by simpa using I.len⟩ ⟨c,hs,.inr hc⟩
  ·exact (hs.2 b (aal (aan (aaf e) (I.ok.cab x c hfn hc)))).trans (I.base.keep b o e n hb hx)
  ·obtain ⟨sl,e1⟩:=I.base.slot b o e n hb hx
   exact ⟨sl,(hs.2 b (aal (aan (aaf e) (I.ok.cab x c hfn hc)))).trans e1⟩
  ·obtain ⟨o',e1⟩:=I.base.there b o e hx
   exact ⟨o',(hs.2 b (aal (aan (aaf e) (I.ok.cab x c hfn hc)))).trans e1⟩
  ·by_cases hj:j=i
   ·subst hj
    rw [hi] at e1; cases e1
    rw [List.getElem?_set_self hiσ] at e2
    cases e2
    exact ⟨u,r,.inr ⟨.inl hk,c,hc,hc'⟩⟩
   ·rw [List.getElem?_set_ne (abr hj)] at e2
    obtain ⟨u',r',q⟩:=hl j y v' e1 e2 e3
    refine ⟨u',r',?_⟩
    rcases q with q | ⟨k,c',e,z'⟩
    ·exact .inl q
    ·refine .inr ⟨k,c',e,z'.sameBut hs ?_⟩
     rintro rfl
     exact hj (nB hN e1 (I.ok.inj _ _ _ e hc ▸ hi))
  ·by_cases hcc:c'=c
   ·subst hcc; exact ⟨_,hc'⟩
   ·obtain ⟨w2,z2⟩:=I.cell y c' e
    exact ⟨w2,z2.sameBut hs hcc⟩
  ·obtain ⟨e,n,ne,nf,d⟩:=I.pin p hp
   refine ⟨(hs.2 p.1 ?_).trans e,n,ne,nf,d⟩
   intro q
   rw [q,hoc] at e
   have q':oc=p.2:=aaj e
   exact d w' (by rw [← q']; exact hocd)
theorem jW {M:Model}{x:Str}{Q:Unit->Shared->Prop}(I:Inv X pins σ H s)(hN:X.N.Nodup)(hi:X.N[i]?=some x)(hx:Loc X.env.scope x)(r:RelV v u)
  (h:∀ s',Inv X pins (σ.set i (some v)) H s'->Q () s') (hf:autoParam (X.fn x=true∨X.env.scope.names.lookup x=some .local) L2.aF._auto_1):wpAny M A (storeName X.env x u) Q E s :=
 hU I hN hi hx r (fun s' I' _=>h s' I') hf
theorem Inv.call' (I:Inv X pins σ H s)(ho:s'.os=s.os)(u:Un (frs X.stack) ch H H' s.heap s'.heap)(hok:HOk X.prog X.w H' s'.heap)(hg:AllBare s'.gens)
  (hch:∀ b ∈ ch,(b ∈ X.ex∨X.s₀.heap.objs.size<=b)/\b≠X.env.locals/\(∀ x c,X.env.cells.lookup x=some c->c≠b)/\∀ p ∈ X.pn++pins,p.1≠b):Inv X pins σ H' s':=by
 obtain ⟨h',g',d',t',o'⟩:=s'
 have e:o'=s.os:=ho
 subst e
 exact I.call (g':=g') (t':=t') (d':=d') u hok hg hch
end
abbrev XK:=Value->Option Addr->Hp->Prop
abbrev St:=List (Option V)
variable{σ:St}
abbrev VK:=V->Hp->Prop
abbrev TE:=St->Hp->VK->Prop
variable{ta tb te tl:TE}
abbrev TT:=St->Hp->(Bool->Hp->Prop)->Prop
variable{tc:TT}
abbrev TA:=St->Hp->(List V->Hp->Prop)->Prop
variable{t:TA}
structure Ends where
 nx:St->Hp->Prop
 rt:VK
 bk:St->Hp->Prop:=fun _ _=>False
 ct:St->Hp->Prop:=fun _ _=>False
abbrev TS:=Ends->St->Hp->Prop
def EP (X:Cx)(pins:List (Addr×Obj))(σ:St)(Q:VK)(u:Value)(s':Shared):Prop:=∃ v H',Inv X pins σ H' s'/\RelV v u/\Q v H'
def TP (X:Cx)(pins:List (Addr×Obj))(σ:St)(Q:Bool->Hp->Prop)(b:Bool)(s':Shared):Prop:=∃ H',Inv X pins σ H' s'/\Q b H'
def AP (X:Cx)(pins:List (Addr×Obj))(σ:St)(Q:List V->Hp->Prop)(us:List Value)(s':Shared):Prop:=∃ vs H',Inv X pins σ H' s'/\Vals vs us/\Q vs H'
def SP (X:Cx)(pins:List (Addr×Obj))(D:Ends)(f:Flow)(s':Shared):Prop :=
 match f with
 | .next=>∃ σ' H',Inv X pins σ' H' s'/\D.nx σ' H'
 | .brk=>∃ σ' H',Inv X pins σ' H' s'/\D.bk σ' H'
 | .cont=>∃ σ' H',Inv X pins σ' H' s'/\D.ct σ' H'
 | .ret u=>∃ v σ' H',Inv X pins σ' H' s'/\RelV v u/\D.rt v H'
def PE (X:Cx)(e:Expr)(t:TE):Prop :=
 ∀ (pins:List (Addr×Obj)) (s:Shared) (σ:St) (H:Hp) (Q:VK),Inv X pins σ H s->t σ H Q->wpAny (model X.prog X.w) X.A (eval e X.env) (EP X pins σ Q) X.xe s
def PT (X:Cx)(e:Expr)(t:TT):Prop :=
 ∀ (pins:List (Addr×Obj)) (s:Shared) (σ:St) (H:Hp) (Q:Bool->Hp->Prop),Inv X pins σ H s->t σ H Q->wpAny (model X.prog X.w) X.A (isTrue e X.env (eval e X.env)) (TP X pins σ Q) X.xe s
def PW (X:Cx)(e:Expr)(t:TT):Prop :=
 ∀ (whole:Sem Value) (pins:List (Addr×Obj)) (s:Shared) (σ:St) (H:Hp) (Q:Bool->Hp->Prop),Inv X pins σ H s->t σ H Q->wpAny (model X.prog X.w) X.A (isTrue e X.env whole) (TP X pins σ Q) X.xe s
theorem PW.pt {t:TT}(h:PW X e t):PT X e t:=h _
def PA (X:Cx)(es:List Expr)(t:TA):Prop :=
 ∀ (pos:Pos) (pins:List (Addr×Obj)) (s:Shared) (σ:St) (H:Hp) (Q:List V->Hp->Prop),Inv X pins σ H s->t σ H Q->wpAny (model X.prog X.w) X.A (spliced (backTo pos (starEach es X.env))) (AP X pins σ Q) X.xe s
def PS (X:Cx)(st:Stmt)(t:TS):Prop :=
 ∀ (pins:List (Addr×Obj)) (s:Shared) (σ:St) (H:Hp) (D:Ends),Inv X pins σ H s->t D σ H->wpAny (model X.prog X.w) X.A (exec st X.env) (SP X pins D) X.xe s
def PSs (X:Cx)(st:List Stmt)(t:TS):Prop :=
 ∀ (pins:List (Addr×Obj)) (s:Shared) (σ:St) (H:Hp) (D:Ends),Inv X pins σ H s->t D σ H->wpAny (model X.prog X.w) X.A (execs st X.env) (SP X pins D) X.xe s
theorem thn {t:Sem α}{Q Q':α->Shared->Prop}{M:Model}(h:wpAny M A t Q E s)(hQ:∀ a s,Q a s->Q' a s):wpAny M A t Q' E s:=aaG h hQ fun _ _ x=>x
section
theorem bin {a b:Expr}(ha:PE X a ta)(hb:PE X b tb)(I:Inv X pins σ H s)(h:ta σ H fun x H1=>tb σ H1 fun y H2=>R x y H2)
   {Q:α->Shared->Prop} {f:Value->Value->Sem α}
  (hf:∀ v u s2 x y H2,Inv X pins σ H2 s2->RelV x v->RelV y u->R x y H2->wpAny (model X.prog X.w) X.A (f v u) Q X.xe s2) :
  wpAny (model X.prog X.w) X.A (eval a X.env) (fun v s₁=>wpAny (model X.prog X.w) X.A (eval b X.env) (fun u s₂=>wpAny (model X.prog X.w) X.A (f v u) Q X.xe s₂) X.xe s₁) X.xe s:=by
 refine thn (ha pins s σ H _ I h) fun v s1 ⟨x,H1,I1,r1,q1⟩=>?_
 refine thn (hb pins s1 σ H1 _ I1 q1) fun u s2 ⟨y,H2,I2,r2,q2⟩=>?_
 exact hf v u s2 x y H2 I2 r1 r2 q2
def nE (i:Nat):TE:=fun σ H Q=>∃ v,σ[i]?=some (some v)/\Q v H
def tC (v:V):TE:=fun _ H Q=>Q v H
theorem Ad  {x:Str}  (hN:X.N[i]?=some x) (hv:Vis X.env.scope x) (hd:autoParam ((x == ("__debug__" : Str))=false) L2.aD._auto_1) (hcd:autoParam ((x == ("__classdict__" : Str))=false) L2.aD._auto_1):PE X (.Name x pos) (nE i):=by
 intro pins s σ H Q I h
 obtain ⟨v,e,h⟩:=h
 obtain ⟨m,hn,hl⟩:=I.loc
 obtain ⟨u,r,l⟩:=hl i x v hN e hv
 have fin:EP X pins σ Q u s:=⟨v,H,I,r,h⟩
 rcases l with ⟨hk,hm⟩ | ⟨hk,c,hc,hcell⟩
 ·exact wpAny_Name (wpAny_loadName_local I.ok.kind hk hn hm fin) hd
 ·rcases hk with hk | hk
  ·exact wpAny_Name (wpAny_loadName_cell I.ok.kind hk hc hcell fin) hd
  ·exact wpAny_Name (wpAny_loadName_free I.ok.kind hk hc hcell fin hcd) hd
theorem EW {i j pos}:PE X (.Constant (.int i) j pos) (tC (.int i)):=fun _ _ _ H _ I h=>wpAny_Constant_int ⟨.int i,H,I.tok _,⟨_,rfl⟩,h⟩
theorem Iq {b j pos}:PE X (.Constant (.bool b) j pos) (tC (.bl b)):=fun _ _ _ H _ I h=>Constant_bool ⟨.bl b,H,I,rfl,h⟩
theorem EX {j pos}:PE X (.Constant .none j pos) (tC .non):=fun _ _ _ H _ I h=>Constant_none ⟨.non,H,I,rfl,h⟩
theorem EY {x j pos}:PE X (.Constant (.str x) j pos) (tC (.str x)):=fun _ _ _ H _ I h=>Calls.Constant_str ⟨.str x,H,I.tok _,⟨_,rfl⟩,h⟩
def Gl (X:Cx)(x:Str):Prop:=X.env.kindOf x=some .globalImplicit
theorem hV {x:Str}(I:Inv X pins σ H s)(hg:Gl X x)(hm:X.mg x=some u)(h:Q u s)
  (hd:autoParam ((x == ("__debug__" : Str))=false) L2.aD._auto_1):wpAny (model X.prog X.w) X.A (eval (.Name x pos) X.env) Q E s :=
 Calls.Name_function_global I.ok.kind hg (Calls.loadGlobal_global (by rw [I.ok.glob]; exact I.mod.glob.keeps I.bk) hm h) hd
theorem kY {x:Str}(I:Inv X pins σ H s)(hg:Gl X x)(hm:X.mg x=none)(hv:bootBuiltins x=some u)(h:Q u s)
  (hn:autoParam (x ≠ "__name__") L2.aD._auto_1) (hd:autoParam ((x == ("__debug__" : Str))=false) L2.aD._auto_1):wpAny (model X.prog X.w) X.A (eval (.Name x pos) X.env) Q E s:=by
 obtain ⟨mb,h1,h2⟩:=I.mod.blt
 exact Calls.Name_function_global I.ok.kind hg (Calls.loadGlobal_builtin (by rw [I.ok.glob]; exact I.mod.glob.keeps I.bk) hm (by rw [I.ok.blt]; exact h1.keeps I.bk) ((h2 x hn).trans hv) h) hd
theorem Bd {x:Str}    (hg:Gl X x) (hm:X.mg x=some u) (r:RelV v u) (hd:autoParam ((x == ("__debug__" : Str))=false) L2.aD._auto_1):PE X (.Name x pos) (tC v) :=
 fun _ _ _ H _ I h=>hV I hg hm ⟨v,H,I,r,h⟩ hd
theorem Be {x:Str}    (hg:Gl X x) (hm:X.mg x=none) (hv:bootBuiltins x=some u) (r:RelV v u) (hn:autoParam (x ≠ "__name__") L2.aD._auto_1) (hd:autoParam ((x == ("__debug__" : Str))=false) L2.aD._auto_1):PE X (.Name x pos) (tC v) :=
 fun _ _ _ H _ I h=>kY I hg hm hv ⟨v,H,I,r,h⟩ hn hd
variable {a b:Expr}  
def PC (X:Cx)(op:CmpOp)(a b:Expr)(t:TE):Prop :=
 ∀ (pins:List (Addr×Obj)) (s:Shared) (σ:St) (H:Hp) (Q:VK),Inv X pins σ H s->t σ H Q ->
  wpAny (model X.prog X.w) X.A (eval a X.env) (fun v s₁=>wpAny (model X.prog X.w) X.A (eval b X.env) (fun u s₂=>wpAny (model X.prog X.w) X.A (compareOp op v u) (EP X pins σ Q) X.xe s₂) X.xe s₁) X.xe s
def tB (t:TE):TT:=fun σ H Q=>t σ H fun x H1=>∃ c,x=.bl c/\Q c H1
theorem JL {t:TE}(h:PC X op a b t)(h1:behindInMarks op b=false:=by first | exact nobehind _ (by decide) (by decide) | rfl):PT X (.Compare a [op] [b] pos) (tB t):=by
 intro pins s σ H Q I hw
 refine wpAny_isTrue_Compare1 (thn (h pins s σ H _ I hw) fun v s1 h1=>thn h1 fun u s2 h2=>thn h2 fun c s3 ⟨x,H1,I1,r1,q1⟩=>?_) h1
 obtain ⟨d,rfl,q⟩:=q1
 cases r1
 exact aaL ⟨H1,I1,q⟩
theorem EZ {t:TE}(h:PE X e t)(he:autoParam (∀ whole,isTrue e X.env whole=(do let v ← whole; standAt e.pos; holding [v] (truthy v))) L2.aI._auto_1):PT X e (tB t):=by
 intro pins s σ H Q I hw
 refine isTrue_plain (thn (h pins s σ H _ I hw) fun v s1 ⟨x,H1,I1,r1,q1⟩=>?_) (he _)
 obtain ⟨d,rfl,q⟩:=q1
 cases r1
 exact aaL ⟨H1,I1,q⟩
variable {tA tB':TT} {rest:List Expr}
def Ir (t u:TT):TT:=fun σ H Q=>t σ H fun c H1=>if c=true then u σ H1 Q else Q false H1
def tOr (t u:TT):TT:=fun σ H Q=>t σ H fun c H1=>if c=true then Q true H1 else u σ H1 Q
def Iu (t:TT):TT:=fun σ H Q=>t σ H fun c H1=>Q (!c) H1
theorem Bf (ha:PT X a tA):PW X (.BoolOp .And [a] pos) tA:=by
 intro wh pins s σ H Q I h
 refine isTrue_and (thn (ha pins s σ H Q I h) fun c s1 e=>?_)
 cases c with
 | true=>exact isTrue_and_nil e
 | false=>exact e
theorem E1 (ha:PT X a tA):PW X (.BoolOp .Or [a] pos) tA:=by
 intro wh pins s σ H Q I h
 refine isTrue_or (thn (ha pins s σ H Q I h) fun c s1 e=>?_)
 cases c with
 | false=>exact isTrue_or_nil e
 | true=>exact e
theorem E2 (ha:PT X a tA)(hb:PW X (.BoolOp .And (b::rest) pos) tB'):PW X (.BoolOp .And (a::b::rest) pos) (Ir tA tB'):=by
 intro wh pins s σ H Q I h
 refine isTrue_and (thn (ha pins s σ H _ I h) fun c s1 ⟨H1,I1,q1⟩=>?_)
 cases c with
 | true=>exact hb wh pins s1 σ H1 Q I1 q1
 | false=>exact ⟨H1,I1,q1⟩
theorem Iv (ha:PT X a tA)(hb:PW X (.BoolOp .Or (b::rest) pos) tB'):PW X (.BoolOp .Or (a::b::rest) pos) (tOr tA tB'):=by
 intro wh pins s σ H Q I h
 refine isTrue_or (thn (ha pins s σ H _ I h) fun c s1 ⟨H1,I1,q1⟩=>?_)
 cases c with
 | true=>exact ⟨H1,I1,q1⟩
 | false=>exact hb wh pins s1 σ H1 Q I1 q1
theorem E3 (ha:PT X a tA):PT X (.UnaryOp .Not a pos) (Iu tA):=by
 intro pins s σ H Q I h
 exact isTrue_not (ha pins s σ H (fun c H1=>Q (!c) H1) I h)
def Bg (ta tb:TE):TE:=fun σ H Q=>ta σ H fun x H1=>∃ c,x=.bl c/\if c=true then tb σ H1 Q else Q (.bl false) H1
theorem E4 {op}{t:TE}(h:PE X a t):PE X (.BoolOp op [a] pos) t:=fun pins s σ H Q I hw=>BoolOp_one (h pins s σ H Q I hw)
theorem E5 (ha:PE X a ta)(hb:PE X (.BoolOp .And (b::rest) pos) tb):PE X (.BoolOp .And (a::b::rest) pos) (Bg ta tb):=by
 intro pins s σ H Q I h
 refine BoolOp_and (thn (ha pins s σ H _ I h) fun v s1 ⟨x,H1,I1,r1,q1⟩=>?_)
 obtain ⟨c,rfl,q1⟩:=q1
 cases r1
 refine aaL ?_
 cases c with
 | true=>exact hb pins s1 σ H1 Q I1 q1
 | false=>exact ⟨.bl false,H1,I1,rfl,q1⟩
def tIf (t:TT)(ta tb:TE):TE:=fun σ H Q=>t σ H fun c H1=>if c=true then ta σ H1 Q else tb σ H1 Q
theorem wb (hc:PT X c tA)(ha:PE X a ta)(hb:PE X b tb):PE X (.IfExp c a b pos) (tIf tA ta tb):=by
 intro pins s σ H Q I h
 refine wpAny_IfExp (thn (hc pins s σ H _ I h) fun d s1 ⟨H1,I1,q1⟩=>?_)
 cases d with
 | true=>exact ha pins s1 σ H1 Q I1 q1
 | false=>exact hb pins s1 σ H1 Q I1 q1
end
def SqL (K:Frag)(H:Hp)(a:Addr)(xs:List V):Prop :=
 Rd H a (.lst xs) ∨
  ∃ (o:Obj) (its:Array Value) (n:Nat),K.lookup a=some o/\o.cls=.type "list" /\ o.dict=none/\o.data=.seq its n/\its.size<=sizeLine/\Vals xs its.toList
def SqT (K:Frag)(H:Hp)(a:Addr)(xs:List V):Prop :=
 Rd H a (.tup xs) ∨
  ∃ (o:Obj) (its:Array Value) (n:Nat),K.lookup a=some o/\o.cls=.type "tuple" /\ o.data=.seq its n/\its.size<=sizeLine/\Vals xs its.toList
def absV:Value->Option V
 | .none=>some .non
 | .bool b=>some (.bl b)
 | .int i _=>some (.int i)
 | .str x _=>some (.str x)
 | .bytes b _=>some (.byt b)
 | .float b _=>some (.flt b)
 | .ref a=>some (.ref a)
 | .type n=>some (.ty n)
 | _=>none
theorem RelV.abs {x:V}(r:RelV x u):absV u=some x:=by
 cases x with
 | non=>cases r; rfl
 | bl _=>cases r; rfl
 | int _=>obtain ⟨t,rfl⟩:=r; rfl
 | str _=>obtain ⟨t,rfl⟩:=r; rfl
 | byt _=>obtain ⟨t,rfl⟩:=r; rfl
 | flt _=>obtain ⟨t,rfl⟩:=r; rfl
 | ref _=>cases r; rfl
 | ty _=>cases r; rfl
theorem RelV.inj {x y:V}{u:Value}(r:RelV x u)(q:RelV y u):x=y:=aaj (r.abs.symm.trans q.abs)
theorem Vals.inj {xs ys:List V}{us:List Value}(h:Vals xs us)(h':Vals ys us):xs=ys:=by
 induction h generalizing ys with
 | nil=>cases h'; rfl
 | cons r t ih=>cases h' with | cons r' t'=>rw [r.inj r',ih t']
section
variable       {ys:List V}
theorem SqL.of {K:Frag}(h:H a=some (.lst xs)):SqL K H a xs:=.inl (.inl h)
theorem SqT.of {K:Frag}(h:H a=some (.tup xs)):SqT K H a xs:=.inl (.inl h)
theorem Inv.list (I:Inv X pins σ H s)(h:SqL X.K H a xs):∃ its:List Value,Vals xs its/\PlainL s.heap a its.toArray/\xs.length<=sizeLine:=by
 rcases h with h | ⟨o,its,n,hk,hc,hd,hs,hz,r⟩
 ·obtain ⟨z,its,n,r,e⟩:=h.ok I.hok
  exact ⟨its,r,⟨_,n,e,rfl,rfl,rfl⟩,z⟩
 ·refine ⟨its.toList,r,⟨o,n,I.kIn a o hk,hc,hd,(by exists hs)⟩,?_⟩
  have e:=r.length
  simp only [Array.length_toList] at e
  nofun
theorem Inv.tuple (I:Inv X pins σ H s)(h:SqT X.K H a xs):∃ its:List Value,Vals xs its/\IsTup s.heap a its.toArray/\xs.length<=sizeLine:=by
 rcases h with h | ⟨o,its,n,hk,hc,hs,hz,r⟩
 ·obtain ⟨z,its,r,p⟩:=h.ok I.hok
  exact ⟨its,r,p,z⟩
 ·refine ⟨its.toList,r,⟨o,I.kIn a o hk,hc,n,(by exists hs)⟩,?_⟩
  have e:=r.length
  simp only [Array.length_toList] at e
  nofun
theorem Inv.list_inj (I:Inv X pins σ H s)(h:SqL X.K H a xs)(h':SqL X.K H a ys):xs=ys:=by
 obtain ⟨its,r,⟨o,n,e,_,_,d⟩,_⟩:=I.list h
 obtain ⟨its',r',⟨o',n',e',_,_,d'⟩,_⟩:=I.list h'
 rw [e] at e'; cases e'
 rw [d] at d'
 injection d' with d1 _
 have:its=its':=by simpa using congrArg Array.toList d1
 subst this
 exact r.inj r'
theorem Inv.tuple_inj (I:Inv X pins σ H s)(h:SqT X.K H a xs)(h':SqT X.K H a ys):xs=ys:=by
 obtain ⟨its,r,⟨o,e,_,n,d⟩,_⟩:=I.tuple h
 obtain ⟨its',r',⟨o',e',_,n',d'⟩,_⟩:=I.tuple h'
 rw [e] at e'; cases e'
 rw [d] at d'
 injection d' with d1 _
 have:its=its':=by simpa using congrArg Array.toList d1
 subst this
 exact r.inj r'
end
abbrev Cx.wish (X:Cx)(E:Value->Shared->Prop):Cx:={ X with xe:=E }
abbrev Cx.nox (X:Cx):Cx:=X.wish fun _ _=>False
theorem Cx.Ok.wish (ok:X.Ok)(E:Value->Shared->Prop):(X.wish E).Ok :=
 ⟨ok.mod,ok.kind,ok.glob,ok.blt,ok.above,ok.inj,ok.has,ok.cab,ok.hd,ok.frames,ok.stk,ok.exf,ok.bs,ok.bsz,ok.noex,ok.exfs,ok.funs,ok.frf⟩
theorem Cx.Ok.unwish (ok:(X.wish E).Ok):X.Ok :=
 ⟨ok.mod,ok.kind,ok.glob,ok.blt,ok.above,ok.inj,ok.has,ok.cab,ok.hd,ok.frames,ok.stk,ok.exf,ok.bs,ok.bsz,ok.noex,ok.exfs,ok.funs,ok.frf⟩
theorem Inv.wish (I:Inv X pins σ H s)(E:Value->Shared->Prop):Inv (X.wish E) pins σ H s:=⟨I.ok.wish E,I.os,I.bare,I.base,I.loc,I.cell,I.free,I.freeC,I.pin,I.hok,I.len⟩
theorem Inv.unwish (I:Inv (X.wish E) pins σ H s):Inv X pins σ H s:=⟨I.ok.unwish,I.os,I.bare,I.base,I.loc,I.cell,I.free,I.freeC,I.pin,I.hok,I.len⟩
theorem SP.unwish {D:Ends}{f:Flow}(h:SP (X.wish E) pins D f s'):SP X pins D f s':=by
 cases f with
 | next=>obtain ⟨σ',H',I,q⟩:=h; exact ⟨σ',H',I.unwish,q⟩
 | brk=>obtain ⟨σ',H',I,q⟩:=h; exact ⟨σ',H',I.unwish,q⟩
 | cont=>obtain ⟨σ',H',I,q⟩:=h; exact ⟨σ',H',I.unwish,q⟩
 | ret u=>obtain ⟨v,σ',H',I,r,q⟩:=h; exact ⟨v,σ',H',I.unwish,r,q⟩
theorem PSs.nox {st:List Stmt}{t:TS}(h:PSs X.nox st t):PSs X st t:=fun pins s σ H D I hw =>
 aaG (h pins s σ H D (I.wish _) hw) (fun _ _ q=>q.unwish) fun _ _ z=>False.elim z
section
variable  {st:Stmt} {rest:List Stmt} {t u:TS}   
def rc:TS:=fun D σ H=>D.nx σ H
def EK (t u:TS):TS:=fun D σ H=>t { D with nx:=u D } σ H
theorem Bh:PSs X [] rc:=fun _ _ σ H _ I h=>aa7 ⟨σ,H,I,h⟩
theorem wc (h1:PS X st t)(h2:PSs X rest u):PSs X (st::rest) (EK t u):=by
 intro pins s σ H D I h
 refine abw (thn (h1 pins s σ H { D with nx:=u D } I h) fun f s1 q=>?_)
 cases f with
 | next =>
  obtain ⟨σ',H',I',q⟩:=q
  exact h2 pins s1 σ' H' D I' q
 | ret v=>exact q
 | brk=>exact q
 | cont=>exact q
theorem mJ (h1:PS X st t):PSs X [st] t:=by
 intro pins s σ H D I h
 refine abw (thn (h1 pins s σ H D I h) fun f s1 q=>?_)
 cases f with
 | next=>exact aa7 q
 | ret v=>exact q
 | brk=>exact q
 | cont=>exact q
theorem Inv.quiet (I:Inv X pins σ H s):interactive X.env=false:=by simp [interactive,I.ok.kind]
def Bi (te:TE):TS:=fun D σ H=>te σ H fun _ H1=>D.nx σ H1
theorem Bj (he:PE X e te)(hs:autoParam (swapsWith e none pos.line X.env=pure false) L2.aR._auto_1):PS X (.Expr e pos) (Bi te):=by
 intro pins s σ H D I h
 exact wpAny_Expr_any (thn (he pins s σ H _ I h) fun v s1 ⟨x,H1,I1,r1,q1⟩=>⟨σ,H1,I1,q1⟩) I.quiet hs
def EL (te:TE):TS:=fun D σ H=>te σ H D.rt
theorem E6 (he:PE X e te):PS X (.Return (some e) pos) (EL te):=by
 intro pins s σ H D I h
 exact wpAny_Return_some (thn (he pins s σ H _ I h) fun v s1 ⟨x,H1,I1,r1,q1⟩=>⟨x,σ,H1,I1,r1,q1⟩)
def EM (c:TT)(t u:TS):TS:=fun D σ H=>c σ H fun b H1=>if b=true then t D σ H1 else u D σ H1
theorem Iw {a b:List Stmt}(hc:PT X c tc)(ha:PSs X a t)(hb:PSs X b u):PS X (.If c a b pos) (EM tc t u):=by
 intro pins s σ H D I h
 refine wpAny_If (thn (hc pins s σ H _ I h) fun d s1 ⟨H1,I1,q1⟩=>?_)
 cases d with
 | true=>exact ha pins s1 σ H1 D I1 q1
 | false=>exact hb pins s1 σ H1 D I1 q1
def re:TS:=fun _ _ _=>False
theorem we:PS X st re:=fun _ _ _ _ _ _ h=>h.elim
end
abbrev TG:=V->St->Hp->(St->Hp->Prop)->Prop
abbrev TGs:=List V->St->Hp->(St->Hp->Prop)->Prop
def PG (X:Cx)(target:Expr)(t:TG):Prop :=
 ∀ (pins:List (Addr×Obj)) (s:Shared) (σ:St) (H:Hp) (v:V) (u:Value) (Q:St->Hp->Prop),Inv X pins σ H s->RelV v u->t v σ H Q ->
  wpAny (model X.prog X.w) X.A (assign target X.env u) (fun _ s'=>∃ σ' H',Inv X pins σ' H' s'/\Q σ' H') X.xe s
def PGs (X:Cx)(ts:List Expr)(t:TGs):Prop :=
 ∀ (pins:List (Addr×Obj)) (s:Shared) (σ:St) (H:Hp) (vs:List V) (us:List Value) (Q:St->Hp->Prop),Inv X pins σ H s->Vals vs us->t vs σ H Q ->
  wpAny (model X.prog X.w) X.A (assignInOrder ((assignEach ts X.env).map (·.2)) us) (fun _ s'=>∃ σ' H',Inv X pins σ' H' s'/\Q σ' H') X.xe s
abbrev Ix:=V->V->V->Hp->(Hp->Prop)->Prop
def JM (X:Cx)(t:Ix):Prop :=
 ∀ (pins:List (Addr×Obj)) (s:Shared) (σ:St) (H:Hp) (o i v:V) (ov iv u:Value) (Q:Hp->Prop),Inv X pins σ H s->RelV o ov->RelV i iv->RelV v u->t o i v H Q ->
  wpAny (model X.prog X.w) X.A (setItem ov iv u) (fun _ s'=>∃ H',Inv X pins σ H' s'/\Q H') X.xe s
def fJ (i:Nat):TG:=fun v σ H Q=>Q (σ.set i (some v)) H
theorem Bk {x:Str}(hN:X.N.Nodup)(hi:X.N[i]?=some x)(hx:Loc X.env.scope x)(hf:autoParam (X.fn x=true∨X.env.scope.names.lookup x=some .local) L2.aF._auto_1):PG X (.Name x pos) (fJ i):=by
 intro pins s σ H v u Q I r h
 exact wpAny_assign_Name (jW I hN hi hx r (fun s' I'=>⟨_,H,I',h⟩) hf)
def Iy:TGs:=fun vs σ H Q=>vs=[]/\Q σ H
def Bl (t:TG)(u:TGs):TGs:=fun vs σ H Q=>∃ v r,vs=v::r/\t v σ H fun σ' H'=>u r σ' H' Q
theorem Bm:PGs X [] Iy:=by
 intro pins s σ H vs us Q I r h
 obtain ⟨e,h⟩:=h
 subst e
 cases r
 exact assignInOrder_nil ⟨σ,H,I,h⟩
theorem wf {t:TG}{u:TGs}(h1:PG X e t)(h2:PGs X es u)
  (hs:autoParam ((assignEach (e::es) X.env).map (·.2)=assign e X.env::(assignEach es X.env).map (·.2)) L2.aR._auto_1):PGs X (e::es) (Bl t u):=by
 intro pins s σ H vs us Q I r h
 obtain ⟨v,vr,e1,h⟩:=h
 subst e1
 cases r with
 | cons r rr =>
  rw [hs]
  refine assignInOrder_cons (thn (h1 pins s σ H _ _ _ I r h) fun _ s1 ⟨σ1,H1,I1,q1⟩=>?_)
  exact h2 pins s1 σ1 H1 _ _ Q I1 rr q1
def HW (K:Frag)(n:Nat)(t:TGs):TG:=fun v σ H Q=>∃ a xs,v=.ref a/\SqT K H a xs/\xs.length=n/\t xs σ H Q
theorem E7 {t:TGs}(hc:X.calm=true)(h:PGs X es t)
  (hn:autoParam ((assignEach es X.env).length=n) L2.aR._auto_1) (hst:autoParam ((assignEach es X.env).findIdx? (·.1)=none) L2.aR._auto_1):PG X (.Tuple es k pos) (HW X.K n t):=by
 intro pins s σ H v u Q I r hw
 obtain ⟨a,xs,e1,hq,hl,hw⟩:=hw
 subst e1
 cases r
 obtain ⟨its,rv,ht,hz⟩:=I.tuple hq
 refine assign_Tuple_tuple (I.ok.hd hc) ht (by simp [hn,← hl,rv.length]) hst fun h' hx=>?_
 have I1:Inv X pins σ H { s with heap:=h' }:=I.kept (t':=s.toks) fun b o e=>hx b o (aal (aaf e)) e
 exact h pins _ σ H xs _ Q I1 (by exists rv) hw
def Iz (to ti:TE)(t:Ix):TG:=fun v σ H Q=>to σ H fun o H1=>ti σ H1 fun i H2=>t o i v H2 fun H3=>Q σ H3
theorem E8 {o i:Expr}{to ti:TE}{t:Ix}(ho:PE X o to)(hi:PE X i ti)(hs:JM X t)
  (ha:autoParam (∀ v,assign (.Subscript o i pos) X.env v=(do
   let ov ← holding [v] (eval o X.env)
   let iv ← holding [v,ov] (eval i X.env)
   standAt pos
   holding [v,ov,iv] (setItem ov iv v)
   release [v,ov,iv] [])) L2.aI._auto_1):PG X (.Subscript o i pos) (Iz to ti t):=by
 intro pins s σ H v u Q I r h
 rw [ha]
 refine aaa (aaB (thn (ho pins s σ H _ I h) fun ov s1 ⟨x,H1,I1,r1,q1⟩=>?_))
 refine aaa (aaB (thn (hi pins s1 σ H1 _ I1 q1) fun iv s2 ⟨y,H2,I2,r2,q2⟩=>?_))
 refine aaa (wpAny_standAt (aaa (aaB (thn (hs pins s2 σ H2 x y v ov iv u _ I2 r1 r2 r q2) fun _ s3 ⟨H3,I3,q3⟩=>?_))))
 exact wpAny_release ⟨σ,H3,I3,q3⟩
def pO (te:TE)(g:TG):TS:=fun D σ H=>te σ H fun x H1=>g x σ H1 D.nx
theorem E9 {g:TG}(he:PE X e te)(hg:PG X tg g)(hs:autoParam (swapsWithSole [tg] e pos.line X.env=pure false) L2.aR._auto_1)(hw:autoParam (swappedStores [tg] e X.env=pure none) L2.aR._auto_1)
  (h1:autoParam ((assignEach [tg] X.env).map (·.2)=[assign tg X.env]) L2.aR._auto_1):PS X (.Assign [tg] e pos) (pO te g):=by
 intro pins s σ H D I h
 refine wpAny_Assign_stores (thn (he pins s σ H _ I h) fun v s1 ⟨x,H1,I1,r1,q1⟩=>?_) hs hw
 rw [h1]
 exact thn (hg pins s1 σ H1 x v _ I1 r1 q1) fun _ s2 q=>q
theorem Ae {x:Str}(hN:X.N.Nodup)(hi:X.N[i]?=some x)(hx:Loc X.env.scope x)(he:PE X e te)(hs:autoParam (swapsWith e (some (.Name x pos')) pos.line X.env=pure false) L2.aR._auto_1)(hf:autoParam (X.fn x=true∨X.env.scope.names.lookup x=some .local) L2.aF._auto_1) :
  PS X (.Assign [.Name x pos'] e pos) (pO te (fJ i)):=by
 intro pins s σ H D I h
 refine wpAny_Assign_Name (thn (he pins s σ H _ I h) fun v s1 ⟨y,H1,I1,r1,q1⟩=>?_) hs
 exact jW I1 hN hi hx r1 (fun s2 I2=>⟨_,H1,I2,q1⟩) hf
def rf (c:TT)(tb:TS):TS:=fun D σ H=>∃ W:Nat->St->Hp->Prop,(∃ m,W m σ H)/\∀ m σ H,W m σ H ->
 c σ H fun b H1=>if b=true then ∃ N:St->Hp->Prop,(∀ σ' H',N σ' H'->∃ m',m' < m/\W m' σ' H')/\tb { D with nx:=N,ct:=N,bk:=D.nx } σ H1 else D.nx σ H1
theorem wg {tb:TS}(hp:PassesOwn (model X.prog X.w) X.A X.env X.xe)(hc:PT X c tc)(hb:PSs X body tb):PS X (.While c body [] pos) (rf tc tb):=by
 intro pins s σ H D I h
 obtain ⟨W,⟨m0,w0⟩,turn⟩:=h
 refine wpAny_While (codeAny_whileLoop (fun n s'=>∃ σ' H',Inv X pins σ' H' s'/\W n σ' H') ?_ m0 ⟨σ,H,I,w0⟩)
 rintro n s1 ⟨σ1,H1,I1,w1⟩
 refine aa6 hp (thn (hc pins s1 σ1 H1 _ I1 (turn n σ1 H1 w1)) fun b s2 ⟨H2,I2,q2⟩=>?_)
 cases b with
 | true =>
  obtain ⟨N,hN,q2⟩:=q2
  rw [if_pos rfl]
  refine aa6 hp (thn (hb pins s2 σ1 H2 _ I2 q2) fun f s3 q3=>?_)
  cases f with
  | next =>
   obtain ⟨σ3,H3,I3,n3⟩:=q3
   obtain ⟨m',hm,w3⟩:=hN σ3 H3 n3
   exact ⟨m',hm,σ3,H3,I3,w3⟩
  | cont =>
   obtain ⟨σ3,H3,I3,n3⟩:=q3
   obtain ⟨m',hm,w3⟩:=hN σ3 H3 n3
   exact ⟨m',hm,σ3,H3,I3,w3⟩
  | brk=>exact q3
  | ret v=>exact q3
 | false =>
  rw [if_neg Bool.false_ne_true]
  exact aa7 ⟨σ1,H2,I2,q2⟩
structure It where
 go:Nat->Hp->Prop
 yld:Nat->Hp->V->Hp->Prop
 stop:Nat->Hp->Prop
def nF (X:Cx)(pins:List (Addr×Obj))(H:Hp)(b:Addr):Prop :=
 H b=none/\b≠X.env.locals/\b ∉ X.fs/\(b ∈ X.ex∨X.s₀.heap.objs.size<=b)/\(∀ x c,X.env.cells.lookup x=some c->c≠b)/\∀ p ∈ X.pn++pins,p.1≠b
theorem Inv.fpOk (I:Inv X pins σ H s)(hb:s.heap.objs.size<=b)(hn:H' b=none):nF X pins H' b:=by
 refine ⟨hn,Nat.ne_of_gt (aan I.lt hb),I.nofs hb,.inr (aaq I.sz hb),fun x c e z=>?_,fun p hp z=>?_⟩
 ·obtain ⟨v,q⟩:=I.cell x c e
  exact absurd (aan q.lt (by rw [z]; exact hb)) (aaI _)
 ·exact absurd (aan (aaf (I.pin p hp).1) (by rw [z]; exact hb)) (aaI _)
structure Turn (P:Program)(w:World)(K:Frag)(tg:Expr)(J:It)(fp:List Addr)(it:Addr)(tn:Nat->Heap->Prop):Prop where
 mem:it ∈ fp
 obj:∀ i h,tn i h->∀ b ∈ fp,∃ o,h.get? b=some o/\∀ v,o.data≠.cell v
 keep:∀ i h h',tn i h->(∀ b ∈ fp,∀ o,h.get? b=some o->h'.get? b=some o)->tn i h'
 item:∀ (X:Cx),X.prog=P->X.w=w->X.K=K->X.calm=true->∀ (i:Nat) (pins:List (Addr×Obj)) (s:Shared) (σ:St) (H:Hp) (E:Value->Shared->Prop),Inv X pins σ H s->(∀ b ∈ fp,nF X pins H b)->tn i s.heap->J.go i H ->
  wpAny (model P w) X.A (pyNext (.ref it)) (fun r s1=>∃ u,r=some u /\
   wpAny (model P w) X.A (letOwnedTupleGo tg (.ref it) u) (fun _ s2=>∃ x H',Inv X pins σ H' s2/\RelV x u/\J.yld i H x H'/\tn (i+1) s2.heap/\∀ b ∈ fp,H' b=none) E s1) E s
 done:∀ (X:Cx),X.prog=P->X.w=w->X.K=K->X.calm=true->∀ (i:Nat) (pins:List (Addr×Obj)) (s:Shared) (σ:St) (H:Hp) (E:Value->Shared->Prop),Inv X pins σ H s->(∀ b ∈ fp,nF X pins H b)->tn i s.heap->J.stop i H ->
  wpAny (model P w) X.A (pyNext (.ref it)) (fun r s1=>r=none/\Inv X pins σ H s1) E s
 self:∀ (A:Around) (i:Nat) (s:Shared) (Q:Value->Shared->Prop) (E:Value->Shared->Prop),tn i s.heap->Q (.ref it) s->wpAny (model P w) A (pyIter (.ref it)) Q E s
abbrev TI:=St->Hp->(It->Hp->Prop)->Prop
def PIE (X:Cx)(pins:List (Addr×Obj))(σ:St)(tg:Expr)(R:It->Hp->Prop)(itv:Value)(s2:Shared):Prop :=
 ∃ (it:Addr) (fp:List Addr) (tn:Nat->Heap->Prop) (J:It) (H':Hp),itv=.ref it/\Inv X pins σ H' s2/\Turn X.prog X.w X.K tg J fp it tn/\tn 0 s2.heap/\(∀ b ∈ fp,nF X pins H' b)/\R J H'
def PI (X:Cx)(tg iter:Expr)(wi:TI):Prop :=
 ∀ (pins:List (Addr×Obj)) (s:Shared) (σ:St) (H:Hp) (R:It->Hp->Prop),Inv X pins σ H s->wi σ H R ->
  wpAny (model X.prog X.w) X.A (eval iter X.env) (fun v s1=>wpAny (model X.prog X.w) X.A (pyIter v) (PIE X pins σ tg R) X.xe s1) X.xe s
theorem wj {M:Model}{o:Obj}{n:String}{vs:Array Value}{Q:Unit->Shared->Prop}(ho:s.heap.get? it=some o)(hc:o.cls=.type n)(hd:o.data=.fields vs)
    (hn:["enumerate", "zip", "dict_itemiterator", "dict_reverseitemiterator", "odict_iterator", "itertools.zip_longest", "itertools.pairwise"].contains n=false) (hQ:Q () s):wpAny M A (letOwnedTupleGo tg (.ref it) u) Q E s:=by
  unfold letOwnedTupleGo
  cases tg <;> first
    | exact aab hQ
    | (cases u <;> first
        | exact aab hQ
        | (refine aaa (wpAny_load ho ?_)
           rw [hc,hd]
           show wpAny M A (if (["enumerate", "zip", "dict_itemiterator", "dict_reverseitemiterator", "odict_iterator", "itertools.zip_longest", "itertools.pairwise"].contains n && vs[0]? == some (rawInt _))=true then _ else _) Q E s
           rw [if_neg (by intro h; rw [hn,Bool.false_and] at h; cases h)]
           exact aab hQ))
def Itl (K:Frag)(a:Addr):It :=
 ⟨fun i H=>∃ xs x,SqL K H a xs/\xs[i]?=some x,fun i H x H'=>H'=H/\∀ xs,SqL K H a xs->xs[i]?=some x,fun i H=>∃ xs,SqL K H a xs/\xs.length<=i⟩
def Itt (K:Frag)(a:Addr):It :=
 ⟨fun i H=>∃ xs x,SqT K H a xs/\xs[i]?=some x,fun i H x H'=>H'=H/\∀ xs,SqT K H a xs->xs[i]?=some x,fun i H=>∃ xs,SqT K H a xs/\xs.length<=i⟩
def Itr (lo:Int)(n:Nat):It:=⟨fun i _=>i < n,fun i H x H'=>H'=H/\x=.int (lo+i),fun i _=>n<=i⟩
theorem rg {K:Frag}(a it:Addr):Turn P w K tg (Itl K a) [it] it (fun i h=>h.IsListIter it a i) where
 mem:=by simp
 obj:=fun i h st b hb=>by
  have e:b=it:=(by exists hb)
  subst e
  obtain ⟨o,e,c,d⟩:=st
  exact ⟨o,e,fun v z=>by rw [d] at z; cases z⟩
 keep:=fun i h h' st k=>st.at fun o e=>k it (by simp) o e
 item:=by
  intro X hP hw hK hc i pins s σ H E I hf st hg
  subst hP hw hK
  obtain ⟨xs,x,hq,hx⟩:=hg
  obtain ⟨its,rv,p,hz⟩:=I.list hq
  obtain ⟨u,hu,ru⟩:=rv.get hx
  obtain ⟨f0,f1,f2,f3,f4,f5⟩:=hf it (by simp)
  refine wpAny_pyNext_list_item st p.isList (x:=u) (by exists hu) fun h' st' sb=>?_
  have I1:Inv X pins σ H { s with heap:=h' }:=I.turned (t':=s.toks) (fun b o hb e=>(sb.2 b hb).trans e) f0 f1 f3 f4 f5
  obtain ⟨o,e,c,d⟩:=id st'
  exact ⟨u,rfl,wj (s:={ s with heap:=h' }) e c d (by decide) ⟨x,H,I1,ru,⟨rfl,fun ys hy=>by rw [I.list_inj hy hq]; exact hx⟩,st',fun b hb=>(hf b hb).1⟩⟩
 done:=by
  intro X hP hw hK hc i pins s σ H E I hf st hg
  subst hP hw hK
  obtain ⟨xs,hq,hx⟩:=hg
  obtain ⟨its,rv,p,hz⟩:=I.list hq
  obtain ⟨f0,f1,f2,f3,f4,f5⟩:=hf it (by simp)
  have hl:=rv.length
  exact wpAny_pyNext_list_end (I.ok.hd hc) st p.isList (by simp; nofun) fun h' eb=>⟨rfl,I.turned (t':=s.toks) (fun b o hb e=>eb b o hb e) f0 f1 f3 f4 f5⟩
 self:=fun _ _ _ _ _ st h=>wpAny_pyIter_listiter st h
theorem pP {K:Frag}(a it:Addr):Turn P w K tg (Itt K a) [it] it (fun i h=>h.IsTupleIter it a i) where
 mem:=by simp
 obj:=fun i h st b hb=>by
  have e:b=it:=(by exists hb)
  subst e
  obtain ⟨o,e,c,d⟩:=st
  exact ⟨o,e,fun v z=>by rw [d] at z; cases z⟩
 keep:=fun i h h' st k=>st.at fun o e=>k it (by simp) o e
 item:=by
  intro X hP hw hK hc i pins s σ H E I hf st hg
  subst hP hw hK
  obtain ⟨xs,x,hq,hx⟩:=hg
  obtain ⟨its,rv,p,hz⟩:=I.tuple hq
  obtain ⟨u,hu,ru⟩:=rv.get hx
  obtain ⟨f0,f1,f2,f3,f4,f5⟩:=hf it (by simp)
  refine wpAny_pyNext_tuple_item st (show s.heap.IsTuple a its.toArray from p) (x:=u) (by exists hu) fun h' st' sb=>?_
  have I1:Inv X pins σ H { s with heap:=h' }:=I.turned (t':=s.toks) (fun b o hb e=>(sb.2 b hb).trans e) f0 f1 f3 f4 f5
  obtain ⟨o,e,c,d⟩:=id st'
  exact ⟨u,rfl,wj (s:={ s with heap:=h' }) e c d (by decide) ⟨x,H,I1,ru,⟨rfl,fun ys hy=>by rw [I.tuple_inj hy hq]; exact hx⟩,st',fun b hb=>(hf b hb).1⟩⟩
 done:=by
  intro X hP hw hK hc i pins s σ H E I hf st hg
  subst hP hw hK
  obtain ⟨xs,hq,hx⟩:=hg
  obtain ⟨its,rv,p,hz⟩:=I.tuple hq
  obtain ⟨f0,f1,f2,f3,f4,f5⟩:=hf it (by simp)
  have hl:=rv.length
  exact wpAny_pyNext_tuple_end (I.ok.hd hc) st (show s.heap.IsTuple a its.toArray from p) (by simp; nofun) fun h' eb=>⟨rfl,I.turned (t':=s.toks) (fun b o hb e=>eb b o hb e) f0 f1 f3 f4 f5⟩
 self:=fun _ _ _ _ _ st h=>wpAny_pyIter_tupleiter st h
theorem pQ {K:Frag}(it:Addr)(lo:Int)(n:Nat):Turn P w K tg (Itr lo n) [it] it (fun i h=>IsRangeIter h it (lo+(i:Nat) * 1) ((n:Int) - (i:Nat)) 1) where
 mem:=by simp
 obj:=fun i h st b hb=>by
  have e:b=it:=(by exists hb)
  subst e
  exact ⟨_,st,fun v z=>by
   have z':Data.fields _=Data.cell v:=z
   cases z'⟩
 keep:=fun i h h' st k=>k it (by simp) _ st
 item:=by
  intro X hP hw hK hc i pins s σ H E I hf st hg
  subst hP hw hK
  obtain ⟨f0,f1,f2,f3,f4,f5⟩:=hf it (by simp)
  have W:=Walks.range (prog:=X.prog) (w:=X.w) (I.ok.hd hc) it lo 1 n
  refine W.item i s _ _ hg st fun v h' tk hv st' kk=>?_
  obtain ⟨t,rfl⟩:=hv
  have I1:Inv X pins σ H { s with heap:=h',toks:=tk }:=I.turned (fun b o hb e=>kk b o (by exists hb) e) f0 f1 f3 f4 f5
  refine ⟨_,rfl,wj (s:={ s with heap:=h',toks:=tk }) (n := "range_iterator") st' rfl rfl (by decide) ⟨.int (lo+i),H,I1,⟨t,?_⟩,⟨rfl,rfl⟩,st',fun b hb=>(hf b hb).1⟩⟩
  rw [Int.mul_one]
 done:=by
  intro X hP hw hK hc i pins s σ H E I hf st hg
  subst hP hw hK
  obtain ⟨f0,f1,f2,f3,f4,f5⟩:=hf it (by simp)
  exact wpAny_pyNext_range_end (I.ok.hd hc) st (by have:n<=i:=hg; nofun) fun h' eb=>⟨rfl,I.turned (t':=s.toks) (fun b o hb e=>eb b o hb e) f0 f1 f3 f4 f5⟩
 self:=fun _ _ _ _ _ st h=>wpAny_pyIter_rangeiter st h
def mK (K:Frag)(tl:TE):TI:=fun σ H R=>tl σ H fun x H1=>∃ a,x=.ref a/\(∃ xs,SqL K H1 a xs)/\R (Itl K a) H1
def HX (K:Frag)(tl:TE):TI:=fun σ H R=>tl σ H fun x H1=>∃ a,x=.ref a/\(∃ xs,SqT K H1 a xs)/\R (Itt K a) H1
theorem Bn (hl:PE X l tl):PI X tg l (mK X.K tl):=by
 intro pins s σ H R I h
 refine thn (hl pins s σ H _ I h) fun v s1 ⟨x,H1,I1,r1,q1⟩=>?_
 obtain ⟨a,e,⟨xs,hq⟩,q⟩:=q1
 subst e
 cases r1
 obtain ⟨its,rv,p,hz⟩:=I1.list hq
 refine wpAny_pyIter_list p.isList ?_
 refine ⟨s1.heap.objs.size,[s1.heap.objs.size],_,_,H1,rfl,I1.kept (t':=s1.toks) fun b o e=>Heap.get?_push_of_some _ e,rg a _,⟨_,Heap.get?_push_size _ rfl,rfl,rfl⟩,fun b hb=>?_,q⟩
 have e:b=s1.heap.objs.size:=(by exists hb)
 subst e
 exact I1.fpOk (aac _) (I1.hok.fresh (aac _))
theorem Fa (hl:PE X l tl):PI X tg l (HX X.K tl):=by
 intro pins s σ H R I h
 refine thn (hl pins s σ H _ I h) fun v s1 ⟨x,H1,I1,r1,q1⟩=>?_
 obtain ⟨a,e,⟨xs,hq⟩,q⟩:=q1
 subst e
 cases r1
 obtain ⟨its,rv,p,hz⟩:=I1.tuple hq
 refine wpAny_pyIter_tuple (show s1.heap.IsTuple a its.toArray from p) ?_
 refine ⟨s1.heap.objs.size,[s1.heap.objs.size],_,_,H1,rfl,I1.kept (t':=s1.toks) fun b o e=>Heap.get?_push_of_some _ e,pP a _,⟨_,Heap.get?_push_size _ rfl,rfl,rfl⟩,fun b hb=>?_,q⟩
 have e:b=s1.heap.objs.size:=(by exists hb)
 subst e
 exact I1.fpOk (aac _) (I1.hok.fresh (aac _))
theorem nG {R:It->Hp->Prop}{lo hi:Int}{t u v:Tok}{tk:Nat}(I:Inv X pins σ H s)(h1:-(2 ^ 62)<=lo)(h2:lo < 2 ^ 62)(h3:-(2 ^ 62)<=hi)(h4:hi < 2 ^ 62)
  (q:R (Itr lo (hi - lo).toNat) H):wpAny (model X.prog X.w) X.A (pyIter (.ref s.heap.objs.size)) (PIE X pins σ tg R) E { s with heap:=s.heap.push { cls:=.type "range", data:=.fields #[.int lo t,.int hi u,.int 1 v] },toks:=tk }:=by
 refine wpAny_pyIter_range (IsRange.new ..) (small_one h1 h2 h3 h4) ?_
 have I1:Inv X pins σ H { s with heap:=s.heap.push { cls:=.type "range", data:=.fields #[.int lo t,.int hi u,.int 1 v] },toks:=tk }:=I.kept fun b o e=>Heap.get?_push_of_some _ e
 refine ⟨(s.heap.push { cls:=.type "range", data:=.fields #[.int lo t,.int hi u,.int 1 v] }).objs.size,[(s.heap.push { cls:=.type "range", data:=.fields #[.int lo t,.int hi u,.int 1 v] }).objs.size],_,_,H,rfl,
  I1.kept (t':=tk) fun b o e=>Heap.get?_push_of_some _ e,pQ _ lo (hi - lo).toNat,?_,fun b hb=>?_,q⟩
 ·have e1:lo+((0:Nat):Int) * 1=lo:=by simp
  have e2:(((hi - lo).toNat:Nat):Int) - ((0:Nat):Int)=Builtin.Range.rangeSize lo hi 1:=by rw [rangeSize_one]; split <;> nofun
  show IsRangeIter _ _ (lo+((0:Nat):Int) * 1) ((((hi - lo).toNat:Nat):Int) - ((0:Nat):Int)) 1
  rw [e1,e2]
  exact Heap.get?_push_size _ rfl
 ·have e:b=(s.heap.push { cls:=.type "range", data:=.fields #[.int lo t,.int hi u,.int 1 v] }).objs.size:=(by exists hb)
  subst e
  exact I1.fpOk (aac _) (I1.hok.fresh (aac _))
def Bo (ta:TA):TI:=fun σ H R=>ta σ H fun vs H1=>∃ j:Int,vs=[.int j]/\-(2 ^ 62)<=j/\j < 2 ^ 62/\R (Itr 0 j.toNat) H1
def Bp (ta:TA):TI:=fun σ H R=>ta σ H fun vs H1=>∃ i j:Int,vs=[.int i,.int j]/\(-(2 ^ 62)<=i/\i < 2 ^ 62/\-(2 ^ 62)<=j/\j < 2 ^ 62)/\R (Itr i (j - i).toNat) H1
theorem rh {a:Expr} {ta:TA}  (hg:Gl X "range") (hm:X.mg "range" = none) (ha:PA X [a] ta) (hs:autoParam (starEach [a] X.env=[(false,eval a X.env)]) L2.aR._auto_1):PI X tg (.Call (.Name "range" p) [a] [] pos) (Bo ta):=by
 intro pins s σ H R I h
 refine Call_ (kY I hg hm boot_range (abE (thn (ha pos pins s σ H _ I h) fun us s1 ⟨vs,H1,I1,r1,q1⟩=>?_) hs rfl))
 obtain ⟨j,e,q1,q2,q⟩:=q1
 subst e
 cases r1 with
 | cons r rr =>
  cases rr
  obtain ⟨t,rfl⟩:=r
  exact call_range_1 (nG I1 (by nofun) (by nofun) q1 q2 (by exists q))
theorem rj {a b:Expr} {ta:TA}  (hg:Gl X "range") (hm:X.mg "range" = none) (ha:PA X [a,b] ta) (hs:autoParam (starEach [a,b] X.env=[(false,eval a X.env),(false,eval b X.env)]) L2.aR._auto_1) (hs2:autoParam (starEach [b] X.env=[(false,eval b X.env)]) L2.aR._auto_1) :
  PI X tg (.Call (.Name "range" p) [a,b] [] pos) (Bp ta):=by
 intro pins s σ H R I h
 refine Call_ (kY I hg hm boot_range (abE (thn (ha pos pins s σ H _ I h) fun us s1 ⟨vs,H1,I1,r1,q1⟩=>?_) (by rw [hs,hs2]) (by rw [hs2]; rfl)))
 obtain ⟨i,j,e,⟨q1,q2,q3,q4⟩,q⟩:=q1
 subst e
 cases r1 with
 | cons r rr =>
  cases rr with
  | cons r' rr =>
   cases rr
   obtain ⟨t,rfl⟩:=r
   obtain ⟨t',rfl⟩:=r'
   exact call_range_2 (nG I1 q1 q2 q3 q4 q)
def IA (wi:TI)(g:TG)(tb:TS):TS:=fun D σ H=>wi σ H fun J H1=>∃ W:Nat->Nat->St->Hp->Prop,(∃ m,W 0 m σ H1)/\∀ i m σ H,W i m σ H ->
 (J.stop i H/\D.nx σ H)∨(J.go i H/\∃ N:St->Hp->Prop,(∀ σ' H',N σ' H'->∃ m',m' < m/\W (i+1) m' σ' H')/\∀ x H',J.yld i H x H'->g x σ H' fun σ2 H2=>tb { D with nx:=N,ct:=N,bk:=D.nx } σ2 H2)
def gz (fp:List Addr)(h:Heap):List (Addr×Obj):=fp.filterMap fun b=>(h.get? b).map fun o=>(b,o)
theorem cI {o:Obj}(hb:b ∈ fp)(e:h.get? b=some o):(b,o) ∈ gz fp h:=List.mem_filterMap.mpr ⟨b,hb,by rw [e]; rfl⟩
theorem rl {p:Addr×Obj}(hp:p ∈ gz fp h):p.1 ∈ fp/\h.get? p.1=some p.2:=by
 obtain ⟨b,hb,e⟩:=List.mem_filterMap.mp hp
 cases q:h.get? b with
 | none=>rw [q] at e; cases e
 | some o =>
  rw [q] at e
  have e':(b,o)=p:=aaj e
  subst e'
  exact ⟨hb,q⟩
theorem Inv.pinned (I:Inv X pins σ H s)(hf:∀ b ∈ fp,nF X pins H b)(ho:∀ b ∈ fp,∃ o,s.heap.get? b=some o/\∀ v,o.data≠.cell v):Inv X (pins++gz fp s.heap) σ H s :=
 I.pins_of fun p hp=>(List.mem_append.mp hp).elim (fun z=>I.pin p (aao _ z)) fun z=>by
  obtain ⟨hb,e⟩:=rl z
  obtain ⟨f0,f1,f2,_⟩:=hf p.1 hb
  obtain ⟨o,e',d⟩:=ho p.1 hb
  rw [e] at e'; cases e'
  exact ⟨e,f0,f1,f2,d⟩
theorem Inv.unpinned {pl:List (Addr×Obj)}(I:Inv X (pins++pl) σ H s):Inv X pins σ H s:=I.pins_of fun p hp=>I.pin p (aao _ (aaT _ hp))
theorem Fb {iter:Expr}{wi:TI}{g:TG}{tb:TS}(hp:PassesOwn (model X.prog X.w) X.A X.env X.xe)(hc:X.calm=true)(hi:PI X tg iter wi)(hg:PG X tg g)(hb:PSs X body tb)
  (hs:autoParam (∀ x,foldedSetIterable iter X.env x=pure x) L2.aI._auto_1):PS X (.For tg iter body [] pos) (IA wi g tb):=by
 intro pins s σ H D I h
 refine wpAny_For (thn (hi pins s σ H _ I h) fun v s1 h1=>thn h1 fun itv s2 h2=>?_) hs
 obtain ⟨it,fp,tn,J,H2,e,I2,T,st2,f2,W,⟨m0,w0⟩,turn⟩:=h2
 subst e
 -- what stays true of the iterator's objects through the loop
 have stat:∀ {H':Hp},(∀ b ∈ fp,H' b=none)->∀ b ∈ fp,nF X pins H' b:=fun hn b hb=>⟨hn b hb,(f2 b hb).2⟩
 refine codeAny_forLoop_any (fun n s'=>∃ i σ' H',Inv X pins σ' H' s'/\tn i s'.heap/\(∀ b ∈ fp,H' b=none)/\W i n σ' H') ?_ m0 ⟨0,σ,H2,I2,st2,fun b hb=>(f2 b hb).1,w0⟩
 rintro n s3 ⟨i,σ3,H3,I3,st3,fr3,w3⟩
 rcases turn i n σ3 H3 w3 with ⟨stop,qn⟩ | ⟨go,N,hN,step⟩
 ·refine aa6 hp (thn (T.done X rfl rfl rfl hc i pins s3 σ3 H3 X.xe I3 (stat fr3) st3 stop) fun r s4 ⟨hr,I4⟩=>?_)
  subst hr
  exact aa7 ⟨σ3,H3,I4,qn⟩
 ·refine aa6 hp (thn (T.item X rfl rfl rfl hc i pins s3 σ3 H3 X.xe I3 (stat fr3) st3 go) fun r s4 ⟨u,hr,h4⟩=>?_)
  subst hr
  refine aa6 hp (thn h4 fun _ s5 ⟨x,H5,I5,r5,y5,st5,fr5⟩=>?_)
  have I5':=I5.pinned (stat fr5) (T.obj _ _ st5)
  refine aa6 hp (thn (hg _ s5 σ3 H5 x u _ I5' r5 (step x H5 y5)) fun _ s6 ⟨σ6,H6,I6,q6⟩=>?_)
  refine aa6 hp (thn (hb _ s6 σ6 H6 _ I6 q6) fun f s7 q7=>?_)
  have again:∀ {σ7:St} {H7:Hp},Inv X (pins++gz fp s5.heap) σ7 H7 s7->N σ7 H7->∃ m,m < n/\∃ i σ' H',Inv X pins σ' H' s7/\tn i s7.heap/\(∀ b ∈ fp,H' b=none)/\W i m σ' H':=fun {σ7 H7} I7 n7=>by
   obtain ⟨m',hm,w7⟩:=hN σ7 H7 n7
   refine ⟨m',hm,i+1,σ7,H7,I7.unpinned,T.keep _ _ _ st5 fun b hb o e=>(I7.pin (b,o) (aao _ (aao _ (cI hb e)))).1,fun b hb=>?_,w7⟩
   obtain ⟨o,e,d⟩:=T.obj _ _ st5 b hb
   exact (I7.pin (b,o) (aao _ (aao _ (cI hb e)))).2.1
  cases f with
  | next=>obtain ⟨σ7,H7,I7,n7⟩:=q7; exact again I7 n7
  | cont=>obtain ⟨σ7,H7,I7,n7⟩:=q7; exact again I7 n7
  | brk=>obtain ⟨σ7,H7,I7,q7⟩:=q7; exact ⟨σ7,H7,I7.unpinned,q7⟩
  | ret v=>obtain ⟨x7,σ7,H7,I7,r7,q7⟩:=q7; exact ⟨x7,σ7,H7,I7.unpinned,r7,q7⟩
abbrev R2:=V->V->Hp->VK->Prop
variable{r r':R2}
def OpR (X:Cx)(f:Value->Value->Sem Value)(r:R2):Prop :=
 ∀ (pins:List (Addr×Obj)) (s:Shared) (σ:St) (H:Hp) (x y:V) (v u:Value) (Q:VK),Inv X pins σ H s->RelV x v->RelV y u->r x y H Q ->
  wpAny (model X.prog X.w) X.A (f v u) (EP X pins σ Q) X.xe s
def UnR (X:Cx)(f:Value->Sem Value)(r:V->Hp->VK->Prop):Prop :=
 ∀ (pins:List (Addr×Obj)) (s:Shared) (σ:St) (H:Hp) (x:V) (v:Value) (Q:VK),Inv X pins σ H s->RelV x v->r x H Q ->
  wpAny (model X.prog X.w) X.A (f v) (EP X pins σ Q) X.xe s
def CallR (X:Cx)(f:Value)(r:List V->Hp->VK->Prop):Prop :=
 ∀ (pins:List (Addr×Obj)) (s:Shared) (σ:St) (H:Hp) (xs:List V) (us:List Value) (Q:VK),Inv X pins σ H s->Vals xs us->r xs H Q ->
  wpAny (model X.prog X.w) X.A (call f us) (EP X pins σ Q) X.xe s
def TruR (X:Cx)(r:V->Hp->(Bool->Hp->Prop)->Prop):Prop :=
 ∀ (pins:List (Addr×Obj)) (s:Shared) (σ:St) (H:Hp) (x:V) (v:Value) (Q:Bool->Hp->Prop),Inv X pins σ H s->RelV x v->r x H Q ->
  wpAny (model X.prog X.w) X.A (truthy v) (TP X pins σ Q) X.xe s
def tOp (r:R2)(ta tb:TE):TE:=fun σ H Q=>ta σ H fun x H1=>tb σ H1 fun y H2=>r x y H2 Q
def tUn (r:V->Hp->VK->Prop)(ta:TE):TE:=fun σ H Q=>ta σ H fun x H1=>r x H1 Q
def rI (C:Int->Int->Prop)(g:Int->Int->V):R2:=fun x y H Q=>∃ i j,x=.int i/\y=.int j/\C i j/\Q (g i j) H
def rI0 (g:Int->Int->V):R2:=fun x y H Q=>∃ i j,x=.int i/\y=.int j/\Q (g i j) H
def rU (g:Int->V):V->Hp->VK->Prop:=fun x H Q=>∃ i,x=.int i/\Q (g i) H
section
variable  {a b:Expr} {tc:TE} 
theorem IB (ha:PE X a ta)(hb:PE X b tb)(I:Inv X pins σ H s)
  (h:ta σ H fun x H1=>tb σ H1 fun y H2=>R x y H2)  
  (hf:∀ v u s2 x y H2,Inv X pins σ H2 s2->RelV x v->RelV y u->R x y H2->wpAny (model X.prog X.w) X.A (f v u) Q X.xe s2) :
  wpAny (model X.prog X.w) X.A (eval a X.env) (fun v s₁=>wpAny (model X.prog X.w) X.A (eval b X.env) (fun u s₂=>wpAny (model X.prog X.w) X.A (f v u) Q X.xe s₂) X.xe s₁) X.xe s:=by
 refine thn (ha pins s σ H _ I h) fun v s1 ⟨x,H1,I1,r1,q1⟩=>?_
 refine thn (hb pins s1 σ H1 _ I1 q1) fun u s2 ⟨y,H2,I2,r2,q2⟩=>?_
 exact hf v u s2 x y H2 I2 r1 r2 q2
theorem IC {op:Operator}(ho:OpR X (binaryOp op) r)(ha:PE X a ta)(hb:PE X b tb):PE X (.BinOp a op b pos) (tOp r ta tb):=by
 intro pins s σ H Q I h
 exact wpAny_BinOp (IB ha hb I h fun v u s2 x y H2 I2 rx ry q=>ho pins s2 σ H2 x y v u Q I2 rx ry q)
theorem ID {op:UnaryOp}{r:V->Hp->VK->Prop}(ho:UnR X (unaryOp op) r)(ha:PE X a ta):PE X (.UnaryOp op a pos) (tUn r ta):=by
 intro pins s σ H Q I h
 exact UnaryOp_ (thn (ha pins s σ H _ I h) fun v s1 ⟨x,H1,I1,r1,q1⟩=>ho pins s1 σ H1 x v Q I1 r1 q1)
theorem opI {C:Int->Int->Prop}{g:Int->Int->Int}
  (rule:∀ (i j:Int) (t u:Tok) (s:Shared) (Q:Value->Shared->Prop) (E:Value->Shared->Prop),C i j->Q (.int (g i j) s.toks) { s with toks:=s.toks+1 }->wpAny (model X.prog X.w) X.A (f (.int i t) (.int j u)) Q E s) :
  OpR X f (rI C fun i j=>.int (g i j)):=by
 intro pins s σ H x y v u Q I rx ry h
 obtain ⟨i,j,rfl,rfl,hc,q⟩:=h
 obtain ⟨t,rfl⟩:=rx
 obtain ⟨t',rfl⟩:=ry
 exact rule i j t t' s _ _ hc ⟨.int (g i j),H,I.tok _,⟨_,rfl⟩,q⟩
theorem JN {g:Int->Int->Int}
  (rule:∀ (i j:Int) (t u:Tok) (s:Shared) (Q:Value->Shared->Prop) (E:Value->Shared->Prop),Q (.int (g i j) s.toks) { s with toks:=s.toks+1 }->wpAny (model X.prog X.w) X.A (f (.int i t) (.int j u)) Q E s) :
  OpR X f (rI0 fun i j=>.int (g i j)):=by
 intro pins s σ H x y v u Q I rx ry h
 obtain ⟨i,j,rfl,rfl,q⟩:=h
 obtain ⟨t,rfl⟩:=rx
 obtain ⟨t',rfl⟩:=ry
 exact rule i j t t' s _ _ ⟨.int (g i j),H,I.tok _,⟨_,rfl⟩,q⟩
theorem HZ {g:Int->Int->Bool}
  (rule:∀ (i j:Int) (t u:Tok) (s:Shared) (Q:Value->Shared->Prop) (E:Value->Shared->Prop),Q (.bool (g i j)) s->wpAny (model X.prog X.w) X.A (f (.int i t) (.int j u)) Q E s) :
  OpR X f (rI0 fun i j=>.bl (g i j)):=by
 intro pins s σ H x y v u Q I rx ry h
 obtain ⟨i,j,rfl,rfl,q⟩:=h
 obtain ⟨t,rfl⟩:=rx
 obtain ⟨t',rfl⟩:=ry
 exact rule i j t t' s _ _ ⟨.bl (g i j),H,I,rfl,q⟩
def rm (i j:Int):Prop:=0 < j/\j < 1073741824
def Fc (i j:Int):Prop:=0<=j/\j<=1000000/\i.natAbs < 2 ^ 64
def CMul (i j:Int):Prop:=(-(2 ^ 64) < i/\i < 2 ^ 64)∨(-(2 ^ 64) < j/\j < 2 ^ 64)
theorem CMul.ok {i j:Int}(h:CMul i j):IntMulOk i j:=by
 rcases h with ⟨h1,h2⟩ | ⟨h1,h2⟩
 ·exact .of_left (intBits_le_64 h1 h2)
 ·exact .of_right (intBits_le_64 h1 h2)
theorem Fd:OpR X (binaryOp .Add) (rI0 fun i j=>.int (i+j)):=JN fun _ _ _ _ _ _ _ q=>add_int q
theorem Fe:OpR X (binaryOp .Sub) (rI0 fun i j=>.int (i - j)):=JN fun _ _ _ _ _ _ _ q=>sub_int q
theorem Ff:OpR X (binaryOp .Mult) (rI CMul fun i j=>.int (i * j)):=opI fun _ _ _ _ _ _ _ hc q=>mul_int q hc.ok
theorem Bq:OpR X (binaryOp .FloorDiv) (rI rm fun i j=>.int (i / j)):=opI fun i j _ _ _ _ _ hc q=>by
 have h1:(0:Int) < j:=hc.1
 have h2:j < 1073741824:=hc.2
 exact floordiv_int (by nofun) (by rw [Int.fdiv_eq_ediv_of_nonneg i (by nofun)]; exact q) (.inl (PyProof.noPylong_small (by nofun)))
theorem Fg:OpR X (binaryOp .Mod) (rI (fun _ j=>0 < j) fun i j=>.int (i % j)):=opI fun i j _ _ _ _ _ hc q=>by
 have h1:(0:Int) < j:=hc
 exact mod_int' (by nofun) (by rw [Int.fmod_eq_emod_of_nonneg i (by nofun)]; exact q)
theorem Fh:OpR X (binaryOp .Pow) (rI Fc fun i j=>.int (i ^ j.toNat)):=opI fun _ _ _ _ _ _ _ hc q=>pow_int_small hc.1 hc.2.1 hc.2.2 q
theorem unI {f:Value->Sem Value}{g:Int->Int}
  (rule:∀ (i:Int) (t:Tok) (s:Shared) (Q:Value->Shared->Prop) (E:Value->Shared->Prop),Q (.int (g i) s.toks) { s with toks:=s.toks+1 }->wpAny (model X.prog X.w) X.A (f (.int i t)) Q E s) :
  UnR X f (rU fun i=>.int (g i)):=by
 intro pins s σ H x v Q I rx h
 obtain ⟨i,rfl,q⟩:=h
 obtain ⟨t,rfl⟩:=rx
 exact rule i t s _ _ ⟨.int (g i),H,I.tok _,⟨_,rfl⟩,q⟩
theorem Fi:UnR X (unaryOp .USub) (rU fun i=>.int (-i)):=unI fun _ _ _ _ _ q=>neg_int q
end
def JO:V->V->Bool
 | .non,.non=>true | .non,.int _=>true | .int _,.non=>true | .non,.bl _=>true | .bl _,.non=>true | .non,.str _=>true | .str _,.non=>true
 | .int _,.int _=>true | .bl _,.bl _=>true | .str _,.str _=>true | .byt _,.byt _=>true
 | .int _,.str _=>true | .str _,.int _=>true | .bl _,.str _=>true | .str _,.bl _=>true
 | _,_=>false
def rEq:R2:=fun x y H Q=>JO x y=true/\Q (.bl (decide (x=y))) H
def rNe:R2:=fun x y H Q=>JO x y=true/\Q (.bl (!decide (x=y))) H
theorem rn {i j:Int}:decide (V.int i=V.int j)=(i == j):=by
 rw [abI,decide_eq_true_iff,beq_iff_eq]
 exact ⟨fun h=>by cases h; rfl,fun h=>by rw [h]⟩
theorem Af {i j:Bool}:decide (V.bl i=V.bl j)=(i == j):=by
 rw [abI,decide_eq_true_iff,beq_iff_eq]
 exact ⟨fun h=>by cases h; rfl,fun h=>by rw [h]⟩
theorem rp {i j:Str}:decide (V.str i=V.str j)=(i == j):=by
 rw [abI,decide_eq_true_iff,beq_iff_eq]
 exact ⟨fun h=>by cases h; rfl,fun h=>by rw [h]⟩
theorem rq {i j:Array UInt8}:decide (V.byt i=V.byt j)=(i.toList == j.toList):=by
 rw [abI,decide_eq_true_iff,beq_iff_eq]
 exact ⟨fun h=>by cases h; rfl,fun h=>by rw [Array.toList_inj.mp h]⟩
section
variable  {a b:Expr} {tc:TE} 
theorem a9 {Q:VK}{k k':Bool}(I:Inv X pins σ H s)(q:Q (.bl k) H)(e:k=k'):EP X pins σ Q (.bool k') s:=by
 subst e
 exact ⟨.bl k,H,I,rfl,q⟩
theorem IE:OpR X (compareOp .Eq) rEq:=by
 intro pins s σ H x y v u Q I rx ry h
 obtain ⟨hs,q⟩:=h
 cases x with
 | non =>
  cases rx
  cases y with
  | non=>cases ry; exact PySem.EqNone.eq_none_none (a9 I q (by simp))
  | bl j=>cases ry; exact PySem.EqNone.eq_none_bool (a9 I q (by simp))
  | int j=>obtain ⟨t',rfl⟩:=ry; exact PySem.EqNone.eq_none_int (a9 I q (by simp))
  | str j=>obtain ⟨t',rfl⟩:=ry; exact PySem.EqNone.eq_none_str (a9 I q (by simp))
  | _=>exact absurd (show false=true from hs) Bool.false_ne_true
 | bl i =>
  cases rx
  cases y with
  | non=>cases ry; exact PySem.EqNone.eq_bool_none (a9 I q (by simp))
  | bl j=>cases ry; exact eq_bool (a9 I q Af)
  | str j=>obtain ⟨t',rfl⟩:=ry; exact PySem.EqMixed.eq_bool_str (a9 I q (by simp))
  | _=>exact absurd (show false=true from hs) Bool.false_ne_true
 | int i =>
  obtain ⟨t,rfl⟩:=rx
  cases y with
  | non=>cases ry; exact PySem.EqNone.eq_int_none (a9 I q (by simp))
  | int j=>obtain ⟨t',rfl⟩:=ry; exact eq_int (a9 I q rn)
  | str j=>obtain ⟨t',rfl⟩:=ry; exact PySem.EqMixed.eq_int_str (a9 I q (by simp))
  | _=>exact absurd (show false=true from hs) Bool.false_ne_true
 | str i =>
  obtain ⟨t,rfl⟩:=rx
  cases y with
  | non=>cases ry; exact PySem.EqNone.eq_str_none (a9 I q (by simp))
  | bl j=>cases ry; exact PySem.EqMixed.eq_str_bool (a9 I q (by simp))
  | int j=>obtain ⟨t',rfl⟩:=ry; exact PySem.EqMixed.eq_str_int (a9 I q (by simp))
  | str j=>obtain ⟨t',rfl⟩:=ry; exact eq_str (a9 I q rp)
  | _=>exact absurd (show false=true from hs) Bool.false_ne_true
 | byt i =>
  obtain ⟨t,rfl⟩:=rx
  cases y with
  | byt j=>obtain ⟨t',rfl⟩:=ry; exact PySem.W.eq_bytes (a9 I q rq)
  | _=>exact absurd (show false=true from hs) Bool.false_ne_true
 | _=>cases y <;> exact absurd (show false=true from hs) Bool.false_ne_true
theorem IF:OpR X (compareOp .NotEq) rNe:=by
 intro pins s σ H x y v u Q I rx ry h
 obtain ⟨hs,q⟩:=h
 cases x with
 | non =>
  cases rx
  cases y with
  | non=>cases ry; exact PySem.EqNone.ne_none_none (a9 I q (by simp))
  | bl j=>cases ry; exact PySem.EqNone.ne_none_bool (a9 I q (by simp))
  | int j=>obtain ⟨t',rfl⟩:=ry; exact PySem.EqNone.ne_none_int (a9 I q (by simp))
  | str j=>obtain ⟨t',rfl⟩:=ry; exact PySem.EqNone.ne_none_str (a9 I q (by simp))
  | _=>exact absurd (show false=true from hs) Bool.false_ne_true
 | bl i =>
  cases rx
  cases y with
  | non=>cases ry; exact PySem.EqNone.ne_bool_none (a9 I q (by simp))
  | bl j=>cases ry; exact ne_bool (a9 I q (congrArg not Af))
  | str j=>obtain ⟨t',rfl⟩:=ry; exact PySem.EqMixed.ne_bool_str (a9 I q (by simp))
  | _=>exact absurd (show false=true from hs) Bool.false_ne_true
 | int i =>
  obtain ⟨t,rfl⟩:=rx
  cases y with
  | non=>cases ry; exact PySem.EqNone.ne_int_none (a9 I q (by simp))
  | int j=>obtain ⟨t',rfl⟩:=ry; exact ne_int (a9 I q (congrArg not rn))
  | str j=>obtain ⟨t',rfl⟩:=ry; exact PySem.EqMixed.ne_int_str (a9 I q (by simp))
  | _=>exact absurd (show false=true from hs) Bool.false_ne_true
 | str i =>
  obtain ⟨t,rfl⟩:=rx
  cases y with
  | non=>cases ry; exact PySem.EqNone.ne_str_none (a9 I q (by simp))
  | bl j=>cases ry; exact PySem.EqMixed.ne_str_bool (a9 I q (by simp))
  | int j=>obtain ⟨t',rfl⟩:=ry; exact PySem.EqMixed.ne_str_int (a9 I q (by simp))
  | str j=>obtain ⟨t',rfl⟩:=ry; exact ne_str (a9 I q (congrArg not rp))
  | _=>exact absurd (show false=true from hs) Bool.false_ne_true
 | byt i =>
  obtain ⟨t,rfl⟩:=rx
  cases y with
  | byt j=>obtain ⟨t',rfl⟩:=ry; exact PySem.W.ne_bytes (a9 I q (congrArg not rq))
  | _=>exact absurd (show false=true from hs) Bool.false_ne_true
 | _=>cases y <;> exact absurd (show false=true from hs) Bool.false_ne_true
theorem IG:OpR X (compareOp .Lt) (rI0 fun i j=>.bl (decide (i < j))):=HZ fun _ _ _ _ _ _ _ q=>lt_int q
theorem IH:OpR X (compareOp .LtE) (rI0 fun i j=>.bl (decide (i<=j))):=HZ fun _ _ _ _ _ _ _ q=>le_int q
theorem II:OpR X (compareOp .Gt) (rI0 fun i j=>.bl (decide (j < i))):=HZ fun _ _ _ _ _ _ _ q=>gt_int q
theorem IJ:OpR X (compareOp .GtE) (rI0 fun i j=>.bl (decide (j<=i))):=HZ fun _ _ _ _ _ _ _ q=>ge_int q
theorem rA:OpR X (compareOp .In) (fun x y H Q=>∃ i j,x=.str i/\y=.str j/\Q (.bl (!(Builtin.Str.occurrences j i 0 j.length 1).isEmpty)) H):=by
 intro pins s σ H x y v u Q I rx ry h
 obtain ⟨i,j,rfl,rfl,q⟩:=h
 obtain ⟨t,rfl⟩:=rx
 obtain ⟨t',rfl⟩:=ry
 exact in_str (a9 I q rfl)
theorem Fj:OpR X (compareOp .Is) (fun x y H Q=>y=.non/\Q (.bl (decide (x=.non))) H):=by
 intro pins s σ H x y v u Q I rx ry h
 obtain ⟨rfl,q⟩:=h
 cases ry
 refine is_none_gen (a9 I q ?_)
 cases x <;> first
  | (cases rx; rfl)
  | (obtain ⟨t,rfl⟩:=rx; rfl)
theorem Br:OpR X (compareOp .IsNot) (fun x y H Q=>y=.non/\Q (.bl (!decide (x=.non))) H):=by
 intro pins s σ H x y v u Q I rx ry h
 obtain ⟨rfl,q⟩:=h
 cases ry
 refine isnot_none_gen (a9 I q ?_)
 cases x <;> first
  | (cases rx; rfl)
  | (obtain ⟨t,rfl⟩:=rx; rfl)
theorem OpR.or (h:OpR X f r)(h':OpR X f r'):OpR X f (fun x y H Q=>r x y H Q∨r' x y H Q):=by
 intro pins s σ H x y v u Q I rx ry q
 rcases q with q | q
 ·exact h pins s σ H x y v u Q I rx ry q
 ·exact h' pins s σ H x y v u Q I rx ry q
theorem Fk (b:Expr)(h:autoParam (op≠.In) L2.aD._auto_1)(h2:autoParam (op≠.NotIn) L2.aD._auto_1):behindInMarks op b=false:=by
 have e1:(op == CmpOp.In)=false:=by cases op <;> first | rfl | exact absurd rfl h
 have e2:(op == CmpOp.NotIn)=false:=by cases op <;> first | rfl | exact absurd rfl h2
 cases b
 case Set k elts z=>exact Bool.and_eq_false_iff.mpr (.inl (Bool.and_eq_false_iff.mpr (.inr (Bool.or_eq_false_iff.mpr ⟨e1,e2⟩))))
 all_goals rfl
theorem Bs (ho:OpR X (compareOp op) r)(ha:PE X a ta)(hb:PE X b tb)(hm:behindInMarks op b=false):PE X (.Compare a [op] [b] pos) (tOp r ta tb):=by
 intro pins s σ H Q I h
 exact wpAny_Compare1 (IB ha hb I h fun v u s2 x y H2 I2 rx ry q=>ho pins s2 σ H2 x y v u Q I2 rx ry q) hm
def mL (t:TE):TT:=fun σ H Q=>t σ H fun x H'=>∃ k,x=.bl k/\Q k H'
theorem Bt (ho:OpR X (compareOp op) r)(ha:PE X a ta)(hb:PE X b tb)(hm:behindInMarks op b=false):PT X (.Compare a [op] [b] pos) (mL (tOp r ta tb)):=by
 intro pins s σ H Q I h
 refine wpAny_isTrue_Compare1 (thn (ha pins s σ H _ I h) fun v s1 ⟨x,H1,I1,r1,q1⟩=>thn (hb pins s1 σ H1 _ I1 q1) fun u s2 ⟨y,H2,I2,r2,q2⟩ =>
  thn (ho pins s2 σ H2 x y v u _ I2 r1 r2 q2) fun c s3 ⟨z,H3,I3,r3,k,e,q3⟩=>?_) hm
 subst e
 cases r3
 exact aaL ⟨H3,I3,q3⟩
def kZ (r r':R2)(ta tb tc:TE):TE:=fun σ H Q=>ta σ H fun x H1=>tb σ H1 fun y H2=>r x y H2 fun z H3=>∃ k,z=.bl k /\
 (if k=true then tc σ H3 fun w' H4=>r' y w' H4 Q else Q (.bl false) H3)
theorem wl (ho:OpR X (compareOp op) r)(ho':OpR X (compareOp op') r')(ha:PE X a ta)(hb:PE X b tb)(hc:PE X c tc)
  (hm:lastMarks [op,op'] [b,c]=false:=by with_unfolding_all rfl):PE X (.Compare a [op,op'] [b,c] pos) (kZ r r' ta tb tc):=by
 intro pins s σ H Q I h
 refine Compare_chain (thn (ha pins s σ H _ I h) fun v s1 ⟨x,H1,I1,r1,q1⟩=>chain_link (thn (hb pins s1 σ H1 _ I1 q1) fun u s2 ⟨y,H2,I2,r2,q2⟩ =>
  thn (ho pins s2 σ H2 x y v u _ I2 r1 r2 q2) fun d s3 ⟨z,H3,I3,r3,k,e,q3⟩=>?_)) hm
 subst e
 cases r3
 refine aaL ?_
 cases k with
 | false=>exact ite_ff ⟨.bl false,H3,I3,rfl,q3⟩
 | true=>exact ite_tt (chain_last (thn (hc pins s3 σ H3 _ I3 q3) fun w' s4 ⟨z',H4,I4,r4,q4⟩=>ho' pins s4 σ H4 y z' u w' Q I4 r2 r4 q4))
theorem wm (ho:OpR X (compareOp op) r)(ho':OpR X (compareOp op') r')(ha:PE X a ta)(hb:PE X b tb)(hc:PE X c tc)
  (hm:lastMarks [op,op'] [b,c]=false:=by with_unfolding_all rfl):PT X (.Compare a [op,op'] [b,c] pos) (mL (kZ r r' ta tb tc)):=by
 intro pins s σ H Q I h
 refine isTrue_chain (thn (ha pins s σ H _ I h) fun v s1 ⟨x,H1,I1,r1,q1⟩=>test_link (thn (hb pins s1 σ H1 _ I1 q1) fun u s2 ⟨y,H2,I2,r2,q2⟩ =>
  thn (ho pins s2 σ H2 x y v u _ I2 r1 r2 q2) fun d s3 ⟨z,H3,I3,r3,k,e,q3⟩=>?_)) hm
 subst e
 cases r3
 refine aaL ?_
 cases k with
 | false =>
  obtain ⟨k',e',q'⟩:=q3
  cases e'
  exact ite_ff ⟨H3,I3,q'⟩
 | true =>
  refine ite_tt (test_last (thn (hc pins s3 σ H3 _ I3 q3) fun w' s4 ⟨z',H4,I4,r4,q4⟩=>thn (ho' pins s4 σ H4 y z' u w' _ I4 r2 r4 q4) fun d' s5 ⟨z2,H5,I5,r5,k2,e2,q5⟩=>?_))
  subst e2
  cases r5
  exact aaL ⟨H5,I5,q5⟩
def IK (K:Frag)(x:V)(H:Hp)(k:Bool):Prop :=
 match x with
 | .non=>k=false
 | .bl b=>k=b
 | .int i=>k=(i != 0)
 | .str y=>y.length<=sizeLine/\k=((y.length:Int) != 0)
 | .byt y=>y.size<=sizeLine/\k=((y.size:Int) != 0)
 | .ref p=>(∃ xs,SqL K H p xs/\k=!xs.isEmpty)∨(∃ xs,SqT K H p xs/\k=!xs.isEmpty)∨∃ kvs,H p=some (.dK kvs)/\k=!kvs.isEmpty
 | _=>False
theorem pR {κ:Type}{kvs:List (κ×V)}{vs:List (κ×Value)}(r:KV kvs vs):(!vs.isEmpty)=!kvs.isEmpty:=by
 cases r <;> rfl
theorem jk {its:List Value}(r:Vals xs its):(!its.toArray.isEmpty)=!xs.isEmpty:=by
 cases r <;> simp
theorem ia:(sizeLine:Nat) < 2 ^ 63:=by rw [sizeLine_eq]; decide
theorem Fl:TruR X (fun x H Q=>∃ k,IK X.K x H k/\Q k H):=by
 intro pins s σ H x v Q I rx h
 obtain ⟨k,e,q⟩:=h
 have hl:=ia
 have hs:sizeLine=16777216:=sizeLine_eq
 cases x with
 | non =>
  cases rx
  have e':k=false:=e
  subst e'
  exact truthy_none ⟨H,I,q⟩
 | bl b =>
  cases rx
  have e':k=b:=e
  subst e'
  exact aaL ⟨H,I,q⟩
 | int i =>
  obtain ⟨t,rfl⟩:=rx
  have e':k=(i != 0):=e
  subst e'
  exact PySem.P.truthy_int ⟨H,I,q⟩
 | str y =>
  obtain ⟨t,rfl⟩:=rx
  obtain ⟨hy,e'⟩:y.length<=sizeLine/\k=((y.length:Int) != 0):=e
  subst e'
  exact PySem.P.truthy_str (by nofun) ⟨H,I.tok _,q⟩
 | byt y =>
  obtain ⟨t,rfl⟩:=rx
  obtain ⟨hy,e'⟩:y.size<=sizeLine/\k=((y.size:Int) != 0):=e
  subst e'
  exact PySem.W.truthy_bytes (by nofun) ⟨H,I.tok _,q⟩
 | ref p =>
  cases rx
  have e':(∃ xs,SqL X.K H p xs/\k=!xs.isEmpty)∨(∃ xs,SqT X.K H p xs/\k=!xs.isEmpty)∨∃ kvs,H p=some (.dK kvs)/\k=!kvs.isEmpty:=e
  rcases e' with ⟨xs,hx,e'⟩ | ⟨xs,hx,e'⟩ | ⟨kvs,hx,e'⟩
  ·subst e'
   obtain ⟨its,r,pl,hz⟩:=I.list hx
   have hlen:=r.length
   exact wpAny_truthy_list pl.isList (by simp only [List.size_toArray]; nofun) ⟨H,I.tok _,by rw [jk r]; exact q⟩
  ·subst e'
   obtain ⟨its,r,pl,hz⟩:=I.tuple hx
   have hlen:=r.length
   exact truthy_tuple pl (by simp only [List.size_toArray]; nofun) ⟨H,I.tok _,by rw [jk r]; exact q⟩
  ·subst e'
   obtain ⟨hz,hS,vs,r,m⟩:kvs.length<=sizeLine/\(p == sysModules)=false/\∃ vs,KV kvs vs/\s.heap.DictOf (bt X.prog X.w) p vs:=I.hok p _ hx
   have hlen:kvs.length=vs.length:=abz r
   exact wpAny_truthy_dict hS m (by nofun) ⟨H,I.tok _,by rw [pR r]; exact q⟩
 | _=>exact (show False from e).elim
theorem pT:OpR X (binaryOp .Add) (fun x y H Q=>∃ i j,x=.str i/\y=.str j/\i.length+j.length<=sizeLine/\Q (.str (i++j)) H):=by
 intro pins s σ H x y v u Q I rx ry h
 obtain ⟨i,j,rfl,rfl,hz,q⟩:=h
 obtain ⟨t,rfl⟩:=rx
 obtain ⟨t',rfl⟩:=ry
 exact add_str (fun t' tk=>⟨.str (i++j),H,I.tok _,⟨_,rfl⟩,q⟩) hz
theorem dH {x:V}(r:Vals [x] us):∃ u,us=[u]/\RelV x u:=by
 cases r with
 | cons r1 r2=>cases r2; exact ⟨_,rfl,r1⟩
theorem rB {x y:V}(r:Vals [x,y] us):∃ u w',us=[u,w']/\RelV x u/\RelV y w':=by
 cases r with
 | cons r1 r2 =>
  cases r2 with
  | cons r3 r4=>cases r4; exact ⟨_,_,rfl,r1,r3⟩
theorem rC (hc:X.calm=true):CallR X (.builtin "max") (fun xs H Q=>∃ i j,xs=[.int i,.int j]/\Q (.int (if j > i then j else i)) H):=by
 intro pins s σ H xs us Q I r h
 obtain ⟨i,j,rfl,q⟩:=h
 obtain ⟨u,w',rfl,⟨t,rfl⟩,⟨t',rfl⟩⟩:=rB r
 refine max_two_ints (I.ok.hd hc) fun h' tk k=>⟨_,H,I.kept k,?_,q⟩
 by_cases hj:j > i
 ·rw [if_pos hj,if_pos hj]; exact ⟨_,rfl⟩
 ·rw [if_neg hj,if_neg hj]; exact ⟨_,rfl⟩
theorem rD (hc:X.calm=true):CallR X (.builtin "min") (fun xs H Q=>∃ i j,xs=[.int i,.int j]/\Q (.int (if j < i then j else i)) H):=by
 intro pins s σ H xs us Q I r h
 obtain ⟨i,j,rfl,q⟩:=h
 obtain ⟨u,w',rfl,⟨t,rfl⟩,⟨t',rfl⟩⟩:=rB r
 refine min_two_ints (I.ok.hd hc) fun h' tk k=>⟨_,H,I.kept k,?_,q⟩
 by_cases hj:j < i
 ·rw [if_pos hj,if_pos hj]; exact ⟨_,rfl⟩
 ·rw [if_neg hj,if_neg hj]; exact ⟨_,rfl⟩
end
structure ObjM (h:Heap)(x dx C:Addr)(mA:Str->Option Value):Prop where
 obj:h.get? x=some (PySem.W.instObj C dx)
 ns:h.Ns1 dx mA
 ne:dx≠x
theorem rE (n:h.Ns1 dx mA):∃ od,h.get? dx=some od/\∀ name,PySem.W.lookIn name od=some (mA name):=by
 obtain ⟨o,es,ep,ho,hd,hk,_,hm⟩:=n
 refine ⟨o,ho,fun name=>?_⟩
 have e:=hm name
 unfold nsFind findBy at e
 rw [← Array.find?_toList] at e
 unfold PySem.W.lookIn
 rw [hd]
 dsimp only
 split
 ·rename_i y q
  rw [q] at e
  exact congrArg some e
 ·rename_i q
  rw [q] at e
  have a:es.toList.any (·.refKey)=false:=by
   rw [List.any_eq_false]
   intro y hy
   obtain ⟨z,t,hkey⟩:=hk y (Array.mem_toList_iff.mp hy)
   simp [DictEntry.refKey,hkey]
  have a':¬ es.toList.any (·.refKey)=true:=by rw [a]; exact Bool.false_ne_true
  rw [if_neg a']
  exact congrArg some e
theorem ObjM.look {x:Addr}(I:ObjM h x dx C mA):∃ od,PySem.W.InstAt h x (PySem.W.instObj C dx) C (some od)/\∀ name,PySem.W.lookIn name od=some (mA name) :=
 let ⟨od,ho,hl⟩:=rE I.ns
 ⟨od,⟨I.obj,rfl,rfl,ho⟩,hl⟩
section
variable {prog:Program}     {K:Frag} {x f:Addr}   {v:Value}
end
theorem RelO.some_of {o:Option Value}(r:RelO (some v) o):∃ u,o=some u/\RelV v u:=by
 cases o with
 | none=>exact (show False from r).elim
 | some u=>exact ⟨u,rfl,r⟩
section
variable      {fs fs':List (Str×V)}
theorem Bu (hok:HOk P w H h)(e:H a=some (.ins C dx fs)):∃ mA,ObjM h a dx C mA/\(∀ f,RelO (fs.lookup f) (mA f))/\PySem.Within mA (fs.map (·.1))/\fs.length<=1000/\H dx=some (.own a):=by
 obtain ⟨d,z,ne,ob,mA,n,r,q⟩:=(show ObjOk P w H h a (.ins C dx fs) from hok a _ e)
 exact ⟨mA,⟨ob,n,ne⟩,r,q,z,d⟩
end
structure Cls (K:Frag)(C:Addr):Prop where
 pg:PySem.W.plainGet K C Str.empty=true
 hd:PySem.W.hasDictIn K C=true
 po:PySem.W.plainOver K C=true
 sa:PySem.W.findIn K (.ref C) "__setattr__" = some (some (.builtin "object.__setattr__"))
theorem Cls.get {K:Frag}(c:Cls K C)(f:Str):PySem.W.plainGet K C f=true:=c.pg
section
variable       {fs:List (Str×V)} {f:Str}   
end
section
variable  {o value:Expr} {f:Str} {tpos:Pos} {tv:TE}
end
section
variable         {c:Value} {b:Bool}
inductive TyOf (K:Frag)(H:Hp):V->Value->Prop where
 | non:TyOf K H .non (.type "NoneType")
 | bl (x:Bool):TyOf K H (.bl x) (.type "bool")
 | int (i:Int):TyOf K H (.int i) (.type "int")
 | str (x:Str):TyOf K H (.str x) (.type "str")
 | flt (x:UInt64):TyOf K H (.flt x) (.type "float")
 | lst {a:Addr} {xs:List V} (e:H a=some (.lst xs)):TyOf K H (.ref a) (.type "list")
 | frz {a:Addr} {o:Obj} {xs:List V} (e:H a=some (.frz o (.lst xs))):TyOf K H (.ref a) (.type "list")
 | tup {a:Addr} {xs:List V} (e:H a=some (.tup xs)):TyOf K H (.ref a) (.type "tuple")
 | dK {a:Addr} {kvs:List (Key×V)} (e:H a=some (.dK kvs)):TyOf K H (.ref a) (.type "dict")
 | dT {a:Addr} {kvs:List (List Key×V)} (e:H a=some (.dT kvs)):TyOf K H (.ref a) (.type "dict")
 | ins {a C dx:Addr} {fs:List (Str×V)} (e:H a=some (.ins C dx fs)) (cl:Cls K C) (ha:PySem.W.findIn K (.ref C) "__class__" = some (some (.builtin "object.__class__")))
   (hn:PySem.W.specialIn K (.builtin "object.__class__") "__get__" = some (some (.builtin "getset_descriptor.__get__"))) (htk:PySem.W.takesIn K (.builtin "object.__class__")=some true)
   (hm:PySem.W.mroIn K C (.type "object")=some true):TyOf K H (.ref a) (.ref C)
theorem fK {x:V}{t:Value}(I:Inv X pins σ H s)(rx:RelV x u)(ty:TyOf X.K H x t)(e:PySem.W.kitOne X.K t c=some b)(h:∀ tk,Q (.bool b) { s with toks:=tk }) :
  wpAny (model X.prog X.w) A (call (.builtin "isinstance") [u,c]) Q E s:=by
 cases ty with
 | non=>cases (show u=Value.none from rx); exact aax PySem.W.kitx_none I.kIn True.intro e (fun z=>nomatch z) h
 | bl y=>cases (show u=Value.bool y from rx); exact aax PySem.W.kitx_bool I.kIn True.intro e (fun z=>nomatch z) h
 | int i=>obtain ⟨t,q⟩:=(show ∃ t,u=Value.int i t from rx); cases q; exact aax PySem.W.kitx_int I.kIn True.intro e (fun z=>nomatch z) h
 | str y=>obtain ⟨t,q⟩:=(show ∃ t,u=Value.str y t from rx); cases q; exact aax PySem.W.kitx_str I.kIn True.intro e (fun z=>nomatch z) h
 | flt y=>obtain ⟨t,q⟩:=(show ∃ t,u=Value.float y t from rx); cases q; exact aax PySem.W.kitx_float I.kIn True.intro e (fun z=>nomatch z) h
 | @lst a xs ea =>
  cases (show u=Value.ref a from rx)
  obtain ⟨_,_,n,_,h1⟩:=(show ObjOk X.prog X.w H s.heap a (.lst xs) from I.hok a _ ea)
  exact aax PySem.W.kitx_list I.kIn ⟨_,h1,rfl⟩ e (fun z=>nomatch z) h
 | @frz a ob xs ea =>
  cases (show u=Value.ref a from rx)
  obtain ⟨_,_,_,n,_,h1⟩:=(show ObjOk X.prog X.w H s.heap a (.frz ob (.lst xs)) from I.hok a _ ea)
  exact aax PySem.W.kitx_list I.kIn ⟨_,h1,rfl⟩ e (fun z=>nomatch z) h
 | @tup a xs ea =>
  cases (show u=Value.ref a from rx)
  obtain ⟨_,_,_,p⟩:=(show ObjOk X.prog X.w H s.heap a (.tup xs) from I.hok a _ ea)
  obtain ⟨o,h1,h2,_⟩:=p
  exact aax PySem.W.kitx_tuple I.kIn ⟨o,h1,h2⟩ e (fun z=>nomatch z) h
 | @dK a kvs ea =>
  cases (show u=Value.ref a from rx)
  obtain ⟨_,_,vs,_,p⟩:=(show ObjOk X.prog X.w H s.heap a (.dK kvs) from I.hok a _ ea)
  obtain ⟨o,es,ep,h1,h2,_⟩:=p
  exact aax PySem.W.kitx_dict I.kIn ⟨o,h1,h2.1⟩ e (fun z=>nomatch z) h
 | @dT a kvs ea =>
  cases (show u=Value.ref a from rx)
  obtain ⟨_,_,xs,_,o,es,ep,h1,h2,_⟩:=(show ObjOk X.prog X.w H s.heap a (.dT kvs) from I.hok a _ ea)
  exact aax PySem.W.kitx_dict I.kIn ⟨o,h1,h2.1⟩ e (fun z=>nomatch z) h
 | @ins a C dx fs ea cl ha hn htk hm =>
  cases (show u=Value.ref a from rx)
  obtain ⟨mA,O,_⟩:=Bu I.hok ea
  obtain ⟨od,J,_⟩:=O.look
  exact aax (PySem.W.kitx_own (cl.get _) cl.hd ha hn htk hm) I.kIn J e (fun z=>nomatch z) h
end
structure Room (k:Nat)(A:Around):Prop where
 hd:A.handled=none
 dp:A.depth+3 * k+5 < recursionLimit
 un:A.units+16 * k+200 < cLine
 gd:A.guards=some []
theorem Room.mono (r:Room k A)(h:j<=k):Room j A:=⟨r.hd,by have:=r.dp; nofun,by have:=r.un; nofun,r.gd⟩
theorem Room.deeper (r:Room (k+1) A)(env:Env):Room k (A.deeper env) :=
 ⟨r.hd,by have:=r.dp; show A.depth+1+3 * k+5 < _; nofun,by have:=r.un; show A.units+3+16 * k+200 < _; nofun,r.gd⟩
theorem Room.depth (r:Room k A):A.depth < recursionLimit:=by have:=r.dp; nofun
theorem Room.units (r:Room k A):A.units+64 < cLine:=by have:=r.un; nofun
def la:TA:=fun _ H Q=>Q [] H
def dI (ta:TE)(tr:TA):TA:=fun σ H Q=>ta σ H fun x H1=>tr σ H1 fun xs H2=>Q (x::xs) H2
theorem Ag:PA X [] la:=fun _ _ _ _ H Q I h=>Calls.spliced_nil ⟨[],H,I,.nil,h⟩
theorem rF (ha:PE X e te)(hr:PA X es t)(hs:autoParam (starEach (e::es) X.env=(false,eval e X.env)::starEach es X.env) L2.aR._auto_1):PA X (e::es) (dI te t):=by
 intro pos pins s σ H Q I h
 rw [hs]
 show wpAny _ _ (spliced ((false,eval e X.env)::backTo pos (starEach es X.env))) _ _ s
 refine abp (thn (ha pins s σ H _ I h) fun u s1 ⟨x,H1,I1,r1,q1⟩=>?_)
 exact thn (hr pos pins s1 σ H1 _ I1 q1) fun us s2 ⟨xs,H2,I2,r2,q2⟩=>⟨x::xs,H2,I2,.cons r1 r2,q2⟩
def Ia (t:TA):TE:=fun σ H Q=>t σ H fun xs H1=>xs.length<=sizeLine/\∀ p,H1 p=none->Q (.ref p) (upd H1 p (.tup xs))
def IL (t:TA):TE:=fun σ H Q=>t σ H fun xs H1=>xs.length<=sizeLine/\∀ p,H1 p=none->Q (.ref p) (upd H1 p (.lst xs))
theorem Fm {x1}(h:PA X es t):PE X (.Tuple es x1 pos) (Ia t):=by
 intro pins s σ H Q I hq
 refine wpAny_Tuple_spliced (thn (h pos pins s σ H _ I hq) fun us s1 ⟨xs,H1,I1,r,z,q⟩=>⟨by rw [← r.length]; exact z,?_⟩)
 have hf:H1 s1.heap.objs.size=none:=I1.hok.fresh (aac _)
 refine ⟨.ref s1.heap.objs.size,upd H1 s1.heap.objs.size (.tup xs),I1.laid (t':=s1.toks) (fun b u e=>Heap.get?_push_of_some _ e) (aac _) ?_,rfl,q _ hf⟩
 exact ⟨z,us,r,⟨_,Heap.get?_push_size _ rfl,rfl,_,rfl⟩⟩
theorem Fn (h:PA X es t):PE X (.List es pos) (IL t):=by
 intro pins s σ H Q I hq
 refine wpAny_List_spliced (thn (h pos pins s σ H _ I hq) fun us s1 ⟨xs,H1,I1,r,z,q⟩=>⟨by rw [← r.length]; exact z,?_⟩)
 have hf:H1 s1.heap.objs.size=none:=I1.hok.fresh (aac _)
 refine ⟨.ref s1.heap.objs.size,upd H1 s1.heap.objs.size (.lst xs),I1.laid (t':=s1.toks) (fun b u e=>Heap.get?_push_of_some _ e) (aac _) ?_,rfl,q _ hf⟩
 exact ⟨z,us,0,r,Heap.get?_push_size _ rfl⟩
abbrev Sp:=List V->Hp->VK->XK->Prop
variable{sp:Sp}
abbrev CXT:=List Env->Hp->Shared->XK->Value->Shared->Prop
variable{CX:CXT}
structure Env0 (P:Program)(w:World)(K:Frag)(mg:Str->Option Value)(base:Heap)(A:Around)(outer:List Env)(s:Shared)(H:Hp):Prop where
 frames:A.frames=some outer
 mod:Mod K mg base
 bs:∀ b o,base.get? b=some o->s.heap.get? b=some o/\H b=none
 bsz:base.objs.size<=s.heap.objs.size
 funs:s.heap.FunFrames base outer
 frf:∀ b ∈ frs outer,H b=none
 hok:HOk P w H s.heap
 bare:AllBare s.gens
def CE (outer:List Env)(P:Program)(w:World)(H:Hp)(s:Shared)(Q:VK)(u:Value)(s':Shared):Prop :=
 ∃ v H',s'.os=s.os/\AllBare s'.gens/\Un (frs outer) [] H H' s.heap s'.heap/\HOk P w H' s'.heap/\RelV v u/\Q v H'
def CR (CX:CXT)(outer:List Env)(P:Program)(w:World)(H:Hp)(s:Shared)(Q:VK)(E:XK)(r:Result)(s':Shared):Prop :=
 match r with
 | .ok (.ret u)=>CE outer P w H s Q u s'
 | .ok _=>False
 | .error e=>CX outer H s E e s'
structure FnOk (P:Program)(w:World)(K:Frag)(mg:Str->Option Value)(base:Heap)(CX:CXT)(k:Nat)(f:Addr)(fd:FuncData)(ps:List Str)(sp:Sp):Prop where
 len:∀ vs H Q E,sp vs H Q E->vs.length=ps.length
 run:∀ (A:Around) (outer:List Env) (s:Shared) (H:Hp) (args:Args) (us:List Value) (vs:List V) (Q:VK) (E:XK),Room k A->Env0 P w K mg base A outer s H->BindsTo s fd args (ps.zip us)->Vals vs us->sp vs H Q E ->
  codeAny (model P w) A (.call (.ref f) args) (CR CX outer P w H s Q E) s
theorem FnOk.imp {K:Frag}{f:Addr}{sp':Sp}(F:FnOk P w K mg base CX k f fd ps sp)
  (h:∀ vs H Q E,sp' vs H Q E->sp vs H Q E):FnOk P w K mg base CX k f fd ps sp' :=
 ⟨fun vs H Q E q=>F.len vs H Q E (h _ _ _ _ q),fun A outer s H args us vs Q E hr he hb hv hs=>F.run A outer s H args us vs Q E hr he hb hv (h _ _ _ _ hs)⟩
theorem Inv.env0 (I:Inv X pins σ H s):Env0 X.prog X.w X.K X.mg X.base X.A X.stack s H :=
 ⟨I.ok.frames,I.ok.mod,I.bs,aaq I.ok.bsz I.sz,I.stack,I.stkFree,I.hok,I.bare⟩
theorem Inv.after {Q:VK}(I:Inv X pins σ H s)(h:CE X.stack X.prog X.w H s Q u s'):EP X pins σ Q u s':=by
 obtain ⟨v,H',os,bare,un,hok,r,q⟩:=h
 obtain ⟨hh,g,d,t,os'⟩:=s'
 obtain rfl:os'=s.os:=os
 exact ⟨v,H',I.call (h':=hh) (g':=g) (d':=d) (t':=t) (ch:=[]) un hok bare (fun b z=>absurd z (by simp)),r,q⟩
def jc (sp:Sp)(dvs:List V)(E:XK)(t:TA):TE:=fun σ H Q=>t σ H fun vs H1=>sp (vs++dvs) H1 Q E
def Binds (K:Frag)(fd:FuncData)(ps:List Str)(ds:List Value):Prop :=
 ∀ (s:Shared) (us:List Value),K.In s.heap->(us++ds).length=ps.length->BindsTo s fd ⟨us,[]⟩ (ps.zip (us++ds))
theorem Binds.all {K:Frag}(h:∀ us:List Value,us.length=ps.length->bindArgs fd ⟨us,[]⟩=pure (ps.zip us)):Binds K fd ps []:=fun s us _ hl=>by
 rw [aaJ] at hl ⊢
 exact .of_eq (h us hl)
def jl (CX:CXT)(X:Cx)(E:XK):Prop:=∀ (pins:List (Addr×Obj)) (σ:St) (H:Hp) (s:Shared) (e:Value) (s':Shared),Inv X pins σ H s->CX X.stack H s E e s'->X.xe e s'
section
variable    {f:Addr}    {dvs:List V} {ds:List Value} {E:XK} {x:Str}  {o:Expr}   
theorem Fo {Q:VK}(F:FnOk X.prog X.w X.K X.mg X.base CX k f fd ps sp)(hr:Room k X.A)(hb:Binds X.K fd ps ds)(hd:Vals dvs ds)(hx:jl CX X E)
  (I:Inv X pins σ H s) (r:Vals vs us) (h:sp (vs++dvs) H Q E):wpAny (model X.prog X.w) X.A (call (.ref f) us) (EP X pins σ Q) X.xe s:=by
 have r2:Vals (vs++dvs) (us++ds):=r.append hd
 have hl:(us++ds).length=ps.length:=by rw [← r2.length]; exact F.len _ _ _ _ h
 refine wpAny_call (codeAny_mono (F.run X.A X.stack s H ⟨us,[]⟩ (us++ds) (vs++dvs) Q E hr I.env0 (hb s us I.kIn hl) r2 h) fun r s' hq=>?_)
 cases r with
 | error e=>exact hx pins σ H s e s' I hq
 | ok fl =>
  cases fl with
  | ret u=>exact I.after hq
  | next=>exact False.elim hq
  | brk=>exact False.elim hq
  | cont=>exact False.elim hq
theorem rG (F:FnOk X.prog X.w X.K X.mg X.base CX k f fd ps sp)(hr:Room k X.A)(hg:Gl X x)(hm:X.mg x=some (.ref f))(hk:PySem.W.keepIn X.K (.ref f)=true)(hb:Binds X.K fd ps ds)(hd:Vals dvs ds)(hx:jl CX X E)
  (ha:PA X (e::es) t) (hdb:autoParam ((x == ("__debug__" : Str))=false) L2.aD._auto_1) (he:autoParam (starEach (e::es) X.env=(false,eval e X.env)::starEach es X.env) L2.aR._auto_1) (hpl:autoParam ((backTo pos (starEach es X.env)).any (·.1)=false) L2.aR._auto_1) :
  PE X (.Call (.Name x p) (e::es) [] pos) (jc sp dvs E t):=by
 intro pins s σ H Q I h
 refine wpAny_Call_Name_kw (hV I hg hm ?_ hdb)
 refine PySem.W.callWith_K (h₀:=X.base) I.ok.mod.kin hk (thn (ha pos pins s σ H _ I h) fun us s1 ⟨vs,H1,I1,r,q⟩=>⟨I1.kIn,?_⟩) he hpl
 exact Fo F hr hb hd hx I1 r q
end
section
variable    {f:Addr}  {ks:List Str}  {E:XK} {x:Str} {kpos:Pos} {o:Expr}  {kws:List Keyword}  {tk:TA} {nm:Option Str}
variable {g:List Value->List Value->List Value} {gV:List V->List V->List V}
end
structure FnScope (N P:List Str)(sc:Scope):Prop where
 kind:sc.kind=.function
 co:sc.isCoroutine=false
 gen:sc.isGenerator=false
 nd:N.Nodup
 pre:N.take P.length=P
 par:∀ x ∈ P,sc.names.lookup x=some .local∨sc.names.lookup x=some .cell
 nofree:∀ y ∈ sc.names,y.2≠.free
theorem lb {kindOf:Str->Option NameKind}{x:Str}:∀ {binds:List (Str×Value)} {m:Str->Option Value},(∀ v,(x,v) ∉ binds)->bindL kindOf binds m x=m x
 | [],_,_=>rfl
 | (n,v)::r,m,h=>by
  unfold bindL
  rw [lb fun w hw=>h w (aag _ hw)]
  split
  ·have:x≠n:=by rintro rfl; exact h v aad
   simp [this]
  ·rfl
theorem lc {kindOf:Str->Option NameKind}{x:Str}:∀ {binds:List (Str×Value)} {m:Str->Option Value},(∀ v,(x,v) ∉ binds)->bindC kindOf binds m x=m x
 | [],_,_=>rfl
 | (n,v)::r,m,h=>by
  unfold bindC
  rw [lc fun w hw=>h w (aag _ hw)]
  split
  ·rfl
  ·have:x≠n:=by rintro rfl; exact h v aad
   simp [this]
theorem lf {kindOf:Str->Option NameKind}{x:Str}{v:Value}:∀ {P:List Str} {vs:List Value} {i:Nat} {m:Str->Option Value},P.Nodup->P[i]?=some x->vs[i]?=some v->kindOf x=some .local ->
  bindL kindOf (P.zip vs) m x=some v
 | [],_,_,_,_,h,_,_=>by simp at h
 | _::_,[],_,_,_,_,h,_=>by simp at h
 | p::P,w::vs,0,m,nd,h1,h2,hk=>by
  simp at h1 h2; subst h1; subst h2
  show bindL kindOf ((p,w)::P.zip vs) m p=_
  unfold bindL
  rw [lb fun v hv=>(List.nodup_cons.mp nd).1 (List.of_mem_zip hv).1,if_pos hk]
  simp
 | p::P,w::vs,i+1,m,nd,h1,h2,hk=>by
  show bindL kindOf ((p,w)::P.zip vs) m x=_
  unfold bindL
  exact lf (i:=i) (List.nodup_cons.mp nd).2 (by exists h1) (by exists h2) hk
theorem lg {kindOf:Str->Option NameKind}{x:Str}{v:Value}:∀ {P:List Str} {vs:List Value} {i:Nat} {m:Str->Option Value},P.Nodup->P[i]?=some x->vs[i]?=some v->kindOf x≠some .local ->
  bindC kindOf (P.zip vs) m x=some v
 | [],_,_,_,_,h,_,_=>by simp at h
 | _::_,[],_,_,_,_,h,_=>by simp at h
 | p::P,w::vs,0,m,nd,h1,h2,hk=>by
  simp at h1 h2; subst h1; subst h2
  show bindC kindOf ((p,w)::P.zip vs) m p=_
  unfold bindC
  rw [lc fun v hv=>(List.nodup_cons.mp nd).1 (List.of_mem_zip hv).1,if_neg hk]
  simp
 | p::P,w::vs,i+1,m,nd,h1,h2,hk=>by
  show bindC kindOf ((p,w)::P.zip vs) m x=_
  unfold bindC
  exact lg (i:=i) (List.nodup_cons.mp nd).2 (by exists h1) (by exists h2) hk
def dh (N:List Str)(vs:List V):St:=vs.map some++List.replicate (N.length - vs.length) none
def dL (CX:CXT)(P:Program)(w:World)(K:Frag)(mg:Str->Option Value)(base:Heap)(N:List Str)(qual:Str)(scope:Scope)(f:Addr)(cd:Value)(A:Around)(outer:List Env)(s:Shared)(H:Hp)(E:XK):Cx where
 prog:=P
 w:=w
 K:=K
 mg:=mg
 base:=base
 A:=A.deeper (envOfC qual scope s.heap.objs.size f cd)
 N:=N
 s₀:=s
 H₀:=H
 env:=envOfC qual scope s.heap.objs.size f cd
 outer:=outer
 stack:=envOfC qual scope s.heap.objs.size f cd::outer
 ex:=[]
 calm:=true
 fn:=fun _=>true
 pn:=[]
 xe:=fun e s'=>wpAny (model P w) (A.deeper (envOfC qual scope s.heap.objs.size f cd)) (leaving (envOfC qual scope s.heap.objs.size f cd) e) (fun _ s''=>CX outer H s E e s'') (fun e' s''=>CX outer H s E e' s'') s'
theorem nH {sc:Scope}{x:Str}(h:sc.names.lookup x=some .cell):∃ c,(cellsFrom n sc.names []).lookup x=some c:=by
 have q:=PySem.W.cellsFrom_some sc.names n [] (.inl h)
 exact Option.isSome_iff_exists.mp q
theorem rH {K:Frag}{f:Addr}{cd:Value}{outer:List Env}{s1:Shared}{E:XK}
  (S:FnScope N ps scope) (hd:A.handled=none) (e0:Env0 P w K mg base A outer s H) (hl:vs.length=ps.length) (r:Vals vs us)
  (x:InCallC s s.heap.objs.size (bindL (envOfC qual scope s.heap.objs.size f cd).kindOf (ps.zip us) fun _=>none) (cellsFrom (s.heap.objs.size+1) scope.names []) (bindC (envOfC qual scope s.heap.objs.size f cd).kindOf (ps.zip us) fun _=>none) s1) :
  Inv (dL CX P w K mg base N qual scope f cd A outer s H E) [] (dh N vs) H s1:=by
 have hpl:ps.length<=N.length:=by have:=congrArg List.length S.pre; rw [aau] at this; nofun
 obtain ⟨h1,tk,rfl,hk⟩:=x.done
 have noA:∀ b:Addr,b ∉ (dL CX P w K mg base N qual scope f cd A outer s H E).ex:=fun b z=>absurd (show b ∈ ([]:List Addr) from z) (by simp)
 refine ⟨⟨e0.mod,S.kind,rfl,rfl,aac _,fun y z c h1 h2=>?_,fun y hy=>?_,fun y c _ h=>?_,fun _=>hd,Around.frames_deeper e0.frames,.inr ⟨rfl,rfl⟩,fun b z=>absurd z (noA b),e0.bs,e0.bsz,fun b _ _=>noA b,fun b z=>absurd z (noA b),e0.funs,e0.frf⟩,
  rfl,e0.bare,Un.kept hk,⟨_,x.toInCall.ns,fun i y v h1 h2 h3=>?_⟩,fun y c h=>⟨_,x.cell y c h⟩,e0.hok.fresh (aac _),fun y c h=>?_,fun p hp=>absurd (show p ∈ ([]:List (Addr×Obj)) from hp) (by simp),e0.hok.kept hk,?_⟩
 ·exact name_of_addr x.apart (aaO h1) (aaO h2)
 ·have hy:scope.names.lookup y=some .cell∨scope.names.lookup y=some .free:=hy
  rcases hy with hy | hy
  ·exact nH hy
  ·exact absurd rfl (S.nofree _ (aaO hy))
 ·exact Nat.le_of_lt (x.above y c (aaO h))
 ·have hi:i < vs.length:=by
   unfold dh at h2
   by_cases hi:i < vs.length
   ·exact hi
   ·rw [List.getElem?_append_right (by exists hi)] at h2
    rw [List.getElem?_replicate] at h2
    split at h2 <;> cases h2
  have ha:vs[i]?=some v:=by
   unfold dh at h2
   rw [List.getElem?_append_left (by exists hi),List.getElem?_map] at h2
   cases e:vs[i]? with
   | none=>rw [e] at h2; cases h2
   | some a=>rw [e] at h2; cases h2; rfl
  obtain ⟨u,hu,rv⟩:=r.get ha
  have hp:ps[i]?=some y:=by
   rw [← S.pre,List.getElem?_take_of_lt (by nofun)]; exact h1
  have ndP:ps.Nodup:=by rw [← S.pre]; exact S.nd.sublist (List.take_sublist _ _)
  refine ⟨u,rv,?_⟩
  rcases S.par y (List.mem_of_getElem? hp) with k | k
  ·exact .inl ⟨k,lf ndP hp hu k⟩
  ·obtain ⟨c,e⟩:=nH (n:=s.heap.objs.size+1) k
   refine .inr ⟨.inl k,c,e,?_⟩
   have q:=x.cell y c e
   rw [lg ndP hp hu (by show scope.names.lookup y≠_; rw [k]; decide)] at q
   exact q
 ·exact e0.hok.fresh (Nat.le_of_lt (x.above y c (aaO h)))
 ·unfold dh
  show _=N.length
  rw [List.length_append,List.length_map,aay]
  nofun
theorem Fp {K:Frag}{f:Addr}{params:Arguments}{dV kV doc pm cdv ct oc:Value}{an od:Option Addr}
  {osl:Array (Option Value)}   (lk:K.lookup f=some ⟨oc,od,.func (PySem.W.fnOf name qual params body scope dV kV doc pm an cdv ct),osl⟩) (hcd:PySem.W.codeIn K cdv qual=true) (S:FnScope N ps scope)
  (len:∀ vs H Q E,sp vs H Q E->vs.length=ps.length)
  (hbody:∀ (A:Around) (outer:List Env) (s:Shared) (H:Hp) (vs:List V) (Q:VK) (E:XK),Room k (A.deeper (envOfC qual scope s.heap.objs.size f cdv))->sp vs H Q E ->
   ∃ t,PSs (dL CX P w K mg base N qual scope f cdv A outer s H E) body t/\t { nx:=fun _ H'=>Q .non H',rt:=Q } (dh N vs) H) :
  FnOk P w K mg base CX (k+1) f (PySem.W.fnOf name qual params body scope dV kV doc pm an cdv ct) ps sp:=by
 refine ⟨len,fun A outer s H args us vs Q E hr e0 hb r hsp=>?_⟩
 have hl:=len _ _ _ _ hsp
 have KX:K.In s.heap:=e0.mod.kin.keeps fun b o e=>(e0.bs b o e).1
 have lim:s.heap.NoLimit:=e0.mod.nolimit.keeps fun b o e=>(e0.bs b o e).1
 have hkind:∀ y ∈ ps.zip us,scope.names.lookup y.1=some .local∨(scope.names.lookup y.1=some .cell/\((cellsFrom (s.heap.objs.size+1) scope.names []).lookup y.1).isSome=true):=fun ⟨n,v⟩ hy=>by
  rcases S.par n (List.of_mem_zip hy).1 with q | q
  ·exact .inl q
  ·exact .inr ⟨q,PySem.W.cellsFrom_some _ _ _ (.inl q)⟩
 refine codeAny_call_function hr.depth (KX _ _ lk) rfl S.co S.gen rfl (PySem.W.codeRec_of KX hcd) (hb _ _ _ _ ?_)
 refine wpAny_newFunctionEnv_cells S.kind hkind fun env he s1 x=>?_
 subst he
 refine ⟨lim.keeps x.toInCall.keep,codeAny_func ?_⟩
 obtain ⟨t,ht,hq⟩:=hbody A outer s H vs Q E (hr.deeper _) hsp
 have I:Inv (dL CX P w K mg base N qual scope f cdv A outer s H E) [] (dh N vs) H s1:=rH S hr.hd e0 hl r x
 refine aaG (ht [] s1 (dh N vs) H _ I hq) (fun fl s' hs=>?_) fun e s' hs=>hs
 have fin:∀ {σ':St} {H':Hp} {v:V} {u:Value},Inv (dL CX P w K mg base N qual scope f cdv A outer s H E) [] σ' H' s'->RelV v u->Q v H'->CE outer P w H s Q u s' :=
  fun {σ' H' v u} J rv q=>⟨v,H',J.os,J.bare,J.base,J.hok,rv,q⟩
 cases fl with
 | ret u =>
  obtain ⟨v,σ',H',J,rv,q⟩:=hs
  exact fin J rv q
 | next =>
  obtain ⟨σ',H',J,q⟩:=hs
  exact fin (v:=V.non) (u:=Value.none) J rfl q
 | brk =>
  obtain ⟨_,_,_,q⟩:=hs
  exact False.elim q
 | cont =>
  obtain ⟨_,_,_,q⟩:=hs
  exact False.elim q
section
variable  {x:Str}     {id T:String} {r:List V->Hp->VK->Prop}
def tCB (r:List V->Hp->VK->Prop)(t:TA):TE:=fun σ H Q=>t σ H fun vs H1=>r vs H1 Q
theorem wn (hc:CallR X (.builtin id) r) (hg:Gl X x) (hm:X.mg x=none) (hv:bootBuiltins x=some (.builtin id)) (ha:PA X (e::es) t) (hn:autoParam (x ≠ "__name__") L2.aD._auto_1) (hdb:autoParam ((x == ("__debug__" : Str))=false) L2.aD._auto_1)
  (he:autoParam (starEach (e::es) X.env=(false,eval e X.env)::starEach es X.env) L2.aR._auto_1) (hpl:autoParam ((backTo pos (starEach es X.env)).any (·.1)=false) L2.aR._auto_1):PE X (.Call (.Name x p) (e::es) [] pos) (tCB r t):=by
 intro pins s σ H Q I h
 refine wpAny_Call_Name_kw (kY I hg hm hv ?_ hn hdb)
 exact PyProof.Rows.callWith_builtin1 (thn (ha pos pins s σ H _ I h) fun us s1 ⟨vs,H1,I1,r1,q1⟩=>hc pins s1 σ H1 vs us Q I1 r1 q1) he hpl
theorem rJ (hc:CallR X (.type T) r) (hg:Gl X x) (hm:X.mg x=none) (hv:bootBuiltins x=some (.type T)) (ha:PA X (e::es) t) (hn:autoParam (x ≠ "__name__") L2.aD._auto_1) (hdb:autoParam ((x == ("__debug__" : Str))=false) L2.aD._auto_1)
  (he:autoParam (starEach (e::es) X.env=(false,eval e X.env)::starEach es X.env) L2.aR._auto_1) (hpl:autoParam ((backTo pos (starEach es X.env)).any (·.1)=false) L2.aR._auto_1):PE X (.Call (.Name x p) (e::es) [] pos) (tCB r t):=by
 intro pins s σ H Q I h
 refine wpAny_Call_Name_kw (kY I hg hm hv ?_ hn hdb)
 exact abE (thn (ha pos pins s σ H _ I h) fun us s1 ⟨vs,H1,I1,r1,q1⟩=>hc pins s1 σ H1 vs us Q I1 r1 q1) he hpl
end
end L2
namespace HT
open PySem PyProof.Rows
variable{t sl:Addr}{Q:Value->Shared->Prop}{vl vu:Value}{lo hi:Option Int}
section
open PySem.SeqAt
open PySem.AutoSeq1 (wpAny_loadPart')
open PySem.MeetsSeq PySem.MeetsSeq2 PySem.MeetsSeq3
end
section
variable {prog:Program} {w:World} {A:Around} {E:Value->Shared->Prop} {s:Shared}
theorem cat_tup {b:Addr}{vs ws:List Value}(ht:IsTup s.heap t vs.toArray)(hb:IsTup s.heap b ws.toArray)(hv:vs≠[])
  (h1:ws=[]->Q (.ref t) s) (h2:ws≠[]->Q (.ref s.heap.objs.size) { s with heap:=s.heap.push { cls:=.type "tuple", data:=.seq (vs++ws).toArray } })
  (hsz:vs.length+ws.length<=sizeLine):wpAny (model prog w) A (binaryOp .Add (.ref t) (.ref b)) Q E s:=by
 obtain ⟨⟨cls,dd,data,sl⟩,ho,hc,n,hd⟩:=id ht
 obtain ⟨⟨cls2,dd2,data2,sl2⟩,ho2,hc2,n2,hd2⟩:=id hb
 simp only at hc hd hc2 hd2
 subst hc hd hc2 hd2
 have e:vs.toArray++ws.toArray=(vs++ws).toArray:=by simp
 by_cases hw:ws=[]
 ·exact concat_meets ⟨_,ho,rfl⟩ ⟨_,ho2,rfl⟩ noFill_tuple_add seq_tuple_add PySem.F.slot_tuple_add PySem.F.entry_tuple_add (PySem.F.args_tuple_add_2 _ _)
   (tuple_addW1 t b vs.toArray ws.toArray n n2 dd dd2 sl sl2 (by exists hv) (by simp [hw])) ⟨ho,ho2,h1 hw⟩
 ·refine concat_meets ⟨_,ho,rfl⟩ ⟨_,ho2,rfl⟩ noFill_tuple_add seq_tuple_add PySem.F.slot_tuple_add PySem.F.entry_tuple_add (PySem.F.args_tuple_add_2 _ _)
   (tuple_addW2 t b vs.toArray ws.toArray n n2 dd dd2 sl sl2 (by exists hv) (by exists hw) (by rw [List.size_toArray,List.size_toArray]; exact hsz)) ⟨ho,ho2,?_⟩
  rw [e]
  exact h2 hw
def sIx (n d:Nat):Option Int->Nat
 | none=>d
 | some v=>if v < 0 then (v+(n:Int)).toNat else min v.toNat n
theorem sIx_none (n d:Nat):sIx n d none=d:=rfl
theorem sIx_nat (n d k:Nat):sIx n d (some (k:Int))=min k n:=by
 show (if (k:Int) < 0 then ((k:Int)+(n:Int)).toNat else min (k:Int).toNat n)=min k n
 rw [if_neg (by nofun),Int.toNat_natCast]
theorem sIx_le (n d:Nat)(hd:d<=n)(o:Option Int):sIx n d o<=n:=by
 cases o with
 | none=>exact hd
 | some v =>
  show (if v < 0 then (v+(n:Int)).toNat else min v.toNat n)<=n
  by_cases hv:v < 0
  ·rw [if_pos hv]; nofun
  ·rw [if_neg hv]; exact Nat.min_le_right _ _
theorem clip_eq (v:Int)(n d:Nat):(if v < 0 then max (v+(n:Int)) 0 else min v (n:Int))=((sIx n d (some v):Nat):Int):=by
 show (if v < 0 then max (v+(n:Int)) 0 else min v (n:Int))=(((if v < 0 then (v+(n:Int)).toNat else min v.toNat n):Nat):Int)
 by_cases hv:v < 0
 ·simp only [if_pos hv]; nofun
 ·simp only [if_neg hv]; nofun
theorem pU (lo hi:Option Int)(n:Nat):Builtin.Slice.sliceAdjust lo hi 1 (n:Int)=(((sIx n 0 lo:Nat):Int),((sIx n n hi:Nat):Int)):=by
 have h1:¬ ((1:Int) < 0):=by nofun
 unfold Builtin.Slice.sliceAdjust
 simp only [h1,if_false]
 refine Prod.ext ?_ ?_
 ·cases lo with
  | none=>rfl
  | some v=>exact clip_eq v n 0
 ·cases hi with
  | none=>rfl
  | some v=>exact clip_eq v n n
theorem pV (i j:Nat):Builtin.Slice.slicePlaces (i:Int) (j:Int) 1=j - i:=by
 unfold Builtin.Slice.slicePlaces
 have h1:(1:Int) > 0:=by nofun
 simp only [h1,if_true,Int.ediv_one]
 split <;> nofun
theorem jm {v:Value}{o:Option Int}{Q:Option Int->Shared->Prop}(p:IsPart v o)(h:Q o s):wpAny (model prog w) A (Builtin.Slice.slicePartIndex v) Q E s:=by
 cases p with
 | none=>exact slicePart_none h
 | int i t=>exact slicePart_int h
theorem dE {n:Nat}{Q:Int×Int×Nat->Shared->Prop}(hs:s.heap.IsSliceOf sl vl vu .none)(pl:IsPart vl lo)(pu:IsPart vu hi)
  (h:Q (((sIx n 0 lo:Nat):Int),1,sIx n n hi - sIx n 0 lo) s):wpAny (model prog w) A (Builtin.Slice.sliceApplied (.ref sl) (pure (n:Int))) Q E s:=by
 obtain ⟨os,hos,hcs,hds⟩:=id hs
 unfold Builtin.Slice.sliceApplied Builtin.Slice.sliceFields
 refine aaa (aaa (abB hos hds (x:=vl) rfl (aaa (abB hos hds (x:=vu) rfl (aaa (abB hos hds (x:=.none) rfl (aab ?_)))))))
 refine aaa (slicePart_none ?_)
 show wpAny _ _ (if ((1:Int) == 0)=true then _ else _) _ _ s
 rw [if_neg (by decide)]
 refine aaa (jm pl (aaa (jm pu (aaa (aab ?_)))))
 show wpAny _ _ (match Builtin.Slice.sliceAdjust lo hi 1 (n:Int) with | (lo,hi)=>pure (lo,(1:Int),Builtin.Slice.slicePlaces lo hi 1)) _ _ s
 rw [pU lo hi n]
 show wpAny _ _ (pure (((sIx n 0 lo:Nat):Int),(1:Int),Builtin.Slice.slicePlaces ((sIx n 0 lo:Nat):Int) ((sIx n n hi:Nat):Int) 1)) _ _ s
 rw [pV]
 exact aab h
theorem wo (xs:Array Value)(i k:Nat):((List.range k).filterMap fun (m:Nat)=>xs[((i:Int)+(m:Int) * 1).toNat]?).toArray=((xs.toList.drop i).take k).toArray:=by
 have e:(fun (m:Nat)=>xs[((i:Int)+(m:Int) * 1).toNat]?)=fun m=>xs[i+m]?:=by
  funext m
  have:((i:Int)+(m:Int) * 1).toNat=i+m:=by nofun
  rw [this]
 rw [e]
 have:=pick_run xs i k
 rw [List.filterMap_map] at this
 have e2:((fun x=>xs[x]?) ∘ fun x=>i+x)=fun m=>xs[i+m]?:=rfl
 rw [e2] at this
 rw [this]
theorem getItem_tuple_cut {items:Array Value}(ht:IsTup s.heap t items)(hs:s.heap.IsSliceOf sl vl vu .none)(pl:IsPart vl lo)(pu:IsPart vu hi)
  (hw:¬ (sIx items.size 0 lo=0/\sIx items.size items.size hi=items.size))
  (h:Q (.ref s.heap.objs.size) { s with heap:=s.heap.push { cls:=.type "tuple", data:=.seq ((items.toList.drop (sIx items.size 0 lo)).take (sIx items.size items.size hi - sIx items.size 0 lo)).toArray } })
  (hsz:items.size<=sizeLine):wpAny (model prog w) A (getItem (.ref t) (.ref sl)) Q E s:=by
 have htake:sizeOk (.seq ((items.toList.drop (sIx items.size 0 lo)).take (sIx items.size items.size hi - sIx items.size 0 lo)).toArray):=by
  show ((items.toList.drop (sIx items.size 0 lo)).take (sIx items.size items.size hi - sIx items.size 0 lo)).toArray.size<=sizeLine
  rw [List.size_toArray,aau,List.length_drop,Array.length_toList]
  omega
 have hj:sIx items.size items.size hi<=items.size:=sIx_le _ _ (aac _) hi
 obtain ⟨os,hos,hcs,hds⟩:=id hs
 have hTs:s.TypeIs (.ref sl) "slice" := ⟨os,hos,hcs⟩
 unfold getItem
 try with_reducible refine aaB ?_
 first | refine aaa (aab ?_) | skip
 refine aaa (wpAny_sequenceKey ht.typeIs (by decide) ?_)
 refine aaa (wpAny_callSpecial?_slot (name:=Str.ofString "__getitem__") ht.typeIs aa0
  (aaE aa0 ht.typeIs entry_tuple_getitem ?_ (args_tuple_getitem _ _)))
 show wpAny _ _ (Builtin.Tuple.tupleItemsOf (.ref t) >>= _) _ _ s
 refine aaa (tupleItemsOf_ ht ?_)
 refine aaa (wpAny_typeOf hTs ?_)
 rw [if_pos (by decide)]
 refine aaa (dE hs pl pu ?_)
 have hno:¬ ((((sIx items.size 0 lo:Nat):Int) == 0 && (1:Int) == 1 && (sIx items.size items.size hi - sIx items.size 0 lo) == items.size)=true):=by
  intro q
  rw [Bool.and_eq_true,Bool.and_eq_true] at q
  have q1:((sIx items.size 0 lo:Nat):Int)=0:=eq_of_beq q.1.1
  have q2:sIx items.size items.size hi - sIx items.size 0 lo=items.size:=eq_of_beq q.2
  exact hw ⟨by omega,by omega⟩
 show wpAny _ _ (if (((sIx items.size 0 lo:Nat):Int) == 0 && (1:Int) == 1 && (sIx items.size items.size hi - sIx items.size 0 lo) == items.size)=true then _ else _) _ _ s
 rw [if_neg hno,wo]
 first
  | exact aaa (m:=Builtin.Tuple.tupleExact _) (aaF (aab ⟨_,rfl,aab h⟩) htake)
  | exact aaa (m:=Builtin.Tuple.tupleExact _) (aaF (aaa (aab (aab ⟨_,rfl,aab h⟩))) htake)
  | exact aaa (aaa (m:=Builtin.Tuple.tupleExact _) (aaF (aab (aab ⟨_,rfl,aab h⟩)) htake))
  | exact aaa (aaa (m:=Builtin.Tuple.tupleExact _) (aaF (aab ⟨_,rfl,aab h⟩) htake))
end
end HT
namespace L2
open PySem PySem.Spec PyProof.Rows
variable{X:Cx}{e:Expr}{pos apos cpos:Pos}{r:V->Option Int->Option Int->Hp->VK->Prop}{xs:List (List Key×Addr×Value)}{us its its':List Value}{n j t':Nat}{i:Int}{α:Type}{pins:List (Addr×Obj)}{σ:St}{H H':Hp}{s:Shared}{ys:List V}{A:Around}{y d:V}{u v:Value}{T:String}{o:Option V}{b a:Addr}{w:World}{E Q:Value->Shared->Prop}{P:Program}{k:Key}{kvs:List (List Key×V)}{h':Heap}{td ty tv:TE}{trs:List (TE×TE)}
abbrev TO:=St->Hp->(Option Int->Hp->Prop)->Prop
def PO (X:Cx)(e:Option Expr)(t:TO):Prop :=
 ∀ (pins:List (Addr×Obj)) (s:Shared) (σ:St) (H:Hp) (Q:Option Int->Hp->Prop),Inv X pins σ H s->t σ H Q ->
  wpAny (model X.prog X.w) X.A (evalPart e X.env) (fun u s'=>∃ o H',Inv X pins σ H' s'/\IsPart u o/\Q o H') X.xe s
def mM:TO:=fun _ H Q=>Q none H
def Bv (t:TE):TO:=fun σ H Q=>t σ H fun x H1=>∃ i,x=.int i/\Q (some i) H1
section
variable   {te:TE} {lo hi:Option Expr} {tl th:TO} {p2:Pos}
theorem Bw:PO X none mM:=by
 intro pins s σ H Q I h
 rw [evalPart_none]
 exact aab ⟨none,H,I,.none,h⟩
theorem Bx (h:PE X e te):PO X (some e) (Bv te):=by
 intro pins s σ H Q I hw
 rw [evalPart_some]
 refine thn (h pins s σ H _ I hw) fun u s1 ⟨x,H1,I1,r1,q1⟩=>?_
 obtain ⟨i,rfl,q⟩:=q1
 obtain ⟨t,rfl⟩:=r1
 exact ⟨some i,H1,I1,.int i t,q⟩
def SlR (X:Cx)(r:V->Option Int->Option Int->Hp->VK->Prop):Prop :=
 ∀ (pins:List (Addr×Obj)) (s:Shared) (σ:St) (H:Hp) (x:V) (v vl vu:Value) (lo hi:Option Int) (sl:Addr) (Q:VK),Inv X pins σ H s->RelV x v->s.heap.IsSliceOf sl vl vu .none->IsPart vl lo->IsPart vu hi->r x lo hi H Q ->
  ∃ T id,typeLookup (.type T) "__getitem__" = pure (some (.builtin id))/\s.TypeIs v T/\wpAny (model X.prog X.w) X.A (getItem v (.ref sl)) (EP X pins σ Q) X.xe s
theorem SlR.or {r':V->Option Int->Option Int->Hp->VK->Prop}(h:SlR X r)(h':SlR X r'):SlR X (fun x lo hi H Q=>r x lo hi H Q∨r' x lo hi H Q):=by
 intro pins s σ H x v vl vu lo hi sl Q I rx hs pl pu q
 rcases q with q | q
 ·exact h pins s σ H x v vl vu lo hi sl Q I rx hs pl pu q
 ·exact h' pins s σ H x v vl vu lo hi sl Q I rx hs pl pu q
def tSl (r:V->Option Int->Option Int->Hp->VK->Prop)(te:TE)(tl th:TO):TE:=fun σ H Q=>te σ H fun x H1=>tl σ H1 fun l H2=>th σ H2 fun u H3=>r x l u H3 Q
theorem nI (hr:SlR X r)(he:PE X e te)(hl:PO X lo tl)(hu:PO X hi th):PE X (.Subscript e (.Slice lo hi none p2) pos) (tSl r te tl th):=by
 intro pins s σ H Q I h
 refine Subscript_ (thn (he pins s σ H _ I h) fun v s1 ⟨x,H1,I1,r1,q1⟩=>?_)
 refine wpAny_Slice (thn (hl pins s1 σ H1 _ I1 q1) fun vl s2 ⟨l,H2,I2,pl,q2⟩=>thn (hu pins s2 σ H2 _ I2 q2) fun vu s3 ⟨u,H3,I3,pu,q3⟩=>?_)
 rw [evalPart_none]
 refine aab ?_
 have I4:Inv X pins σ H3 { s3 with heap:=s3.heap.push { cls:=.type "slice", data:=.fields #[vl,vu,.none] } }:=I3.kept (t':=s3.toks) fun b ob q=>Heap.get?_push_of_some _ q
 obtain ⟨T,id,hT,ht,hg⟩:=hr pins { s3 with heap:=s3.heap.push { cls:=.type "slice", data:=.fields #[vl,vu,.none] } } σ H3 x v vl vu l u s3.heap.objs.size Q I4 r1 (Heap.IsSliceOf.new ..) pl pu q3
 show wpAny (model X.prog X.w) X.A (subscriptTail e (.Slice lo hi none p2) v (.ref s3.heap.objs.size)) (EP X pins σ Q) X.xe { s3 with heap:=s3.heap.push { cls:=.type "slice", data:=.fields #[vl,vu,.none] } }
 exact tail_any (ops:=[.ref s3.heap.objs.size,v]) ht hT hg (by with_unfolding_all rfl)
def EN (xs:List V)(lo hi:Option Int):List V:=(xs.drop (HT.sIx xs.length 0 lo)).take (HT.sIx xs.length xs.length hi - HT.sIx xs.length 0 lo)
theorem ib (xs:List V)(lo hi:Option Int):(EN xs lo hi).length<=xs.length:=by
 unfold EN
 rw [aau,List.length_drop]
 nofun
def JP (K:Frag):V->Option Int->Option Int->Hp->VK->Prop:=fun x lo hi H Q=>∃ a xs,x=.ref a/\SqT K H a xs /\
 ¬ (HT.sIx xs.length 0 lo=0/\HT.sIx xs.length xs.length hi=xs.length)/\∀ p,H p=none->Q (.ref p) (upd H p (.tup (EN xs lo hi)))
theorem Fq:SlR X (JP X.K):=by
 intro pins s σ H x v vl vu lo hi sl Q I rx hs pl pu h
 obtain ⟨a,xs,rfl,hx,hw,q⟩:=h
 cases rx
 obtain ⟨its,r,ht,hz⟩:=I.tuple hx
 have hlen:its.toArray.size=xs.length:=by rw [List.size_toArray]; exact r.length.symm
 refine ⟨"tuple", _,PyProof.Rows.slot_tuple_getitem.lookup,ht.typeIs,?_⟩
 refine HT.getItem_tuple_cut ht hs pl pu (by rw [hlen]; exact hw) ?_ (by rw [hlen]; exact hz)
 rw [hlen]
 refine ⟨.ref s.heap.objs.size,_,I.laid (t':=s.toks) (o:=.tup (EN xs lo hi)) (fun b ob q=>Heap.get?_push_of_some _ q) (aac _) ?_,rfl,q _ (I.hok.fresh (aac _))⟩
 exact ⟨aaq (ib xs lo hi) hz,_,(r.drop (HT.sIx xs.length 0 lo)).take (HT.sIx xs.length xs.length hi - HT.sIx xs.length 0 lo),IsTup.new _ _⟩
def Fs (K:Frag):R2:=fun x y H Q=>∃ a b xs ys,x=.ref a/\y=.ref b/\SqT K H a xs/\SqT K H b ys/\xs≠[]/\xs.length+ys.length<=sizeLine /\
 (ys=[]->Q (.ref a) H)/\(ys≠[]->∀ p,H p=none->Q (.ref p) (upd H p (.tup (xs++ys))))
theorem Vals.nil_iff {xs:List V}(r:Vals xs us):us=[]↔xs=[]:=by
 cases r with
 | nil=>simp
 | cons _ _=>simp
theorem By:OpR X (binaryOp .Add) (Fs X.K):=by
 intro pins s σ H x y v u Q I rx ry h
 obtain ⟨a,b,xs,ys,rfl,rfl,ha,hb,hx,hz,q1,q2⟩:=h
 cases rx
 cases ry
 obtain ⟨its,r1,p1,_⟩:=I.tuple ha
 obtain ⟨its2,r2,p2,_⟩:=I.tuple hb
 refine HT.cat_tup p1 p2 (fun z=>hx (r1.nil_iff.mp z)) (fun z=>⟨.ref a,H,I,rfl,q1 (r2.nil_iff.mp z)⟩) (fun z=>?_) (by rw [← r1.length,← r2.length]; exact hz)
 refine ⟨.ref s.heap.objs.size,_,I.laid (t':=s.toks) (o:=.tup (xs++ys)) (fun b ob q=>Heap.get?_push_of_some _ q) (aac _) ?_,rfl,q2 (fun w=>z (r2.nil_iff.mpr w)) _ (I.hok.fresh (aac _))⟩
 exact ⟨by rw [List.length_append]; exact hz,_,r1.append r2,IsTup.new _ _⟩
end
def ixN (n:Nat)(i:Int):Option Nat:=if 0<=i then (if i < n then some i.toNat else none) else if -(n:Int)<=i then some (i+n).toNat else none
def atI {α:Type}(xs:List α)(i:Int):Option α:=(ixN xs.length i).bind fun j=>xs[j]?
theorem rK (h:ixN n i=some j):seqIndex? i n=some j/\j < n/\-(n:Int)<=i/\i < n:=by
 unfold ixN at h
 by_cases h0:0<=i
 ·rw [if_pos h0] at h
  by_cases h1:i < n
  ·rw [if_pos h1] at h
   have e:i.toNat=j:=aaj h
   exact ⟨by rw [seqIndex_of h0 h1,e],by nofun,by nofun,h1⟩
  ·rw [if_neg h1] at h; cases h
 ·rw [if_neg h0] at h
  by_cases h1:-(n:Int)<=i
  ·rw [if_pos h1] at h
   have e:(i+n).toNat=j:=aaj h
   exact ⟨by rw [seqIndex_neg (by nofun) h1,e],by nofun,h1,by nofun⟩
  ·rw [if_neg h1] at h; cases h
theorem mO {xs:List α}{v:α}(h:atI xs i=some v):∃ j,seqIndex? i xs.length=some j/\xs[j]?=some v/\j < xs.length/\-(xs.length:Int)<=i/\i < xs.length:=by
 unfold atI at h
 cases e:ixN xs.length i with
 | none=>rw [e] at h; cases h
 | some j =>
  rw [e] at h
  obtain ⟨h1,h2,h3,h4⟩:=rK e
  exact ⟨j,h1,h,h2,h3,h4⟩
theorem di {xs:List α}{v:α}(h:xs[j]?=some v):atI xs (j:Int)=some v:=by
 have hj:j < xs.length:=(List.getElem?_eq_some_iff.mp h).1
 have e:ixN xs.length (j:Int)=some j:=by
  unfold ixN
  rw [if_pos (by nofun),if_pos (by nofun)]; simp
 unfold atI; rw [e]; exact h
def Bz (b:Expr):Prop:=∀ o i,subscripted b false o i=operate [o,i] (getItem o i)
def IxR (X:Cx)(r:R2):Prop :=
 ∀ (value slice:Expr) (pins:List (Addr×Obj)) (s:Shared) (σ:St) (H:Hp) (x y:V) (v u:Value) (Q:VK),Inv X pins σ H s->RelV x v->RelV y u->r x y H Q ->
  subscripted slice false v u=operate [v,u] (getItem v u)->wpAny (model X.prog X.w) X.A (subscriptTail value slice v u) (EP X pins σ Q) X.xe s
def MtR (X:Cx)(id:String)(r:V->List V->Hp->VK->Prop):Prop :=
 ∀ (pins:List (Addr×Obj)) (s:Shared) (σ:St) (H:Hp) (x:V) (xs:List V) (v:Value) (us:List Value) (Q:VK),Inv X pins σ H s->RelV x v->Vals xs us->r x xs H Q ->
  wpAny (model X.prog X.w) X.A (call (.builtin id) (v::us)) (EP X pins σ Q) X.xe s
section
variable  {a b:Expr} {ta tb:TE} 
theorem IxR.or {r r':R2}(h:IxR X r)(h':IxR X r'):IxR X (fun x y H Q=>r x y H Q∨r' x y H Q):=by
 intro value slice pins s σ H x y v u Q I rx ry q hs
 rcases q with q | q
 ·exact h value slice pins s σ H x y v u Q I rx ry q hs
 ·exact h' value slice pins s σ H x y v u Q I rx ry q hs
theorem IM {r:R2}(hr:IxR X r)(ha:PE X a ta)(hb:PE X b tb)(hs:Bz b):PE X (.Subscript a b pos) (tOp r ta tb):=by
 intro pins s σ H Q I h
 exact Subscript_ (IB ha hb I h fun v u s2 x y H2 I2 rx ry q=>hr a b pins s2 σ H2 x y v u Q I2 rx ry q (hs _ _))
def JQ (K:Frag):R2:=fun x y H Q=>∃ p xs i v,x=.ref p/\y=.int i/\SqL K H p xs/\atI xs i=some v/\Q v H
def JR (K:Frag):R2:=fun x y H Q=>∃ p xs i v,x=.ref p/\y=.int i/\SqT K H p xs/\atI xs i=some v/\Q v H
def JS:R2:=fun x y H Q=>∃ z i c,x=.str z/\y=.int i/\z.length<=sizeLine/\atI z.cps.toList i=some c/\Q (.str ⟨#[c]⟩) H
theorem BB:IxR X (JQ X.K):=by
 intro value slice pins s σ H x y v u Q I rx ry h hs
 obtain ⟨p,xs,i,z,rfl,rfl,hq,he,q⟩:=h
 cases rx
 obtain ⟨t,rfl⟩:=ry
 obtain ⟨its,r,pl,hz⟩:=I.list hq
 obtain ⟨j,h1,h2,h3,h4,h5⟩:=mO he
 obtain ⟨w,ew,rw'⟩:=r.get h2
 have hl:=r.length
 have hn:=ia
 have fin:EP X pins σ Q w s:=⟨z,H,I,rw',q⟩
 by_cases h0:0<=i
 ·have hj:i.toNat=j:=by
   rw [seqIndex_of h0 h5] at h1
   exact aaj h1
  exact item_listR pl.isList h0 (by nofun) (by rw [hj]; simpa using ew) fin hs
 ·have hj:(i+(its.toArray.size:Int)).toNat=j:=by
   rw [seqIndex_neg (by nofun) h4] at h1
   rw [List.size_toArray,← hl]
   exact aaj h1
  exact subscriptTail_builtinR (x:=w) pl.isList.typeIs slot_list_getitem.lookup
   (wpAny_getItem_list_neg (Q:=fun r s'=>r=w/\EP X pins σ Q r s') pl.isList (by nofun) (by rw [List.size_toArray] <;> nofun) (by nofun) (by rw [hj]; simpa using ew) ⟨rfl,fin⟩) hs
theorem Ft:IxR X (JR X.K):=by
 intro value slice pins s σ H x y v u Q I rx ry h hs
 obtain ⟨p,xs,i,z,rfl,rfl,hq,he,q⟩:=h
 cases rx
 obtain ⟨t,rfl⟩:=ry
 obtain ⟨its,r,pl,hz⟩:=I.tuple hq
 obtain ⟨j,h1,h2,h3,h4,h5⟩:=mO he
 obtain ⟨w,ew,rw'⟩:=r.get h2
 have hl:=r.length
 have hn:=ia
 have fin:EP X pins σ Q w s:=⟨z,H,I,rw',q⟩
 exact subscriptTail_builtinR (x:=w) pl.typeIs slot_tuple_getitem.lookup
  (getItem_tuple (j:=j) (Q:=fun r s'=>r=w/\EP X pins σ Q r s') pl (by nofun) (by nofun) (by rw [List.size_toArray,← hl]; exact h1) (by exists ew) ⟨rfl,fin⟩) hs
theorem Fu:IxR X JS:=by
 intro value slice pins s σ H x y v u Q I rx ry h hs
 obtain ⟨z,i,c,rfl,rfl,hz,he,q⟩:=h
 obtain ⟨t,rfl⟩:=rx
 obtain ⟨t',rfl⟩:=ry
 obtain ⟨j,h1,h2,h3,h4,h5⟩:=mO he
 have hl:z.cps.toList.length=z.length:=by simp [Str.length]
 rw [hl] at h1 h4 h5
 have hn:=ia
 exact tail_any (typeIs_str s z t) slot_str_getitem.lookup (getItem_str (c:=c) (by
  have e1:decide (i < -(2 ^ 63:Int))=false:=decide_eq_false (by nofun)
  have e2:decide (i ≥ 2 ^ 63)=false:=decide_eq_false (by nofun)
  rw [e1,e2,Bool.or_false]) (by rw [h1]; simpa using h2) ⟨.str ⟨#[c]⟩,H,I.tok _,⟨_,rfl⟩,q⟩) hs
def rIx (K:Frag):R2:=fun x y H Q=>JQ K x y H Q∨JR K x y H Q∨JS x y H Q
theorem Fv:IxR X (rIx X.K):=BB.or (Ft.or Fu)
theorem pW (its:List Value)(n j:Nat)(u:Value):Obj.mapSeq (·.setIfInBounds j u) { cls:=.type "list", data:=.seq its.toArray n }={ cls:=.type "list", data:=.seq (its.set j u).toArray n }:=by
 simp [Obj.mapSeq]
theorem Inv.lst {pins:List (Addr×Obj)}{σ:St}{H:Hp}{s:Shared}{p:Addr}{xs:List V}(I:Inv X pins σ H s)(h:H p=some (.lst xs)) :
  ∃ (its:List Value) (n:Nat),Vals xs its/\s.heap.get? p=some { cls:=.type "list", data:=.seq its.toArray n }/\xs.length<=sizeLine:=by
 obtain ⟨z,its,n,r,e⟩:=I.hok p _ h
 exact ⟨its,n,r,e,z⟩
theorem Inv.lstUpd {p:Addr}{xs:List V}{n':Nat}{f:Obj->Obj}(I:Inv X pins σ H s)(h:H p=some (.lst xs))
  (ho:s.heap.get? p=some { cls:=.type "list", data:=.seq its.toArray n }) (hf:f { cls:=.type "list", data:=.seq its.toArray n }={ cls:=.type "list", data:=.seq its'.toArray n' }) (r:Vals ys its') (hz:ys.length<=sizeLine) (t:Nat) :
  Inv X pins σ (upd H p (.lst ys)) { s with heap:=s.heap.update p f,toks:=t }:=by
 have e:(s.heap.update p f).get? p=some { cls:=.type "list", data:=.seq its'.toArray n' }:=by
  rw [Heap.get?_update_self f ho (by rw [hf] <;> rfl),hf]
 refine I.write (x:=p) (e:=p) (by rw [h]; trivial) (.inl rfl) (fun b u hb q=>(Heap.get?_update_other _ _ (abr hb)).trans q) ⟨_,e⟩ ?_
 exact ⟨hz,its',n',r,e⟩
def BC:V->V->V->Hp->(Hp->Prop)->Prop:=fun o i v H Q=>∃ p xs k j,o=.ref p/\i=.int k/\H p=some (.lst xs)/\ixN xs.length k=some j/\Q (upd H p (.lst (xs.set j v)))
theorem wp:JM X BC:=by
 intro pins s σ H o i v ov iv u Q I ro ri rv h
 obtain ⟨p,xs,k,j,rfl,rfl,hp,hj,q⟩:=h
 cases ro
 obtain ⟨t,rfl⟩:=ri
 obtain ⟨its,n,r,ho,hz⟩:=I.lst hp
 obtain ⟨h1,h2,h3,h4⟩:=rK hj
 have hl:=r.length
 have hn:=ia
 have I':Inv X pins σ (upd H p (.lst (xs.set j v))) { s with heap:=s.heap.update p (Obj.mapSeq (·.setIfInBounds j u)) } :=
  I.lstUpd hp ho (pW its n j u) (r.set rv j) (by rw [aaD]; exact hz) s.toks
 by_cases h0:0<=k
 ·have hk:k.toNat=j:=by
   rw [seqIndex_of h0 h4] at h1
   exact aaj h1
  exact PySem.W.ki_setAt ho h0 (by nofun) (by rw [List.size_toArray,← hl]; exact h4) (by rw [hk]; exact ⟨_,I',q⟩)
 ·have hk:(k+(its.toArray.size:Int)).toNat=j:=by
   rw [seqIndex_neg (by nofun) h3] at h1
   rw [List.size_toArray,← hl]
   exact aaj h1
  exact PySem.W.ki_setBack ho (by nofun) (by rw [List.size_toArray,← hl]; exact h3) (by nofun) (by rw [hk]; exact ⟨_,I',q⟩)
theorem lh (lo hi:Option Int)(n:Nat):(sliceBounds lo hi none n).1=((HT.sIx n 0 lo:Nat):Int)/\(sliceBounds lo hi none n).2.1=((HT.sIx n n hi:Nat):Int)/\(sliceBounds lo hi none n).2.2=1:=by
 refine ⟨?_,?_,rfl⟩
 ·cases lo with
  | none=>simp [sliceBounds,HT.sIx]
  | some i =>
   simp only [sliceBounds,HT.sIx,Option.getD_none,show (1:Int) > 0 by decide,if_true]
   by_cases h:i < 0
   ·simp only [h,if_true] <;> nofun
   ·simp only [h,if_false] <;> nofun
 ·cases hi with
  | none=>simp [sliceBounds,HT.sIx]
  | some i =>
   simp only [sliceBounds,HT.sIx,Option.getD_none,show (1:Int) > 0 by decide,if_true]
   by_cases h:i < 0
   ·simp only [h,if_true] <;> nofun
   ·simp only [h,if_false] <;> nofun
theorem jX (its:List Value)(lo hi:Option Int):slicePick its.toArray lo hi none=((its.drop (HT.sIx its.length 0 lo)).take (HT.sIx its.length its.length hi - HT.sIx its.length 0 lo)).toArray:=by
 obtain ⟨h1,h2,h3⟩:=lh lo hi its.toArray.size
 unfold slicePick
 rw [h1,h2,h3]
 simp only [sliceRange_one,pick_run,List.size_toArray] <;> rfl
def JT (K:Frag):V->Option Int->Option Int->Hp->VK->Prop:=fun x lo hi H Q=>∃ a xs,x=.ref a/\SqL K H a xs/\∀ p,H p=none->Q (.ref p) (upd H p (.lst (EN xs lo hi)))
theorem BD:SlR X (JT X.K):=by
 intro pins s σ H x v vl vu lo hi sl Q I rx hs pl pu h
 obtain ⟨a,xs,rfl,hx,q⟩:=h
 cases rx
 obtain ⟨its,r,ht,hz⟩:=I.list hx
 have hlen:=r.length
 refine ⟨"list", _,slot_list_getitem.lookup,ht.isList.typeIs,?_⟩
 refine wpAny_getItem_list_slice ht.isList hs pl pu .none (by simp) ?_ (by rw [List.size_toArray] <;> nofun)
 rw [jX,← hlen]
 refine ⟨.ref s.heap.objs.size,_,I.laid (t':=s.toks) (o:=.lst (EN xs lo hi)) (fun b ob q=>Heap.get?_push_of_some _ q) (aac _) ?_,rfl,q _ (I.hok.fresh (aac _))⟩
 exact ⟨aaq (ib xs lo hi) hz,_,0,(r.drop (HT.sIx xs.length 0 lo)).take (HT.sIx xs.length xs.length hi - HT.sIx xs.length 0 lo),Heap.get?_push_size _ rfl⟩
def ic:V->Bool
 | .non=>true
 | .bl _=>true
 | .int _=>true
 | .str _=>true
 | _=>false
def eqV:V->V->Bool
 | .non,.non=>true
 | .bl a,.bl b=>a == b
 | .bl a,.int b=>(if a then 1 else 0) == b
 | .int a,.bl b=>a == (if b then 1 else 0)
 | .int a,.int b=>a == b
 | .str a,.str b=>a == b
 | _,_=>false
theorem Fw {x:V}(ry:RelV y u)(rx:RelV x v)(fy:ic y=true)(fx:ic x=true):SeqAt.EqAt A s u v (eqV y x):=by
 cases y with
 | non =>
  cases ry
  cases x with
  | non=>cases rx; exact abC _
  | bl b=>cases rx; exact SeqAt.EqAt.none_bool b
  | int b=>obtain ⟨t,rfl⟩:=rx; exact SeqAt.EqAt.none_int b t
  | str b=>obtain ⟨t,rfl⟩:=rx; exact SeqAt.EqAt.none_str b t
  | _=>exact absurd (show false=true from fx) Bool.false_ne_true
 | bl a =>
  cases ry
  cases x with
  | non=>cases rx; exact SeqAt.EqAt.bool_none a
  | bl b=>cases rx; exact SeqAt.EqAt.bool_bool a b
  | int b=>obtain ⟨t,rfl⟩:=rx; exact SeqAt.EqAt.bool_int a b t
  | str b=>obtain ⟨t,rfl⟩:=rx; exact SeqAt.EqAt.bool_str a b t
  | _=>exact absurd (show false=true from fx) Bool.false_ne_true
 | int a =>
  obtain ⟨t',rfl⟩:=ry
  cases x with
  | non=>cases rx; exact SeqAt.EqAt.int_none a t'
  | bl b=>cases rx; exact SeqAt.EqAt.int_bool a t' b
  | int b=>obtain ⟨t,rfl⟩:=rx; exact SeqAt.EqAt.int_int a t' b t
  | str b=>obtain ⟨t,rfl⟩:=rx; exact SeqAt.EqAt.int_str a t' b t
  | _=>exact absurd (show false=true from fx) Bool.false_ne_true
 | str a =>
  obtain ⟨t',rfl⟩:=ry
  cases x with
  | non=>cases rx; exact SeqAt.EqAt.str_none a t'
  | bl b=>cases rx; exact SeqAt.EqAt.str_bool a t' b
  | int b=>obtain ⟨t,rfl⟩:=rx; exact SeqAt.EqAt.str_int a t' b t
  | str b=>obtain ⟨t,rfl⟩:=rx; exact SeqAt.EqAt.str_str a t' b t
  | _=>exact absurd (show false=true from fx) Bool.false_ne_true
 | _=>exact absurd (show false=true from fy) Bool.false_ne_true
def eqU (x:V)(u:Value):Bool:=match u with
 | .none=>eqV .non x
 | .bool b=>eqV (.bl b) x
 | .int i _=>eqV (.int i) x
 | .str z _=>eqV (.str z) x
 | _=>false
theorem Ah {x:V}(r:RelV y u)(f:ic y=true):eqU x u=eqV y x:=by
 cases y with
 | non=>cases r; rfl
 | bl b=>cases r; rfl
 | int i=>obtain ⟨t,rfl⟩:=r; rfl
 | str z=>obtain ⟨t,rfl⟩:=r; rfl
 | _=>exact absurd (show false=true from f) Bool.false_ne_true
theorem ie {x:V}:∀ {xs:List V} {us:List Value},Vals xs us->xs.all ic=true->us.any (eqU x)=xs.any fun y=>eqV y x
 | _,_,.nil,_=>rfl
 | y::xs,u::us,.cons r t,f=>by
  rw [aaK,Bool.and_eq_true] at f
  rw [abA,abA,Ah r f.1,ie t f.2]
theorem fL {A:Around}{s:Shared}{x:V}{v:Value}(rx:RelV x v)(fx:ic x=true):∀ {xs:List V} {us:List Value},Vals xs us->xs.all ic=true->∀ u ∈ us,SeqAt.EqAt A s u v (eqU x u)
 | _,_,.nil,_=>fun u hu=>by cases hu
 | y::xs,u::us,.cons r t,f=>fun u' hu=>by
  rw [aaK,Bool.and_eq_true] at f
  rcases List.mem_cons.mp hu with rfl | hu
  ·rw [Ah r f.1]; exact Fw r rx f.1 fx
  ·exact fL rx fx t f.2 u' hu
def inV (x:V)(xs:List V):Bool:=xs.any fun y=>eqV y x
def rIn (K:Frag)(neg:Bool):R2:=fun x y H Q=>∃ p xs,y=.ref p/\(SqL K H p xs∨SqT K H p xs)/\ic x=true/\xs.all ic=true/\Q (.bl (if neg then !inV x xs else inV x xs)) H
theorem rL:OpR X (compareOp .In) (rIn X.K false):=by
 intro pins s σ H x y v u Q I rx ry h
 obtain ⟨p,xs,rfl,hq,fx,fs,q⟩:=h
 cases ry
 rcases hq with hq | hq
 ·obtain ⟨its,r,pl,hz⟩:=I.list hq
  refine SeqAt.in_listAt (eqU x) pl.isList (fun w hw=>fL rx fx r fs w (by exists hw)) ⟨.bl _,H,I,rfl,?_⟩
  rw [show its.toArray.any (eqU x)=its.any (eqU x) by simp,ie r fs]
  exact q
 ·obtain ⟨its,r,pl,hz⟩:=I.tuple hq
  refine SeqAt.in_tupleAt (eqU x) pl (fun w hw=>fL rx fx r fs w (by exists hw)) ⟨.bl _,H,I,rfl,?_⟩
  rw [show its.toArray.any (eqU x)=its.any (eqU x) by simp,ie r fs]
  exact q
theorem li:OpR X (compareOp .NotIn) (rIn X.K true):=by
 intro pins s σ H x y v u Q I rx ry h
 obtain ⟨p,xs,rfl,hq,fx,fs,q⟩:=h
 cases ry
 rcases hq with hq | hq
 ·obtain ⟨its,r,pl,hz⟩:=I.list hq
  refine SeqAt.notIn_listAt (eqU x) pl.isList (fun w hw=>fL rx fx r fs w (by exists hw)) ⟨.bl _,H,I,rfl,?_⟩
  rw [show its.toArray.any (eqU x)=its.any (eqU x) by simp,ie r fs]
  exact q
 ·obtain ⟨its,r,pl,hz⟩:=I.tuple hq
  refine SeqAt.notIn_tupleAt (eqU x) pl (fun w hw=>fL rx fx r fs w (by exists hw)) ⟨.bl _,H,I,rfl,?_⟩
  rw [show its.toArray.any (eqU x)=its.any (eqU x) by simp,ie r fs]
  exact q
theorem lj:OpR X (compareOp .NotIn) (fun x y H Q=>∃ i j,x=.str i/\y=.str j/\Q (.bl (!(!(Builtin.Str.occurrences j i 0 j.length 1).isEmpty))) H):=by
 intro pins s σ H x y v u Q I rx ry h
 obtain ⟨i,j,rfl,rfl,q⟩:=h
 obtain ⟨t,rfl⟩:=rx
 obtain ⟨t',rfl⟩:=ry
 exact notIn_str ⟨.bl _,H,I,rfl,q⟩
theorem ll:CallR X (.builtin "len") (fun xs H Q=>∃ p ys,xs=[.ref p]/\(SqL X.K H p ys∨SqT X.K H p ys)/\Q (.int ys.length) H):=by
 intro pins s σ H xs us Q I r h
 obtain ⟨p,ys,rfl,hq,q⟩:=h
 obtain ⟨u,rfl,rx⟩:=dH r
 cases rx
 have hn:=ia
 rcases hq with hq | hq
 ·obtain ⟨its,r',pl,hz⟩:=I.list hq
  have hlen:=r'.length
  exact Calls.call_len_list pl.isList (by simp only [List.size_toArray] <;> nofun) ⟨.int ys.length,H,I.tok _,⟨s.toks+1,by rw [List.size_toArray,hlen]⟩,q⟩
 ·obtain ⟨its,r',pl,hz⟩:=I.tuple hq
  have hlen:=r'.length
  exact len_tuple pl (by simp only [List.size_toArray] <;> nofun) ⟨.int ys.length,H,I.tok _,⟨s.toks+1,by rw [List.size_toArray,hlen]⟩,q⟩
theorem lm:CallR X (.builtin "len") (fun xs H Q=>∃ z,xs=[.str z]/\z.length<=sizeLine/\Q (.int z.length) H):=by
 intro pins s σ H xs us Q I r h
 obtain ⟨z,rfl,hz,q⟩:=h
 obtain ⟨u,rfl,t,rfl⟩:=dH r
 have hn:=ia
 exact len_str (by nofun) ⟨.int z.length,H,I.tok _,⟨_,rfl⟩,q⟩
theorem CallR.or {f:Value}{r r':List V->Hp->VK->Prop}(h:CallR X f r)(h':CallR X f r'):CallR X f (fun xs H Q=>r xs H Q∨r' xs H Q):=by
 intro pins s σ H xs us Q I rs q
 rcases q with q | q
 ·exact h pins s σ H xs us Q I rs q
 ·exact h' pins s σ H xs us Q I rs q
theorem ln:CallR X (.type "list") (fun xs H Q=>∃ p ys,xs=[.ref p]/\(SqL X.K H p ys∨SqT X.K H p ys)/\∀ l,H l=none->Q (.ref l) (upd H l (.lst ys))):=by
 intro pins s σ H xs us Q I r h
 obtain ⟨p,ys,rfl,hq,q⟩:=h
 obtain ⟨u,rfl,rx⟩:=dH r
 cases rx
 have fin:∀ (its:List Value),Vals ys its->ys.length<=sizeLine->∀ (h':Heap) (c':Nat),(∀ b o',s.heap.get? b=some o'->h'.get? b=some o') ->
   h'.get? s.heap.objs.size=some { cls:=.type "list", dict:=none,data:=.seq its.toArray c',slots:=#[] }->EP X pins σ Q (.ref s.heap.objs.size) { s with heap:=h' }:=fun its r' hz h' c' kp e =>
  ⟨.ref s.heap.objs.size,_,I.laid (t':=s.toks) kp (aac _) (show ObjOk X.prog X.w _ h' _ (.lst ys) from ⟨hz,its,c',r',e⟩),rfl,q _ (I.hok.fresh (aac _))⟩
 rcases hq with hq | hq
 ·obtain ⟨its,r',pl,hz⟩:=I.list hq
  have hlen:=r'.length
  obtain ⟨o,ho,hc,n,hd⟩:=pl.isList
  exact call_list_seq p (.inl rfl) ho hc hd (fun h' c' kp e=>fin its r' hz h' c' kp e) (by simp only [List.size_toArray] <;> nofun)
 ·obtain ⟨its,r',pl,hz⟩:=I.tuple hq
  have hlen:=r'.length
  obtain ⟨o,ho,hc,n,hd⟩:=pl
  exact call_list_seq p (.inr rfl) ho hc hd (fun h' c' kp e=>fin its r' hz h' c' kp e) (by simp only [List.size_toArray] <;> nofun)
theorem jY:CallR X (.type "tuple") (fun xs H Q=>∃ p ys,xs=[.ref p]/\((SqL X.K H p ys/\∀ l,H l=none->Q (.ref l) (upd H l (.tup ys)))∨(SqT X.K H p ys/\Q (.ref p) H))):=by
 intro pins s σ H xs us Q I r h
 obtain ⟨p,ys,rfl,h⟩:=h
 obtain ⟨u,rfl,rx⟩:=dH r
 cases rx
 rcases h with ⟨hq,q⟩ | ⟨hq,q⟩
 ·obtain ⟨its,r',pl,hz⟩:=I.list hq
  have hlen:=r'.length
  refine call_tuple_list pl.isList (fun h' kp=>?_) (by simp only [List.size_toArray] <;> nofun)
  have I1:Inv X pins σ H { s with heap:=h' }:=I.kept (t':=s.toks) kp
  have I2:Inv X pins σ (upd H h'.objs.size (.tup ys)) { s with heap:=h'.push { cls:=.type "tuple", data:=.seq its.toArray } } :=
   I1.laid (t':=s.toks) (fun b o e=>Heap.get?_push_of_some _ e) (aac _) (show ObjOk X.prog X.w _ _ _ (.tup ys) from ⟨hz,its,r',IsTup.new _ _⟩)
  exact ⟨.ref h'.objs.size,_,I2,rfl,q _ (I1.hok.fresh (aac _))⟩
 ·obtain ⟨its,r',pl,hz⟩:=I.tuple hq
  exact call_tuple_same pl ⟨.ref p,H,I,rfl,q⟩
def tyV (K:Frag)(T:String)(x:V)(H:Hp):Prop:=match x with
 | .str _=>T = "str"
 | .int _=>T = "int"
 | .ref p=>(T = "list" /\ ∃ xs,SqL K H p xs)∨(T = "tuple" /\ ∃ o,K.lookup p=some o/\o.cls=.type "tuple" /\ o.dict=none) ∨
   (T = "dict" /\ ((∃ kvs,H p=some (.dK kvs))∨∃ kvs,H p=some (.dT kvs)))∨(T = "set" /\ ∃ S n,H p=some (.set S n))
 | _=>False
theorem Ai {x:V}(I:Inv X pins σ H s)(r:RelV x v)(ty:tyV X.K T x H) :
  s.TypeIs v T/\∀ a,v=.ref a->∃ ob,s.heap.get? a=some ob/\ob.dict=none:=by
 cases x with
 | str z =>
  obtain ⟨t,rfl⟩:=r
  cases (show T = "str" from ty)
  exact ⟨typeIs_str s z t,fun _ e=>nomatch e⟩
 | int i =>
  obtain ⟨t,rfl⟩:=r
  cases (show T = "int" from ty)
  exact ⟨typeIs_int s i t,fun _ e=>nomatch e⟩
 | ref p =>
  cases r
  rcases ty with ⟨rfl,xs,hq⟩ | ⟨rfl,o,hk,hc,hd⟩ | ⟨rfl,hk⟩ | ⟨rfl,S,n,hk⟩
  ·obtain ⟨its,_,pl,_⟩:=I.list hq
   refine ⟨pl.isList.typeIs,fun a e=>?_⟩
   cases e
   obtain ⟨o,n,e,c,hd,_⟩:=pl
   exact ⟨o,e,hd⟩
  ·refine ⟨⟨o,I.kIn p o hk,hc⟩,fun a e=>?_⟩
   cases e
   exact ⟨o,I.kIn _ o hk,hd⟩
  ·have z:∃ o,s.heap.get? p=some o/\o.ExactDict:=by
    rcases hk with ⟨kvs,hk⟩ | ⟨kvs,hk⟩
    ·obtain ⟨_,_,_,_,o,_,_,e,ex,_⟩:=I.hok p _ hk
     exact ⟨o,e,ex⟩
    ·obtain ⟨_,_,_,_,o,_,_,e,ex,_⟩:=I.hok p _ hk
     exact ⟨o,e,ex⟩
   obtain ⟨o,e,ex⟩:=z
   refine ⟨⟨o,e,ex.1⟩,fun a e2=>?_⟩
   cases e2
   exact ⟨o,e,ex.2.1⟩
  ·obtain ⟨o,_,_,_,e,ex,_⟩:=I.hok p _ hk
   refine ⟨⟨o,e,ex.1⟩,fun a e2=>?_⟩
   cases e2
   exact ⟨o,e,ex.2.1⟩
 | _=>exact False.elim ty
def Ib (K:Frag)(T:String)(r:V->List V->Hp->VK->Prop)(to:TE):TE:=fun σ H Q=>to σ H fun x H1=>tyV K T x H1/\r x [] H1 Q
def tBM (K:Frag)(T:String)(r:V->List V->Hp->VK->Prop)(to:TE)(t:TA):TE:=fun σ H Q=>to σ H fun x H1=>tyV K T x H1/\t σ H1 fun xs H2=>r x xs H2 Q
variable {o:Expr} {es:List Expr} {to:TE} {t:TA} {name:Str}  {id:String} {r:V->List V->Hp->VK->Prop}
theorem Fx (pa:PlainAttrs T) (slot:Slot T name id) (hty:typeOf (.builtin id)=pure (.type "method_descriptor")) (hm:MtR X id r) (ho:PE X o to)
  (hbase:autoParam (attributeBase o name X.env (eval o X.env)=eval o X.env) L2.aR._auto_1) (hline:autoParam ((apos.endLine == cpos.line)=true) L2.aR._auto_1):PE X (.Call (.Attribute o name apos) [] [] cpos) (Ib X.K T r to):=by
 intro pins s σ H Q I h
 refine wpAny_Call_method0_late hbase hline (thn (ho pins s σ H _ I h) fun v s1 ⟨x,H1,I1,r1,ty,q1⟩=>?_)
 obtain ⟨h1,h2⟩:=Ai I1 r1 ty
 exact ⟨T,id,pa,slot,hty,h1,h2,abq rfl (PySem.evalArgs_none (hm pins s1 σ H1 x [] v [] Q I1 r1 .nil q1))⟩
theorem IN (pa:PlainAttrs T) (slot:Slot T name id) (hty:typeOf (.builtin id)=pure (.type "method_descriptor")) (hm:MtR X id r) (ho:PE X o to) (ha:PA X (e::es) t)
  (hbase:autoParam (attributeBase o name X.env (eval o X.env)=eval o X.env) L2.aR._auto_1)
  (hfew:autoParam (((backTo cpos (starEach (e::es) X.env)).all (fun x=>!x.1) && (backToKw cpos (keywordEach [] X.env)).all (fun x=>x.1.isSome)
   && decide ((e::es).length+([]:List Keyword).length+(if ([]:List Keyword).isEmpty then 0 else 1) < 30))=true) L2.aR._auto_1)
  (hline:autoParam ((apos.endLine == cpos.line)=true) L2.aR._auto_1) (hs:autoParam (starEach (e::es) X.env=(false,eval e X.env)::starEach es X.env) L2.aR._auto_1) (hplain:autoParam ((backTo cpos (starEach es X.env)).any (·.1)=false) L2.aR._auto_1) :
  PE X (.Call (.Attribute o name apos) (e::es) [] cpos) (tBM X.K T r to t):=by
 intro pins s σ H Q I h
 refine wpAny_Call_method_late hbase hfew hline rfl (thn (ho pins s σ H _ I h) fun v s1 ⟨x,H1,I1,r1,ty,q1⟩=>?_)
 obtain ⟨h1,h2⟩:=Ai I1 r1 ty
 refine ⟨T,id,pa,slot,hty,h1,h2,?_⟩
 have hA:=ha cpos pins s1 σ H1 _ I1 q1
 rw [hs] at hA ⊢
 refine abq (by show (false || (backTo cpos (starEach es X.env)).any (·.1))=false; rw [hplain] <;> rfl) (abx ?_)
 exact thn hA fun us s2 ⟨vs,H2,I2,r2,q2⟩=>hm pins s2 σ H2 x vs v us Q I2 r1 r2 q2
/- xs.append(e),list.index on a module's tuple .. are MtR facts of 06m -/
end
def MtM (X:Cx)(id:String)(r:V->List V->Hp->VK->Prop):Prop :=
 ∀ (pins:List (Addr×Obj)) (s:Shared) (σ:St) (H:Hp) (x:V) (xs:List V) (v:Value) (us:List Value) (Q:VK),Inv X pins σ H s->RelV x v->Vals xs us->r x xs H Q ->
  wpAny (model X.prog X.w) X.A (call (.builtin id) (v::us)) (EP X pins σ Q) X.xe s
theorem Vals.one {x:V}(h:Vals [x] us):∃ u,us=[u]/\RelV x u:=by
 cases h with | cons r t=>cases t; exact ⟨_,rfl,r⟩
theorem Vals.reverse {xs:List V}(h:Vals xs us):Vals xs.reverse us.reverse:=by
 induction h with
 | nil=>exact .nil
 | cons r t ih=>rw [List.reverse_cons,List.reverse_cons]; exact Vals.append ih (.cons r .nil)
section
variable      {l:Addr} {xs zs:List V}
theorem Inv.lset {f:Array Value->Array Value}(I:Inv X pins σ H s)(hH:H l=some (.lst xs))
  (e:s.heap.get? l=some { cls:=.type "list", data:=.seq its.toArray n }) (hf:f its.toArray=its'.toArray) (hv:Vals ys its') (hz:ys.length<=sizeLine) :
  Inv X pins σ (upd H l (.lst ys)) { s with heap:=s.heap.update l (Obj.mapSeq f),toks:=t' }:=by
 have q:=PySem.IsL.update e f
 rw [hf] at q
 refine I.write (x:=l) (e:=l) (by rw [hH]; exact trivial) (.inl rfl) (fun b' u hb hu=>(Heap.get?_update_other s.heap (Obj.mapSeq f) (abr hb)).trans hu) ⟨_,q⟩ ?_
 exact ⟨hz,its',_,hv,q⟩
theorem Inv.lnew (I:Inv X pins σ H s)(hv:Vals ys its)(hz:ys.length<=sizeLine) :
  Inv X pins σ (upd H s.heap.objs.size (.lst ys)) { s with heap:=s.heap.push { cls:=.type "list", data:=.seq its.toArray },toks:=t' } :=
 I.laid (fun _ _ q=>Heap.get?_push_of_some _ q) (aac _) ⟨hz,its,0,hv,Heap.get?_push_size _ rfl⟩
theorem Inv.fresh (I:Inv X pins σ H s):H s.heap.objs.size=none:=I.hok.fresh (aac _)
theorem Inv.lstM (I:Inv X pins σ H s)(hH:H l=some (.lst xs)):xs.length<=sizeLine/\∃ (its:List Value) (n:Nat),Vals xs its/\xs.length=its.length/\s.heap.get? l=some { cls:=.type "list", data:=.seq its.toArray n }:=by
 obtain ⟨z,its,n,r,e⟩:=I.hok l _ hH
 exact ⟨z,its,n,r,r.length,e⟩
end
def jZ:V->List V->Hp->VK->Prop:=fun x vs H Q=>∃ l xs y,x=.ref l/\vs=[y]/\H l=some (.lst xs)/\xs.length < sizeLine/\Q .non (upd H l (.lst (xs++[y])))
theorem ig:MtM X "list.append" jZ:=by
 intro pins s σ H x vs v us Q I rx rv h
 obtain ⟨l,xs,y,rfl,rfl,hH,hz,q⟩:=h
 cases rx
 obtain ⟨u,rfl,ru⟩:=rv.one
 obtain ⟨z,its,n,r,hl,e⟩:=I.lstM hH
 refine call_meets F.slot_list_append ⟨_,e,rfl⟩ F.entry_list_append (F.args_list_append_2 _ _) (PySem.list_append l its.toArray n u (by rw [List.size_toArray]; nofun)) ⟨e,?_⟩
 refine ⟨.non,_,I.lset (its':=its++[u]) hH e (by simp) (r.append (.cons ru .nil)) ?_,rfl,q⟩
 rw [List.length_append,aat]
 nofun
section
variable {prog:Program}    
end
section
variable {κ:Type} [DecidableEq κ]
def lp (kvs:List (κ×V))(k:κ):Option V:=(kvs.find? fun kv=>decide (kv.1=k)).map (·.2)
def kT (kvs:List (κ×V))(k:κ)(v:V):List (κ×V) :=
 if (kvs.any fun kv=>decide (kv.1=k))=true then kvs.map (fun kv=>if kv.1=k then (kv.1,v) else kv) else kvs++[(k,v)]
theorem gT {p:κ×V}{r:List (κ×V)}{k:κ}(e:p.1=k):lp (p::r) k=some p.2:=by simp [lp,List.find?_cons,e]
theorem gU {p:κ×V}{r:List (κ×V)}{k:κ}(e:¬ p.1=k):lp (p::r) k=lp r k:=by simp [lp,List.find?_cons,e]
theorem j1 (k:κ):∀ kvs:List (κ×V),(kvs.any fun kv=>decide (kv.1=k))=(lp kvs k).isSome
 | []=>rfl
 | p::r=>by
  rw [abA]
  by_cases e:p.1=k
  ·simp only [gT e,decide_eq_true e,Bool.true_or,Option.isSome_some]
  ·rw [gU e,decide_eq_false e,Bool.false_or]; exact j1 k r
theorem eW (kvs:List (κ×V))(k:κ)(v:V):(kT kvs k v).length<=kvs.length+1:=by
 unfold kT
 split
 ·rw [List.length_map]; nofun
 ·rw [List.length_append,List.length_cons,List.length_nil]; nofun
theorem RelO.isSome_eq {u:Option Value}(r:RelO o u):o.isSome=u.isSome:=by
 cases o with
 | none=>cases u with
  | none=>rfl
  | some _=>exact (show False from r).elim
 | some _=>cases u with
  | none=>exact (show False from r).elim
  | some _=>rfl
theorem RelO.getD {u:Option Value}{d':Value}(r:RelO o u)(rd:RelV d d'):RelV (o.getD d) (u.getD d'):=by
 cases o with
 | none=>cases u with
  | none=>exact rd
  | some _=>exact (show False from r).elim
 | some _=>cases u with
  | none=>exact (show False from r).elim
  | some _=>exact r
theorem KV.val {kvs:List (κ×V)}{vs:List (κ×Value)}(r:KV kvs vs)(k:κ):RelO (lp kvs k) (valueAt vs k):=by
 unfold KV at r
 induction r with
 | nil=>exact True.intro
 | @cons p q ps qs h t ih =>
  obtain ⟨h1,h2⟩:=h
  by_cases e:p.1=k
  ·have e':q.1=k:=h1.symm.trans e
   have b:valueAt (q::qs) k=some q.2:=by simp [valueAt,List.find?_cons,e']
   rw [gT e,b]; exact h2
  ·have e':¬ q.1=k:=fun z=>e (h1.trans z)
   have b:valueAt (q::qs) k=valueAt qs k:=by simp [valueAt,List.find?_cons,e']
   rw [gU e,b]; exact ih
theorem KV.any {kvs:List (κ×V)}{vs:List (κ×Value)}(r:KV kvs vs)(k:κ):(kvs.any fun kv=>decide (kv.1=k))=vs.any fun kv=>decide (kv.1=k):=by
 unfold KV at r
 induction r with
 | nil=>rfl
 | cons h t ih=>rw [abA,abA,ih,h.1]
theorem KV.repl {kvs:List (κ×V)}{vs:List (κ×Value)}(r:KV kvs vs)(k:κ)(ry:RelV y u) :
  KV (kvs.map fun kv=>if kv.1=k then (kv.1,y) else kv) (vs.map fun kv=>if kv.1=k then (kv.1,u) else kv):=by
 unfold KV at r ⊢
 induction r with
 | nil=>exact .nil
 | @cons p q ps qs h t ih =>
  rw [List.map_cons,List.map_cons]
  refine .cons ?_ ih
  obtain ⟨h1,h2⟩:=h
  by_cases e:p.1=k
  ·rw [if_pos e,if_pos (h1.symm.trans e)]; exact ⟨h1,ry⟩
  ·rw [if_neg e,if_neg (fun z=>e (h1.trans z))]; exact ⟨h1,h2⟩
theorem KV.put {kvs:List (κ×V)}{vs:List (κ×Value)}(r:KV kvs vs)(k:κ)(ry:RelV y u):KV (kT kvs k y) (stored vs k u):=by
 unfold kT stored
 rw [r.any k]
 by_cases e:(vs.any fun kv=>decide (kv.1=k))=true
 ·rw [if_pos e,if_pos e]; exact r.repl k ry
 ·rw [if_neg e,if_neg e]; exact Paired.snoc r ⟨rfl,ry⟩
theorem KV.length {kvs:List (κ×V)}{vs:List (κ×Value)}(r:KV kvs vs):kvs.length=vs.length:=abz r
end
theorem mP (r:RelV (kV k) u):(bt P w).is k u=true:=by
 cases k with
 | inl i=>obtain ⟨t,e⟩:=(show ∃ t,u=Value.int i t from r); subst e; exact mH P w i t
 | inr x=>obtain ⟨t,e⟩:=(show ∃ t,u=Value.str x t from r); subst e; exact mI P w x t
theorem lq {P:Program}{w:World}:∀ {ks:List Key} {us:List Value},Vals (ks.map kV) us->ItemsAre (bt P w) ks us
 | [],_,r=>by rw [List.map_nil] at r; cases r; exact .nil
 | k::ks,_,r=>by
  rw [List.map_cons] at r
  cases r with
  | cons h t=>exact .cons (mP h) (lq t)
abbrev KT (H:Hp):List (List Key×V)->List (List Key×Addr×Value)->Prop:=Paired fun p q=>p.1=q.1/\H q.2.1=some (.tup (p.1.map kV))/\RelV p.2 q.2.2
theorem KT.val (r:KT H kvs xs)(k:List Key):RelO (lp kvs k) ((atKey xs k).map (·.2)):=by
 induction r with
 | nil=>exact True.intro
 | @cons p q ps qs h t ih =>
  obtain ⟨h1,_,h2⟩:=h
  by_cases e:p.1=k
  ·have e':q.1=k:=h1.symm.trans e
   have b:atKey (q::qs) k=some q.2:=by simp [atKey,List.find?_cons,e']
   rw [gT e,b]; exact h2
  ·have e':¬ q.1=k:=fun z=>e (h1.trans z)
   have b:atKey (q::qs) k=atKey qs k:=by simp [atKey,List.find?_cons,e']
   rw [gU e,b]; exact ih
theorem KT.repl (r:KT H kvs xs)(k:List Key)(ry:RelV y u) :
  KT H (kvs.map fun kv=>if kv.1=k then (kv.1,y) else kv) (xs.map (putAt k u)):=by
 induction r with
 | nil=>exact .nil
 | @cons p q ps qs h t ih =>
  rw [List.map_cons,List.map_cons]
  refine .cons ?_ ih
  obtain ⟨h1,h2,h3⟩:=h
  unfold putAt
  by_cases e:p.1=k
  ·rw [if_pos e,if_pos (h1.symm.trans e)]; exact ⟨h1,h2,ry⟩
  ·rw [if_neg e,if_neg (fun z=>e (h1.trans z))]; exact ⟨h1,h2,h3⟩
theorem KT.put (r:KT H kvs xs)(k:List Key)(hb:H b=some (.tup (k.map kV)))(ry:RelV y u) :
  KT H (kT kvs k y) (storedH xs k b u):=by
 have e:(kvs.any fun kv=>decide (kv.1=k))=(atKey xs k).isSome:=by
  rw [j1,(r.val k).isSome_eq,Option.isSome_map]
 unfold kT storedH
 rw [e]
 by_cases q:(atKey xs k).isSome=true
 ·rw [if_pos q,if_pos q]; exact r.repl k ry
 ·rw [if_neg q,if_neg q]; exact Paired.snoc r ⟨rfl,hb,ry⟩
theorem KT.keeps (r:KT H kvs xs)(ht:∀ b ys,H b=some (.tup ys)->H' b=some (.tup ys)):KT H' kvs xs :=
 Paired.mapP r fun _ _ z=>⟨z.1,ht _ _ z.2.1,z.2.2⟩
section
variable    {h:Heap} 
theorem Fy {u:HO}(ok:HOk P w H h)(e:Rd H a u):ObjOk P w H h a u:=e.ok ok
theorem lr {kvs:List (Key×V)}(ok:HOk P w H h)(e:Rd H a (.dK kvs)):kvs.length<=sizeLine/\(a == sysModules)=false/\∃ vs,KV kvs vs/\h.DictOf (bt P w) a vs :=
 show ObjOk P w H h a (.dK kvs) from Fy ok e
theorem Fz {kvs:List (Key×V)}(ok:HOk P w H h)(e:H a=some (.dK kvs)):kvs.length<=sizeLine/\(a == sysModules)=false/\∃ vs,KV kvs vs/\h.DictOf (bt P w) a vs:=lr ok (.inl e)
theorem jo {ks:List Key}(ok:HOk P w H h)(e:H a=some (.tup (ks.map kV))):(tupleKind (bt P w)).is h ks a:=by
 obtain ⟨_,its,r,o,h1,h2,n,h3⟩:=(show ObjOk P w H h a (.tup (ks.map kV)) from ok a _ e)
 exact ⟨o,its.toArray,n,h1,h2,h3,by simpa using lq r⟩
theorem mQ (ok:HOk P w H h)(e:Rd H a (.dT kvs)):kvs.length<=sizeLine/\(a == sysModules)=false /\
  ∃ xs,KT H kvs xs/\h.DictOfH (tupleKind (bt P w)) a xs:=by
 obtain ⟨z,y,xs,r,o,es,ep,h1,h2,h3,h4,h5⟩:=(show ObjOk P w H h a (.dT kvs) from Fy ok e)
 refine ⟨z,y,xs,r,o,es,ep,h1,h2,h3,h4,fun x hx=>?_,h5⟩
 have all:∀ {l:List (List Key×V)} {m:List (List Key×Addr×Value)},KT H l m->∀ x ∈ m,(tupleKind (bt P w)).is h x.1 x.2.1:=by
  intro l m q
  induction q with
  | nil=>intro x hx; exact nomatch hx
  | @cons p q ps qs hq t ih =>
   intro x hx
   rcases List.mem_cons.mp hx with e | hx
   ·subst e
    exact jo ok (by rw [← hq.1]; exact hq.2.1)
   ·exact ih x hx
 exact all r x hx
theorem IO (ok:HOk P w H h)(e:H a=some (.dT kvs)):kvs.length<=sizeLine/\(a == sysModules)=false /\
  ∃ xs,KT H kvs xs/\h.DictOfH (tupleKind (bt P w)) a xs:=mQ ok (.inl e)
end
def DGet (H:Hp)(a:Addr)(y:V)(r:Option V):Prop :=
 (∃ kvs k,Rd H a (.dK kvs)/\y=kV k/\r=lp kvs k)∨∃ kvs k b,Rd H a (.dT kvs)/\y=.ref b/\H b=some (.tup (k.map kV))/\r=lp kvs k
def JU (H:Hp)(a:Addr)(y v:V)(H':Hp):Prop :=
 (∃ kvs k,H a=some (.dK kvs)/\y=kV k/\kvs.length < sizeLine/\H'=upd H a (.dK (kT kvs k v))) ∨
 ∃ kvs k b,H a=some (.dT kvs)/\y=.ref b/\H b=some (.tup (k.map kV))/\kvs.length < sizeLine/\H'=upd H a (.dT (kT kvs k v))
section
variable       {v:V} {r:Value}   
theorem Inv.big (I:Inv X pins σ H s):sysModules < s.heap.objs.size:=by
 have h:mainGlobals < s.heap.objs.size:=(I.mod.glob.keeps I.bk).lt
 exact Nat.lt_trans (by decide) h
theorem rM (hu:A.units+1 < cLine)(I:Inv X pins σ H s)(g:DGet H a y (some v))(ry:RelV y u)(h:∀ w' s',Inv X pins σ H s'->RelV v w'->Q w' s') :
  wpAny (model X.prog X.w) A (getItem (.ref a) u) Q E s:=by
 rcases g with ⟨kvs,k,e,ey,l⟩ | ⟨kvs,k,b,e,ey,eb,l⟩
 ·subst ey
  obtain ⟨z,hd,vs,rel,dd⟩:=lr I.hok e
  obtain ⟨w',hw,rw'⟩:=RelO.some_of (v:=v) (o:=valueAt vs k) (by rw [l]; exact rel.val k)
  exact wpAny_getItem_of (mP ry) dd.mapOf hw (h w' _ (I.tok _) rw')
 ·subst ey
  cases (show u=Value.ref b from ry)
  obtain ⟨z,hd,xs,rel,dd⟩:=mQ I.hok e
  obtain ⟨w',hw,rw'⟩:=RelO.some_of (v:=v) (o:=(atKey xs k).map (·.2)) (by rw [l]; exact rel.val k)
  obtain ⟨p,hp,hp2⟩:=Option.map_eq_some_iff.mp hw
  refine wpAny_getItem_heap (tupleKind_room_in1 hu) (jo I.hok eb) dd hp ?_
  rw [hp2]
  exact h w' _ (I.tok _) rw'
theorem d_in (hu:A.units+1 < cLine)(I:Inv X pins σ H s)(g:DGet H a y o)(ry:RelV y u)(h:∀ s',Inv X pins σ H s'->Q (.bool o.isSome) s') :
  wpAny (model X.prog X.w) A (compareOp .In u (.ref a)) Q E s:=by
 rcases g with ⟨kvs,k,e,ey,l⟩ | ⟨kvs,k,b,e,ey,eb,l⟩
 ·subst ey
  obtain ⟨z,hd,vs,rel,dd⟩:=lr I.hok e
  refine wpAny_in_of (mP ry) hd dd.mapOf ?_
  rw [← (rel.val k).isSome_eq,← l]
  exact h _ (I.tok _)
 ·subst ey
  cases (show u=Value.ref b from ry)
  obtain ⟨z,hd,xs,rel,dd⟩:=mQ I.hok e
  refine wpAny_in_heap (tupleKind_room_in1 hu) (jo I.hok eb) hd dd ?_
  have q:=(rel.val k).isSome_eq
  rw [Option.isSome_map] at q
  rw [← q,← l]
  exact h _ (I.tok _)
theorem BF (hu:A.units+1 < cLine)(I:Inv X pins σ H s)(g:DGet H a y o)(ry:RelV y u)(h:∀ s',Inv X pins σ H s'->Q (.bool (!o.isSome)) s') :
  wpAny (model X.prog X.w) A (compareOp .NotIn u (.ref a)) Q E s:=by
 rcases g with ⟨kvs,k,e,ey,l⟩ | ⟨kvs,k,b,e,ey,eb,l⟩
 ·subst ey
  obtain ⟨z,hd,vs,rel,dd⟩:=lr I.hok e
  refine wpAny_notIn_of (mP ry) hd dd.mapOf ?_
  rw [← (rel.val k).isSome_eq,← l]
  exact h _ (I.tok _)
 ·subst ey
  cases (show u=Value.ref b from ry)
  obtain ⟨z,hd,xs,rel,dd⟩:=mQ I.hok e
  refine wpAny_notIn_heap (tupleKind_room_in1 hu) (jo I.hok eb) hd dd ?_
  have q:=(rel.val k).isSome_eq
  rw [Option.isSome_map] at q
  rw [← q,← l]
  exact h _ (I.tok _)
theorem mR {ob:HO}(I:Inv X pins σ H s)(mu:Mut (H a))(hs:Heap.SameBut a s.heap h')(he:∃ q,h'.get? a=some q)(new:ObjOk X.prog X.w (upd H a ob) h' a ob) :
  Inv X pins σ (upd H a ob) { s with heap:=h',toks:=t' } :=
 I.write (x:=a) (e:=a) mu (.inl rfl) (fun b q hb z=>(hs.2 b hb).trans z) he new
theorem Aj {kvs:List (Key×V)}{vs:List (Key×Value)}(z:kvs.length<=sizeLine)(hd:(a == sysModules)=false)(rel:KV kvs vs)(dd:h'.DictOf (bt P w) a vs) :
  ObjOk P w H' h' a (.dK kvs):=⟨z,hd,vs,rel,dd⟩
theorem rN {Q:Unit->Shared->Prop}(hu:A.units+1 < cLine)(I:Inv X pins σ H s)(g:JU H a y v H')(ry:RelV y u)(rv:RelV v r)(h:∀ s',Inv X pins σ H' s'->Q () s') :
  wpAny (model X.prog X.w) A (setItem (.ref a) u r) Q E s:=by
 rcases g with ⟨kvs,k,e,ey,l,eH⟩ | ⟨kvs,k,b,e,ey,eb,l,eH⟩
 ·subst ey eH
  obtain ⟨z,hd,vs,rel,dd⟩:=Fz I.hok e
  have hz:vs.length<=sizeLine:=by rw [← rel.length]; exact z
  have hl:(kT kvs k v).length<=sizeLine:=by have:=eW kvs k v; nofun
  refine wpAny_setItem_pairs (hsz:=hz) (mP ry) dd fun h' dd' hs=>h _ ?_
  have he:∃ q,h'.get? a=some q:=let ⟨q,_,_,hq,_⟩:=dd'; ⟨q,hq⟩
  exact mR I (by rw [e]; exact True.intro) hs he (Aj hl hd (rel.put k rv) dd')
 ·subst ey eH
  cases (show u=Value.ref b from ry)
  obtain ⟨z,hd,xs,rel,dd⟩:=IO I.hok e
  have hz:xs.length<=sizeLine:=by rw [← abz rel]; exact z
  have hl:(kT kvs k v).length<=sizeLine:=by have:=eW kvs k v; nofun
  refine wpAny_setItem_heap (hsz:=hz) (tupleKind_room_in1 hu) (jo I.hok eb) dd fun h' dd' hs=>h _ ?_
  obtain ⟨q,es,ep,hq,h2,h3,h4,_,h5⟩:=dd'
  refine mR I (by rw [e]; exact True.intro) hs ⟨q,hq⟩ ⟨hl,hd,_,(rel.put k eb rv).keeps fun c ys ec=>?_,q,es,ep,hq,h2,h3,h4,h5⟩
  rw [aU (Ip ec e (fun z=>nomatch z))]
  exact ec
end
section
variable       {kvs:List (Key×V)}    
theorem IP (I:Inv X pins σ H s)(e:Rd H a (.dK kvs))(h:∀ t s',Inv X pins σ H s'->Q (.int kvs.length t) s'):wpAny (model X.prog X.w) A (call (.builtin "len") [.ref a]) Q E s:=by
 obtain ⟨z,hd,vs,rel,dd⟩:=lr I.hok e
 refine call_len_dict hd dd (by rw [← rel.length]; rw [sizeLine_eq] at z; nofun) ?_
 rw [← rel.length]
 exact h _ _ (I.tok _)
end
theorem mS (I:Inv X pins σ H s)(g:DGet H a y o):s.TypeIs (.ref a) "dict" := by
 rcases g with ⟨kvs,k,e,_,_⟩ | ⟨kvs,k,b,e,_,_,_⟩
 ·obtain ⟨_,_,vs,_,dd⟩:=lr I.hok e
  exact dd.typeIs
 ·obtain ⟨_,_,xs,_,dd⟩:=mQ I.hok e
  exact dd.typeIs
def BH (td ty tv:TE):TS:=fun D σ H=>tv σ H fun v H1=>td σ H1 fun x H2=>ty σ H2 fun y H3=>∃ a H4,x=.ref a/\JU H3 a y v H4/\D.nx σ H4
section
variable  {o i value:Expr} {pos' tpos:Pos} 
theorem BJ (hu:X.A.units+1 < cLine)(ho:PE X o td)(hi:PE X i ty)(hv:PE X value tv)(hs:swapsWith value (some (.Subscript o i pos')) pos.line X.env=pure false) :
  PS X (.Assign [.Subscript o i pos'] value pos) (BH td ty tv):=by
 intro pins s σ H D I h
 refine wpAny_Assign_Subscript (thn (hv pins s σ H _ I h) fun r s1 ⟨v,H1,I1,rv,q1⟩=>thn (ho pins s1 σ H1 _ I1 q1) fun u s2 ⟨x,H2,I2,rx,q2⟩=>thn (hi pins s2 σ H2 _ I2 q2) fun iv s3 ⟨y,H3,I3,ry,a,H4,ex,g,q3⟩=>?_) hs
 subst ex
 obtain rfl:u=Value.ref a:=rx
 exact rN hu I3 g ry rv fun s4 I4=>⟨σ,H4,I4,q3⟩
end
theorem nJ (h:Heap)(hb:sysModules < h.objs.size):ObjOk P w H (h.push { cls:=.type "dict", data:=.dict #[] }) h.objs.size (.dK []) :=
 ⟨aam _,beq_eq_false_iff_ne.mpr (abr (aal hb)),[],.nil,Heap.DictOf.new h⟩
def nK:TE:=fun _ H Q=>∀ p,H p=none->Q (.ref p) (upd H p (.dK []))
theorem wq:PE X (.Dict [] [] pos) nK:=fun pins s σ H Q I h =>
 wpAny_Dict_empty ⟨.ref s.heap.objs.size,_,I.laid (a:=s.heap.objs.size) (o:=.dK []) (t':=s.toks) (fun _ _ q=>Heap.get?_push_of_some _ q) (aac _) (nJ s.heap I.big),rfl,h _ (I.hok.fresh (aac _))⟩
def ls:List (TE×TE)->St->Hp->(List (V×V)->Hp->Prop)->Prop
 | [],_,H,Q=>Q [] H
 | (tk,tv)::r,σ,H,Q=>tk σ H fun x H1=>tv σ H1 fun y H2=>ls r σ H2 fun ps H3=>Q ((x,y)::ps) H3
abbrev VV:List (V×V)->List (Value×Value)->Prop:=Paired fun p q=>RelV p.1 q.1/\RelV p.2 q.2
def PPs (X:Cx)(pos:Pos)(keys:List (Option Expr))(values:List Expr)(trs:List (TE×TE)):Prop :=
 ∀ (pins:List (Addr×Obj)) (s:Shared) (σ:St) (H:Hp) (Q:List (V×V)->Hp->Prop),Inv X pins σ H s->ls trs σ H Q ->
  wpAny (model X.prog X.w) X.A (evalPairs (pairTrees keys values X.env pos)) (fun vs s'=>∃ ps H',Inv X pins σ H' s'/\VV ps vs/\Q ps H') X.xe s
theorem BK :PPs X pos [] [] []:=fun pins s σ H Q I h=>pairTrees_nil_walk ⟨[],H,I,.nil,h⟩
theorem wt {k v:Expr}{ks:List (Option Expr)}{vs:List Expr}{tk:TE}(hk:PE X k tk)(hv:PE X v tv)(hr:PPs X pos ks vs trs) :
  PPs X pos (some k::ks) (v::vs) ((tk,tv)::trs):=fun pins s σ H Q I h =>
 pairTrees_cons_walk (thn (hk pins s σ H _ I h) fun u s1 ⟨x,H1,I1,rx,q1⟩=>thn (hv pins s1 σ H1 _ I1 q1) fun w2 s2 ⟨y,H2,I2,ry,q2⟩ =>
  thn (hr pins s2 σ H2 _ I2 q2) fun ws s3 ⟨ps,H3,I3,rel,q3⟩=>⟨(x,y)::ps,H3,I3,.cons ⟨rx,ry⟩ rel,q3⟩)
def ii (kvs more:List (Key×V)):List (Key×V):=more.foldl (fun acc kv=>kT acc kv.1 kv.2) kvs
theorem KV.merge:∀ {more:List (Key×V)} {rs:List (Key×Value)} {kvs:List (Key×V)} {vs:List (Key×Value)},KV more rs->KV kvs vs->KV (ii kvs more) (merged vs rs):=by
 intro more rs kvs vs r
 unfold KV at r
 induction r generalizing kvs vs with
 | nil=>intro q; exact q
 | @cons p q ps qs h t ih =>
  intro r0
  have e:KV (kT kvs p.1 p.2) (stored vs q.1 q.2):=by
   have:=r0.put p.1 h.2
   rw [← h.1]; exact this
  exact ih e
theorem fM:∀ (more kvs:List (Key×V)),(ii kvs more).length<=kvs.length+more.length
 | [],kvs=>by show kvs.length<=kvs.length+0; nofun
 | p::r,kvs=>by
  have h1:=fM r (kT kvs p.1 p.2)
  have h2:=eW kvs p.1 p.2
  show (ii (kT kvs p.1 p.2) r).length<=_
  rw [List.length_cons]; nofun
theorem jp {P:Program}{w:World}:∀ {kvs:List (Key×V)} {ws:List (Value×Value)},VV (kvs.map fun kv=>(kV kv.1,kv.2)) ws->∃ rs,Carries (bt P w) ws rs/\KV kvs rs
 | [],_,r=>by rw [List.map_nil] at r; cases r; exact ⟨[],True.intro,.nil⟩
 | p::kvs,_,r=>by
  rw [List.map_cons] at r
  cases r with
  | @cons a b as bs h t =>
   obtain ⟨rs,c,q⟩:=jp (P:=P) (w:=w) t
   obtain ⟨b1,b2⟩:=b
   exact ⟨(p.1,b2)::rs,⟨mP h.1,rfl,c⟩,.cons ⟨rfl,h.2⟩ q⟩
def wu (trs:List (TE×TE)):TE:=fun σ H Q=>∀ p,H p=none->ls trs σ (upd H p (.dK [])) fun ps H2=>H2 p=some (.dK [])/\∃ kvs:List (Key×V),ps=kvs.map (fun kv=>(kV kv.1,kv.2))/\kvs.length<=15/\Q (.ref p) (upd H2 p (.dK (ii [] kvs)))
theorem BL {keys:List (Option Expr)}{values:List Expr}(h:PPs X pos keys values trs)(hall:keys.all (·.isSome)=true)(hl:keys.length=values.length)(h0:keys≠[])
  (h15:keys.length<=15):PE X (.Dict keys values pos) (wu trs):=by
 intro pins s σ H Q I q
 have hn:=I.hok.fresh (aac s.heap.objs.size)
 have I1:=I.laid (a:=s.heap.objs.size) (o:=.dK []) (h':=s.heap.push { cls:=.type "dict", data:=.dict #[] }) (t':=s.toks) (fun _ _ q=>Heap.get?_push_of_some _ q) (aac _) (nJ s.heap I.big)
 refine wpAny_Dict_walk (knd:=bt X.prog X.w) hall hl h0 h15 (thn (h pins _ σ _ _ I1 (q _ hn)) fun ws s2 ⟨ps,H2,I2,rel,e,kvs,ep,lk,q2⟩=>?_)
 subst ep
 obtain ⟨rs,c,rk⟩:=jp (P:=X.prog) (w:=X.w) rel
 obtain ⟨z,hd,vs0,r0,dd⟩:=Fz I2.hok e
 cases r0
 refine ⟨rs,c,dd,fun h' dd' hs=>⟨.ref s.heap.objs.size,_,?_,rfl,q2⟩⟩
 have hz:(ii [] kvs).length<=sizeLine:=by
  have h1:=fM kvs []
  rw [List.length_nil] at h1
  rw [sizeLine_eq]; nofun
 have he:∃ q,h'.get? s.heap.objs.size=some q:=let ⟨q,_,_,hq,_⟩:=dd'; ⟨q,hq⟩
 exact mR I2 (by rw [e]; exact True.intro) hs he (Aj hz hd (rk.merge .nil) dd')
structure M2 (X:Cx)(o:Expr)(m:Str)(apos:Pos)(e f:Expr)(cpos:Pos):Prop where
 base:attributeBase o m X.env (eval o X.env)=eval o X.env
 few:((backTo cpos (starEach [e,f] X.env)).all (fun x=>!x.1) && (backToKw cpos (keywordEach [] X.env)).all (fun x=>x.1.isSome)
  && decide (([e,f]:List Expr).length+([]:List Keyword).length+(if ([]:List Keyword).isEmpty then 0 else 1) < 30))=true
 line:(apos.endLine == cpos.line)=true
 trees:backTo cpos (starEach [e,f] X.env)=[(false,eval e X.env),(false,eval f X.env)]
def IsD (H:Hp)(a:Addr):Prop:=(∃ kvs,Rd H a (.dK kvs))∨∃ kvs,Rd H a (.dT kvs)
theorem FC (I:Inv X pins σ H s)(d:IsD H a) :
  s.TypeIs (.ref a) "dict" /\ (∀ b,Value.ref a=.ref b->∃ ob,s.heap.get? b=some ob/\ob.dict=none)/\(a == sysModules)=false:=by
 rcases d with ⟨kvs,e⟩ | ⟨kvs,e⟩
 ·obtain ⟨_,hd,vs,_,dd⟩:=lr I.hok e
  refine ⟨dd.typeIs,fun b q=>?_,hd⟩
  cases q
  obtain ⟨ob,_,_,h1,h2,_⟩:=dd
  exact ⟨ob,h1,h2.2.1⟩
 ·obtain ⟨_,hd,xs,_,dd⟩:=mQ I.hok e
  refine ⟨dd.typeIs,fun b q=>?_,hd⟩
  cases q
  obtain ⟨ob,_,_,h1,h2,_⟩:=dd
  exact ⟨ob,h1,h2.2.1⟩
section
variable        {r:Value}   
theorem FD (hu:A.units+1 < cLine)(I:Inv X pins σ H s)(g:DGet H a y o)(ry:RelV y u)(rd:RelV d r)(h:∀ w' s',Inv X pins σ H s'->RelV (o.getD d) w'->Q w' s') :
  wpAny (model X.prog X.w) A (call (.builtin "dict.get") [.ref a,u,r]) Q E s:=by
 rcases g with ⟨kvs,k,e,ey,l⟩ | ⟨kvs,k,b,e,ey,eb,l⟩
 ·subst ey
  obtain ⟨z,hd,vs,rel,dd⟩:=lr I.hok e
  refine call_meetsIn PySem.F.slot_dict_get dd.typeIs PySem.F.entry_dict_get (PySem.F.args_dict_get_3 _ _ _) (meets_dict_get_default (bt X.prog X.w) a (mP ry) hd r) ⟨_,dd.mapOf,h _ _ (I.tok _) ?_⟩
  rw [l]
  exact (rel.val k).getD rd
 ·subst ey
  cases (show u=Value.ref b from ry)
  obtain ⟨z,hd,xs,rel,dd⟩:=mQ I.hok e
  refine call_meetsIn PySem.F.slot_dict_get dd.typeIs PySem.F.entry_dict_get (PySem.F.args_dict_get_3 _ _ _) (meetsH_dict_get_default (tupleKind (bt X.prog X.w)) a b hd r) ⟨tupleKind_room_in1 hu,k,xs,jo I.hok eb,dd,h _ _ (I.tok _) ?_⟩
  rw [l]
  exact (rel.val k).getD rd
end
def nL (td ty tx:TE):TE:=fun σ H Q=>td σ H fun x H1=>∃ a,x=.ref a/\IsD H1 a/\ty σ H1 fun y H2=>tx σ H2 fun z H3=>∃ o,DGet H3 a y o/\Q (o.getD z) H3
section
variable  {o f:Expr}  {tx:TE}
theorem wv (hu:X.A.units+1 < cLine) (ho:PE X o td) (he:PE X e ty) (hf:PE X f tx) (m:M2 X o "get" apos e f cpos):PE X (.Call (.Attribute o "get" apos) [e,f] [] cpos) (nL td ty tx):=by
 intro pins s σ H Q I h
 refine wpAny_Call_method m.base m.few m.line PySem.F.plainAttrs_dict PySem.F.slot_dict_get PySem.F.type_dict_get (thn (ho pins s σ H _ I h) fun u s1 ⟨x,H1,I1,rx,a,ex,d,q1⟩=>?_)
 subst ex
 obtain rfl:u=Value.ref a:=rx
 obtain ⟨t1,t2,_⟩:=FC I1 d
 refine ⟨t1,t2,?_⟩
 rw [m.trees]
 refine abq rfl (abx (abp (thn (he pins s1 σ H1 _ I1 q1) fun iv s2 ⟨y,H2,I2,ry,q2⟩ =>
  abp (thn (hf pins s2 σ H2 _ I2 q2) fun fv s3 ⟨z,H3,I3,rz,ov,g,q3⟩=>Calls.spliced_nil ?_))))
 exact FD hu I3 g ry rz fun w' s4 I4 rw'=>⟨_,H3,I4,rw',q3⟩
end
section
variable       {kvs:List (Key×V)}  
end
end L2
namespace Att
open PySem PySem.W PySem.Calls PyProof.Rows
variable{P:Params}{h:Heap}{n:Nat}
theorem ij :∀ (ns:List Int) (vs:List Value),WellAll P h vs (ns.map WData.int)->IntsAre vs ns:=by
 intro ns
 induction ns with
 | nil =>
  intro vs w
  rw [List.map_nil] at w
  cases w
  exact .nil
 | cons n ns ih =>
  intro vs w
  rw [List.map_cons] at w
  cases w with
  | cons a b =>
   cases a
   exact .cons _ _ (ih _ b)
theorem rO {l:OpenLaw}(hn:l.most=some n){args:List WData}{vals:List Value}
  (hpre:l.row.toRowW.claim.pre args=true) (hwl:WellAll P h vals args) :
  ∃ a vs ns,vals=[Value.ref a]/\args=[WData.list (ns.map WData.int)]/\h.get? a=some { cls:=.type "list", data:=.seq vs.toArray }/\IntsAre vs ns/\ns.length<=n:=by
 have hsh:WShape.hasAll [] args [.list .int]=true:=(pre_splitW hpre).1
 have hc:l.pre.holds [] { args:=args }=true:=(pre_splitW hpre).2
 obtain ⟨d,r,rfl,h1,h2⟩:=hasAllW_cons hsh
 obtain rfl:=hasAllW_nil h2
 obtain ⟨xs,rfl,h3⟩:=hasW_list h1
 obtain ⟨ns,rfl⟩:=items_int h3
 have hlen:ns.length<=n:=by
  unfold OpenLaw.pre at hc
  have h4:(WTm.not (.lt (.lit (.int (n:Int))) (.len (.arg 0)))).holds [] { args:=[.list (ns.map .int)] }=true:=by
   have h4:=(holds_andW hc).1
   rw [hn] at h4
   exact h4
  have h5:=condW_of h4 (w_not (w_lt w_lit (w_len_list (w_arg rfl))))
  rw [List.length_map] at h5
  refine Nat.le_of_not_lt fun q=>?_
  have q':(n:Int) < ((ns.length:Nat):Int):=by nofun
  first
   | (rw [decide_eq_true q'] at h5; exact absurd h5 (by decide))
   | (simp at h5; nofun)
 cases hwl with
 | cons w1 w2 =>
  cases w2
  cases w1 with
  | list ho hall=>exact ⟨_,_,ns,rfl,rfl,ho,ij ns _ hall,hlen⟩
theorem rP (l:OpenLaw)(args:List WData):l.row.toRowW.claim.post args (.bool true) args=true :=
 postW_of (r:=l.row.toRowW) (X:=(true == true))
  (show WShape.has [] (.bool true) .bool=true by first | rfl | decide | simp [WShape.has,WShape.arms,WShape.armsAll])
  (show (WTm.eq .res (.lit (.bool true))).value [] { args:=args,res:=some (.bool true),after:=args }=some (.bool (true == true)) from w_eq_bool (w_res rfl) w_lit) rfl
theorem attach_call {l:OpenLaw}{q:Program}{loose:List Str}{XP:(Str->Option Value)->Heap->Prop}{YP:World->Heap->Prop}{d:DefRec}
  (hn:l.most=some n) (hdf:d.params.defaults=[])
  (call:∀ (w:World) (s₀ s₁:Shared) (mg mb:Str->Option Value) (fa:Addr) (o:Obj) (pm cd doc:Value) (a:Addr) (vs:List Value) (ns:List Int),
   Ground q loose [] XP w s₀ mg mb s₁.heap->YP w s₁.heap ->
   s₁.heap.get? fa=some o->o.data=.func (docDef d.name d.params d.body d.scope pm cd doc)->s₁.heap.CodeRec cd d.name->mg d.name=some (.ref fa) ->
   s₁.heap.get? a=some { cls:=.type "list", data:=.seq vs.toArray }->IntsAre vs ns->ns.length<=n->s₁.gens=#[] ->
   codeAny (model l.prog w) callerA (.call (.ref fa) ⟨[.ref a],[]⟩) (fun r s'=>r=.ok (.ret (.bool true))/\OldK s₁.heap s'.heap/\s'.os=s₁.os/\AllBare s'.gens) s₁) :
  WalkO q loose XP YP l.row.toRowW d [] (fun f vs=>PySem.call f vs):=by
 intro w s₀ s₁ mg mb G Y fa o pm cd doc dV kV ho hd hcd hD hmg hg args vals as hpre hlay hrd hwl hlo
 obtain rfl:dV=.none:=Dflts.none hD hdf
 obtain rfl:kV=.none:=Dflts.noKw hD
 obtain ⟨a,vs,ns,rfl,rfl,hobj,hints,hlen⟩:=rO hn hpre hwl
 refine enter_call (codeAny_mono (call w s₀ s₁ mg mb fa o pm cd doc a vs ns G Y ho (fd_plain hd) hcd hmg hobj hints hlen hg) fun r s' hq=>?_)
 obtain ⟨rfl,h2,h3,h4⟩:=hq
 exact ⟨.inl ⟨.bool true,.bool true,[],rfl,fun _=>rfl,.bool true,rP l _,fun _=>⟨List.Pairwise.nil,fun _ hm=>(nomatch hm)⟩⟩,h2,h3,h4⟩
section
variable {prog:Program} {w:World} {A:Around} {E:Value->Shared->Prop} {s:Shared} {K:Frag}
def rQ (h:Heap):Heap:={ h with objs:=#[] }
theorem noObjs_get (h:Heap)(b:Addr):(rQ h).get? b=none:=by
 cases e:(rQ h).get? b with
 | none=>rfl
 | some o=>exact absurd (aaf e) (abF _)
theorem fr_all {L:Addr}{m:Str->Option Value}(n:h.Ns L m):Fr (rQ h) L h m :=
 ⟨n,fun b o e=>(by rw [noObjs_get] at e; cases e),aam _⟩
end
end Att
namespace L2
open PySem PySem.Spec PyProof.Rows
variable{P:Program}{w:World}{mg:Str->Option Value}{k:Nat}{a f p:Addr}{fd:FuncData}{sp:Sp}{X:Cx}{qual y:Str}{st:Stmt}{ps T F:List Str}{A:Around}{B:Prop}{H H':Hp}{xs:List V}{E:Value->Shared->Prop}{s:Shared}{elt iter tg:Expr}{ifs:List Expr}{scope:Scope}{pos:Pos}{env:Env}{pins:List (Addr×Obj)}{σ:St}{ixs:List Nat}{v:V}{wi:TI}{tc:TT}{te:TE}{Q:VK}
theorem lu:∀ {vs:List Value} {ns:List Int},IntsAre vs ns->Vals (ns.map V.int) vs
 | _,_,.nil=>.nil
 | _,_,.cons n t h=>.cons ⟨t,rfl⟩ (lu h)
def IQ (H:Hp):Prop:=∀ b,H b=none∨∃ o xs,H b=some (.frz o (.lst xs))
theorem ww {K:Frag}{mb:Str->Option Value}{CX:CXT}{fa:Addr}{x:Str}{s₁:Shared}{vs:List Value}{ns:List Int}
  (KX:K.In s₁.heap) (hns:s₁.heap.Ns mainGlobals mg) (hb:s₁.heap.Ns builtinsNs mb) (hbb:∀ x:Str,x ≠ "__name__" -> mb x=bootBuiltins x) (hlim:s₁.heap.NoLimit) (hg:s₁.gens=#[])
  (ha:s₁.heap.get? a=some { cls:=.type "list", data:=.seq vs.toArray }) (hi:IntsAre vs ns) (hl:ns.length<=sizeLine) (hr:Room k callerA)
  (F:∀ base:Heap,K.In base->base.Ns mainGlobals mg->FnOk P w K mg base CX k fa fd [x] sp) (hbind:∀ (s:Shared) (u:Value),BindsTo s fd ⟨[u],[]⟩ [(x,u)])
  (hsp:∀ H:Hp,IQ H->SqL K H a (ns.map V.int)->sp [.ref a] H (fun v _=>v=.bl true) fun _ _ _=>False)
  (hCX:∀ H e s',CX [] H s₁ (fun _ _ _=>False) e s'->False) :
  codeAny (model P w) callerA (.call (.ref fa) ⟨[.ref a],[]⟩) (fun r s'=>r=.ok (.ret (.bool true))/\OldK s₁.heap s'.heap/\s'.os=s₁.os/\AllBare s'.gens) s₁:=by
 have rv:=lu hi
 have lenV:=hi.length
 -- from an abstract heap in which nothing but the script may be tracked
 have core:∀ H:Hp,IQ H->SqL K H a (ns.map V.int)->HOk P w H s₁.heap->(∀ b,H b≠none->b=a)->(H a≠none->K.lookup a=none) ->
   codeAny (model P w) callerA (.call (.ref fa) ⟨[.ref a],[]⟩) (fun r s'=>r=.ok (.ret (.bool true))/\OldK s₁.heap s'.heap/\s'.os=s₁.os/\AllBare s'.gens) s₁:=by
  intro H hO hS hok hA hK
  have base_of:∀ {b:Addr} {o:Obj},s₁.heap.get? b=some o->H b=none->(v8 s₁.heap H).get? b=some o:=fun e n=>v9 e n
  have noA:∀ {b:Addr} {o:Obj} {es:Array DictEntry} {ep:Nat},s₁.heap.get? b=some o->o.data=.dict es ep->H b=none:=fun {b o es ep} e d=>by
   cases q:H b with
   | none=>rfl
   | some u =>
    have e':b=a:=hA b (by rw [q]; simp)
    subst e'
    rw [ha] at e; cases e
    have d':Data.seq vs.toArray _=Data.dict es ep:=d
    cases d'
  have nsK:∀ {b:Addr} {m:Str->Option Value},s₁.heap.Ns b m->(v8 s₁.heap H).Ns b m:=fun {b m} ⟨o,es,ep,e,d,r⟩=>⟨o,es,ep,base_of e (noA e d),d,r⟩
  have hKb:K.In (v8 s₁.heap H):=fun b o e=>base_of (KX b o e) (by
   cases q:H b with
   | none=>rfl
   | some u =>
    have e':b=a:=hA b (by rw [q]; simp)
    subst e'
    rw [hK (by rw [q]; simp)] at e; cases e)
  have hM:Mod K mg (v8 s₁.heap H):=⟨hKb,nsK hns,⟨mb,nsK hb,hbb⟩,let ⟨mc,h1,h2⟩:=hlim; ⟨mc,nsK h1,h2⟩⟩
  have e0:Env0 P w K mg (v8 s₁.heap H) callerA [] s₁ H:=⟨rfl,hM,fun b o e=>Bc e,Nat.le_of_eq (rb _ _),trivial,fun b hb=>absurd (show b ∈ ([]:List Addr) from hb) (by simp),hok,.of_eq hg⟩
  refine codeAny_mono ((F _ hKb (nsK hns)).run callerA [] s₁ H ⟨[.ref a],[]⟩ [.ref a] [.ref a] _ _ hr e0 (hbind s₁ (.ref a)) (.cons rfl .nil) (hsp H hO hS)) fun r s' h=>?_
  cases r with
  | error e=>exact (hCX H e s' h).elim
  | ok fl =>
   cases fl with
   | next=>exact False.elim h
   | brk=>exact False.elim h
   | cont=>exact False.elim h
   | ret u =>
    obtain ⟨v,H',os,bare,un,hok',r',q⟩:=h
    have q':v=.bl true:=q
    subst q'
    obtain rfl:u=Value.bool true:=r'
    refine ⟨rfl,OldK.of_keep fun b o e=>?_,os,bare⟩
    cases q:H b with
    | none=>exact un.keep b o e q (by intro z; exact absurd (show b ∈ ([]:List Addr) from z) (by simp)) (by simp)
    | some u =>
     rcases hO b with z | ⟨ob,xs,z⟩
     ·rw [q] at z; cases z
     ·have z2:=un.frzs b ob _ z
      obtain ⟨e1,_⟩:=hok b _ z
      obtain ⟨e2,_⟩:=hok' b _ z2
      rw [e] at e1; cases e1
      exact e2
 cases hk:K.lookup a with
 | some o =>
  -- the script is one of the module's own objects
  have e:=KX a o hk
  rw [ha] at e
  cases e
  refine core (fun _=>none) (fun _=>.inl rfl) (.inr ⟨_,vs.toArray,_,hk,rfl,rfl,rfl,by rw [List.size_toArray,lenV]; exact hl,(by exists rv)⟩) (fun b u z=>by have z':(none:Option HO)=some u:=z; cases z') (fun b z=>absurd rfl z) fun z=>absurd rfl z
 | none =>
  refine core (fun b=>if b=a then some (.frz { cls:=.type "list", data:=.seq vs.toArray } (.lst (ns.map V.int))) else none) (fun b=>?_) (.inl (.inr ⟨{ cls:=.type "list", data:=.seq vs.toArray },if_pos rfl⟩)) (fun b u z=>?_) (fun b z=>?_) fun _=>hk
  ·by_cases hb:b=a
   ·exact .inr ⟨_,_,if_pos hb⟩
   ·exact .inl (if_neg hb)
  ·by_cases hb:b=a
   ·have z':=(if_pos hb).symm.trans z
    cases z'
    subst hb
    exact ⟨ha,by rw [List.length_map]; exact hl,vs,_,rv,ha⟩
   ·have z':=(if_neg hb).symm.trans z
    cases z'
  ·by_cases hb:b=a
   ·exact hb
   ·exact absurd (if_neg hb) z
theorem walk_of {l:PySem.W.OpenLaw}{n:Nat}{q:Program}{loose:List Str}{XP:(Str->Option Value)->Heap->Prop}{YP:World->Heap->Prop}{d:DefRec}{K:Params->Frag}{CX:World->CXT}{sp:World->Sp}{x:Str}
  (hn:l.most=some n) (hn2:n<=sizeLine) (hdf:d.params.defaults=[]) (hr:Room k callerA)
  (hY:∀ (w:World) (h:Heap),YP w h->(K w.params).In h)
  (F:∀ (w:World) (mg:Str->Option Value) (fa:Addr) (h:Heap),(K w.params).In h->h.Ns mainGlobals mg->mg d.name=some (.ref fa) ->
   ∃ fd:FuncData,(∀ (s:Shared) (u:Value),BindsTo s fd ⟨[u],[]⟩ [(x,u)]) /\
    ∀ base:Heap,(K w.params).In base->base.Ns mainGlobals mg->FnOk l.prog w (K w.params) mg base (CX w) k fa fd [x] (sp w))
  (hsp:∀ (w:World) (H:Hp) (a:Addr) (ns:List Int),ns.length<=n->IQ H->SqL (K w.params) H a (ns.map V.int)->sp w [.ref a] H (fun v _=>v=.bl true) fun _ _ _=>False)
  (hCX:∀ (w:World) (H:Hp) (s:Shared) (e:Value) (s':Shared),CX w [] H s (fun _ _ _=>False) e s'->False) :
  PySem.W.WalkO q loose XP YP l.row.toRowW d [] (fun f vs=>PySem.call f vs):=by
 refine Att.attach_call hn hdf fun w s₀ s₁ mg mb fa o pm cd doc a vs ns G Y ho hd hcd hmg hobj hints hlen hg=>?_
 have KX:=hY w _ Y
 obtain ⟨fd,hb,hF⟩:=F w mg fa _ KX G.T.g hmg
 exact ww KX G.T.g G.T.b G.T.builtins G.T.nolimit hg hobj hints (aaq hlen hn2) hr hF hb (fun H hO hS=>hsp w H a ns hlen hO hS) fun H e s'=>hCX w H s₁ e s'
def dl (s:Stmt):Arguments:=match s with
 | .FunctionDef _ a _ _ _ _ _ _ _ _=>a
 | _=>{ posonlyargs:=[],args:=[],vararg:=none,kwonlyargs:=[],kw_defaults:=[],kwarg:=none,defaults:=[] }
def bT (s:Stmt):List Stmt:=match s with
 | .FunctionDef _ _ b _ _ _ _ _ _ _=>b
 | _=>[]
def aj (s:Stmt):Scope:=match s with
 | .FunctionDef _ _ _ _ _ _ sc _ _ _=>sc
 | _=>{ kind:=.function,names:=[],isGenerator:=false,isCoroutine:=false }
abbrev CX0:CXT:=fun _ _ _ _ _ _=>False
abbrev E0:XK:=fun _ _ _=>False
theorem IR :jl CX0 X E0:=fun _ _ _ _ _ _ _ h=>h.elim
structure Fun (K:Frag)(x qual:Str)(st:Stmt)(f:Addr)(fd:FuncData):Prop where
 ex:∃ (oc:Value) (od:Option Addr) (kV doc pm:Value) (an:Option Addr) (cdv ct:Value) (osl:Array (Option Value)),
  fd=PySem.W.fnOf x qual (dl st) (bT st) (aj st) .none kV doc pm an cdv ct/\K.lookup f=some ⟨oc,od,.func fd,osl⟩/\PySem.W.codeIn K cdv qual=true
 kp:PySem.W.keepIn K (.ref f)=true
section
variable   {K:Frag}  {base:Heap}
theorem Fun.ok {x:Str}{N:List Str}(F:Fun K x qual st f fd)(S:FnScope N ps (aj st))(len:∀ vs H Q E,sp vs H Q E->vs.length=ps.length)
  (hbody:∀ (cdv:Value) (A:Around) (outer:List Env) (s:Shared) (H:Hp) (vs:List V) (Q:VK) (E:XK),Room k (A.deeper (envOfC qual (aj st) s.heap.objs.size f cdv))->sp vs H Q E ->
   ∃ t,PSs (dL CX0 P w K mg base N qual (aj st) f cdv A outer s H E).nox (bT st) t/\t { nx:=fun _ H'=>Q .non H',rt:=Q } (dh N vs) H):FnOk P w K mg base CX0 (k+1) f fd ps sp:=by
 obtain ⟨oc,od,kV,doc,pm,an,cdv,ct,osl,rfl,lk,hcd⟩:=F.ex
 refine Fp lk hcd S len fun A outer s H vs Q E hr hsp=>?_
 obtain ⟨t,h,q⟩:=hbody cdv A outer s H vs Q E hr hsp
 exact ⟨t,h.nox,q⟩
theorem Fun.binds {x:Str}(F:Fun K x qual st f fd)
  (h:∀ (kV doc pm:Value) (an:Option Addr) (cdv ct:Value) (us:List Value),us.length=ps.length->bindArgs (PySem.W.fnOf x qual (dl st) (bT st) (aj st) .none kV doc pm an cdv ct) ⟨us,[]⟩=pure (ps.zip us)):Binds K fd ps []:=by
 obtain ⟨oc,od,kV,doc,pm,an,cdv,ct,osl,rfl,lk,hcd⟩:=F.ex
 exact .all (h kV doc pm an cdv ct)
theorem FF {x:Str}{oc:Value}{od an:Option Addr}{osl:Array (Option Value)}{kV doc pm cdv ct:Value}(l:K.lookup f=some ⟨oc,od,.func (PySem.W.fnOf x qual (dl st) (bT st) (aj st) .none kV doc pm an cdv ct),osl⟩)
  (c:PySem.W.codeIn K cdv qual=true) (k:PySem.W.keepIn K (.ref f)=true):Fun K x qual st f (PySem.W.fnOf x qual (dl st) (bT st) (aj st) .none kV doc pm an cdv ct):=⟨⟨oc,od,kV,doc,pm,an,cdv,ct,osl,rfl,l,c⟩,k⟩
end
theorem IS (hr:Room k A):A.units+1 < cLine:=Nat.lt_of_le_of_lt (Nat.add_le_add_left (by decide:1<=64) _) hr.units
theorem JV {A:Prop}(h:B):if false=true then A else B:=by
 rw [if_neg Bool.false_ne_true]
 exact h
theorem IT {A:Prop}(h:A):if true=true then A else B:=by
 rw [if_pos rfl]
 exact h
def Same (H H':Hp):Prop:=∀ b o,H b=some o->H' b=some o
theorem Same.refl (H:Hp):Same H H:=fun _ _ h=>h
theorem Same.trans {H1 H2:Hp}(a:Same H H1)(b:Same H1 H2):Same H H2:=fun c o h=>b c o (a c o h)
theorem Same.free (e:Same H H'){l:Addr}(h:H' l=Option.none):H l=Option.none:=by
 cases q:H l with
 | none=>rfl
 | some o =>
  rw [e l o q] at h
  cases h
theorem Same.seq {K:Frag}(e:Same H H')(h:SqL K H a xs):SqL K H' a xs:=by
 rcases h with (h | ⟨o,h⟩) | h
 ·exact .inl (.inl (e _ _ h))
 ·exact .inl (.inr ⟨o,e _ _ h⟩)
 ·exact .inr h
section
variable {κ:Type} [DecidableEq κ]
end
section
variable {prog:Program}    {R:Result->Shared->Prop} 
theorem lv {target:Expr}{it acc:Value}(I:Nat->Shared->Prop)
  (turn:∀ n s,I n s->wpAny (model prog w) A (pyNext it) (fun r s₁=>match r with
   | none=>R (.ok .next) s₁
   | some v=>wpAny (model prog w) A (letOwnedTupleGo target it v) (fun _ s₁'=>wpAny (model prog w) A (assign target env v) (fun _ s₂ =>
     wpAny (model prog w) A (forIn ifs true fun c r=>if r=true then do let ok ← isTrue c env (eval c env); pure (ForInStep.yield ok) else pure (ForInStep.yield r)) (fun ok s₃ =>
      if ok=true then wpAny (model prog w) A (eval elt env) (fun x s₄ =>
       wpAny (model prog w) A (call (.builtin "list.append") [acc,x]) (fun _ s₅=>∃ m,m < n/\I m s₅) (fun _ _=>False) s₄) (fun _ _=>False) s₃
      else ∃ m,m < n/\I m s₃) (fun _ _=>False) s₂) (fun _ _=>False) s₁') (fun _ _=>False) s₁) (fun _ _=>False) s)
  (n:Nat) (h:I n s) :
  codeAny (model prog w) A (.compLoop (.ListComp elt [⟨target,iter,ifs,0⟩] scope pos) 0 it acc env) R s:=by
 refine codeAny_loop rfl I (fun n s hI=>?_) n h
 show wpAny _ A ((compTurn (.ListComp elt [⟨target,iter,ifs,0⟩] scope pos) 0 it acc env).onRaise (fun x=>do noteFrame x env; theTreesLotGoes x)) _ _ s
 refine wpAny_noted ?_
 rw [compTurn_list]
 refine aaa (wpAny_standAt (aaa (aaG (turn n s hI) (fun r s₁ h₁=>?_) fun _ _ h'=>h'.elim)))
 cases r with
 | none=>exact aab h₁
 | some v =>
  refine aaa (aaG h₁ (fun _ s₁' h₁'=>?_) fun _ _ h'=>h'.elim)
  refine aaa (aaG h₁' (fun _ s₂ h₂=>aaa (aaG h₂ (fun ok s₃ h₃=>?_) fun _ _ h'=>h'.elim)) fun _ _ h'=>h'.elim)
  cases ok with
  | false=>exact aab ⟨rfl,h₃⟩
  | true =>
   exact aaa (aaa (aaG h₃ (fun x s₄ h₄=>aaa (aaG h₄ (fun _ s₅ h₅=>aab (aab ⟨rfl,h₅⟩)) fun _ _ h'=>h'.elim)) fun _ _ h'=>h'.elim))
end
def Ak (X:Cx)(ifs:List Expr)(t:TT):Prop :=
 ∀ (pins:List (Addr×Obj)) (s:Shared) (σ:St) (H:Hp) (Q:Bool->Hp->Prop),Inv X pins σ H s->t σ H Q ->
  wpAny (model X.prog X.w) X.A (forIn ifs true fun c r=>if r=true then do let ok ← isTrue c X.env (eval c X.env); pure (ForInStep.yield ok) else pure (ForInStep.yield r)) (TP X pins σ Q) X.xe s
def IU:TT:=fun _ H Q=>Q true H
theorem BM :Ak X [] IU:=fun _ _ _ H _ I h=>wpAny_tests_nil ⟨H,I,h⟩
theorem BN {c:Expr}{t:TT}(h:PT X c t):Ak X [c] t:=fun pins s σ H Q I q=>wpAny_tests_one (h pins s σ H Q I q)
def aL (X:Cx)(N:List Str)(scope:Scope)(cl:List (Str×Addr))(C:Addr)(s:Shared)(H:Hp)(fp:List Addr):Cx :=
 { X with N:=N,s₀:=s,H₀:=H,env:=compEnvC scope cl C X.env,outer:=X.stack,ex:=fp,fn:=fun _=>false,pn:=[],xe:=fun _ _=>False }
def lw (σ:St)(ixs:List Nat):St:=ixs.map fun i=>(σ[i]?).getD none
structure CompScope (X:Cx)(T F:List Str)(ixs:List Nat)(scope:Scope):Prop where
 kind:scope.kind=.function
 nocell:∀ y ∈ scope.names,y.2≠.cell
 names:∀ y ∈ scope.names,y.2=.local->scope.names.lookup y.1=some .local
 cap:∀ (j:Nat) (i:Nat) (x:Str),ixs[j]?=some i->F[j]?=some x->X.N[i]?=some x/\scope.names.lookup x=some .free
 len:ixs.length=F.length
 out:∀ y ∈ scope.names,y.2=.free->X.env.scope.names.lookup y.1=some .cell∨X.env.scope.names.lookup y.1=some .free
def am (env:Env):List (Str×NameKind)->List (Str×Addr)->List (Str×Addr)
 | [],cs=>cs
 | (n,k)::r,cs=>if k == .free then am env r ((n,(env.cells.lookup n).getD 0)::cs) else am env r cs
theorem fN (h:∀ y ∈ scope.names,y.2=.free->∃ c,env.cells.lookup y.1=some c):closureFor scope env=pure (am env scope.names []):=by
 unfold closureFor
 have gen:∀ (l:List (Str×NameKind)) (cs:List (Str×Addr)),(∀ y ∈ l,y.2=.free->∃ c,env.cells.lookup y.1=some c) ->
   (do
    let mut cs:=cs
    for (name,kind) in l do
     if kind == .free then cs:=(name,← cellOf env name)::cs
    return cs:Sem (List (Str×Addr)))=pure (am env l cs):=by
  intro l
  induction l with
  | nil=>intro cs _; rfl
  | cons p r ih =>
   intro cs hl
   obtain ⟨n,k⟩:=p
   have hr:=fun y hy=>hl y (aag _ hy)
   by_cases hk:k=.free
   ·obtain ⟨c,hc⟩:=hl (n,k) aad hk
    have hc:env.cells.lookup n=some c:=hc
    have e:=ih ((n,(env.cells.lookup n).getD 0)::cs) hr
    subst hk
    simp only [am,List.forIn_cons,hc,cellOf] at e ⊢
    simpa using e
   ·have e:=ih cs hr
    have hk':(k == NameKind.free)=false:=(by exists hk)
    simp only [am,List.forIn_cons,hk',if_neg Bool.false_ne_true] at e ⊢
    simpa using e
 exact gen scope.names [] h
theorem dm {env:Env}:∀ {l:List (Str×NameKind)} {cs:List (Str×Addr)} {x:Str} {c:Addr},(∀ y ∈ l,y.2=.free->∃ c,env.cells.lookup y.1=some c)->(∀ x c,cs.lookup x=some c->env.cells.lookup x=some c) ->
  (am env l cs).lookup x=some c->env.cells.lookup x=some c
 | [],cs,x,c,_,hc,h=>hc x c h
 | (n,k)::r,cs,x,c,hl,hc,h=>by
  have hr:=fun y hy=>hl y (aag _ hy)
  unfold am at h
  split at h
  ·rename_i hk
   have hk':k=.free:=(by exists hk)
   obtain ⟨c0,h0⟩:=hl (n,k) aad hk'
   have h0:env.cells.lookup n=some c0:=h0
   refine dm hr (fun x' c' h'=>?_) h
   rw [aaN] at h'
   split at h'
   ·rename_i e
    have e:x'=n:=(by exists e)
    subst e
    rw [h0] at h' ⊢
    simpa using h'
   ·exact hc x' c' h'
  ·exact dm hr hc h
theorem eF {env:Env}:∀ {l:List (Str×NameKind)} {cs:List (Str×Addr)} {x:Str},((x,NameKind.free) ∈ l∨∃ c,cs.lookup x=some c)->∃ c,(am env l cs).lookup x=some c
 | [],cs,x,h=>by
  rcases h with h | h
  ·cases h
  ·exact h
 | (n,k)::r,cs,x,h=>by
  unfold am
  split
  ·rename_i hk
   have hk':k=.free:=(by exists hk)
   refine eF ?_
   rcases h with h | h
   ·rcases List.mem_cons.mp h with e | h
    ·have e:x=n:=by injection e
     subst e
     exact .inr ⟨(env.cells.lookup x).getD 0,by rw [aaN]; simp⟩
    ·exact .inl h
   ·obtain ⟨c,h⟩:=h
    refine .inr ?_
    rw [aaN]
    split
    ·exact ⟨_,rfl⟩
    ·exact ⟨c,h⟩
  ·rename_i hk
   refine eF ?_
   rcases h with h | h
   ·rcases List.mem_cons.mp h with e | h
    ·have e:NameKind.free=k:=by injection e
     subst e
     simp at hk
    ·exact .inl h
   ·exact .inr h
theorem dq {env:Env}:∀ {names:List (Str×NameKind)} {x:Str} {q:NameKind},
  (names.map fun (n,k)=>if (k == NameKind.free && env.scope.kind == .function && env.kindOf n == some .cell) then (n,NameKind.cell) else (n,k)).lookup x=some q ->
  names.lookup x=some q∨(q=.cell/\names.lookup x=some .free)
 | [],_,_,h=>by simp at h
 | (n,k)::r,x,q,h=>by
  have ih:=@dq env r x q
  rw [List.map_cons] at h
  dsimp only at h
  by_cases hc:(k == NameKind.free && env.scope.kind == .function && env.kindOf n == some .cell)=true
  ·rw [if_pos hc,aaN] at h
   rw [aaN]
   cases hx:x == n with
   | true =>
    rw [hx] at h
    have hk:k=.free:=by
     simp only [Bool.and_eq_true] at hc
     simpa using hc.1.1
    exact .inr ⟨(aaj h).symm,by rw [hk]⟩
   | false=>rw [hx] at h; exact ih h
  ·rw [if_neg hc,aaN] at h
   rw [aaN]
   cases hx:x == n with
   | true=>rw [hx] at h; exact .inl h
   | false=>rw [hx] at h; exact ih h
theorem gA {env:Env}:∀ {names:List (Str×NameKind)} {x:Str},names.lookup x=some .free ->
  (names.map fun (n,k)=>if (k == NameKind.free && env.scope.kind == .function && env.kindOf n == some .cell) then (n,NameKind.cell) else (n,k)).lookup x=some .cell ∨
  (names.map fun (n,k)=>if (k == NameKind.free && env.scope.kind == .function && env.kindOf n == some .cell) then (n,NameKind.cell) else (n,k)).lookup x=some .free
 | [],_,h=>by simp at h
 | (n,k)::r,x,h=>by
  have ih:=@gA env r x
  rw [List.map_cons]
  dsimp only
  rw [aaN] at h
  by_cases hc:(k == NameKind.free && env.scope.kind == .function && env.kindOf n == some .cell)=true
  ·rw [if_pos hc,aaN]
   cases hx:x == n with
   | true=>exact .inl rfl
   | false=>rw [hx] at h; exact ih h
  ·rw [if_neg hc,aaN]
   cases hx:x == n with
   | true=>rw [hx] at h; exact .inr h
   | false=>rw [hx] at h; exact ih h
def eL (no:Nat)(ixs:List Nat)(wi:TI)(g:TG)(tc:TT)(te:TE):TE:=fun σ H Q=>wi σ H fun J H1=>∀ D,H1 D=none->∃ W:Nat->Nat->List V->St->Hp->Prop,
 (∃ m,W 0 m [] (List.replicate no none++lw σ ixs) (upd H1 D (.lst [])))/\∀ i m acc σ' H',W i m acc σ' H' ->
  (J.stop i H'/\Q (.ref D) H') ∨
  (J.go i H'/\∃ N:List V->St->Hp->Prop,(∀ acc' σ2 H2,N acc' σ2 H2->∃ m',m' < m/\W (i+1) m' acc' σ2 H2) /\
   ∀ x H2,J.yld i H' x H2->g x σ' H2 fun σ3 H3=>tc σ3 H3 fun b H4=>if b=true then te σ3 H4 fun y H5=>H5 D=some (.lst acc)/\acc.length < sizeLine/\N (acc++[y]) σ3 (upd H5 D (.lst (acc++[y]))) else N acc σ3 H4)
section
variable         {fp:List Addr}
theorem BP (I:Inv X pins σ H s)(S:CompScope X T F ixs scope)(hfp:∀ b ∈ fp,nF X pins H b)(hfo:∀ b ∈ fp,∃ o,s.heap.get? b=some o) :
  (aL X (T++F) scope (am X.env scope.names []) s.heap.objs.size s H fp).Ok:=by
 have hall:∀ y ∈ scope.names,y.2=.free->∃ c,X.env.cells.lookup y.1=some c:=fun y hy hf=>by
  rcases S.out y hy hf with e | e
  ·exact I.ok.has _ (.inl e)
  ·exact I.ok.has _ (.inr e)
 have hcl:∀ x c,(am X.env scope.names []).lookup x=some c->X.env.cells.lookup x=some c:=fun x c h=>dm hall (fun _ _ z=>by simp at z) h
 refine ⟨I.ok.mod,S.kind,I.ok.glob,I.ok.blt,aac _,fun x y c h1 h2=>I.ok.inj x y c (hcl x c h1) (hcl y c h2),fun x hx=>?_,fun _ _ z=>(nomatch z),I.ok.hd,I.ok.frames,.inl rfl,fun b hb=>⟨?_,fun x c e=>?_⟩,I.bs,aaq I.ok.bsz I.sz,fun b o e hb=>?_,fun b hb hz=>?_,I.stack,I.stkFree⟩
 ·have hx:(relabel scope X.env).names.lookup x=some .cell∨(relabel scope X.env).names.lookup x=some .free:=hx
  have hf:scope.names.lookup x=some .free:=by
   rcases hx with hx | hx
   ·rcases dq hx with q | ⟨_,q⟩
    ·exact absurd rfl (S.nocell _ (aaO q))
    ·exact q
   ·rcases dq hx with q | ⟨z,_⟩
    ·exact q
    ·cases z
  exact eF (.inl (aaO hf))
 ·obtain ⟨o,ho⟩:=hfo b hb
  exact aal (aaf ho)
 ·exact (hfp b hb).2.2.2.2.1 x c (hcl x c e)
 ·rcases (hfp b hb).2.2.2.1 with z | z
  ·exact I.ok.noex b o e z
  ·exact absurd (aan (aaf e) (aaq I.ok.bsz z)) (aaI _)
 ·rcases List.mem_cons.mp (I.stkSub b hz) with e | z
  ·exact (hfp b hb).2.1 e
  ·exact (hfp b hb).2.2.1 z
theorem rR {j:Nat}(h:(lw σ ixs)[j]?=some (some v)):∃ i,ixs[j]?=some i/\σ[i]?=some (some v):=by
 unfold lw at h
 rw [List.getElem?_map] at h
 cases e:ixs[j]? with
 | none=>rw [e] at h; cases h
 | some i =>
  rw [e] at h
  refine ⟨i,rfl,?_⟩
  have h:(σ[i]?).getD none=some v:=aaj h
  cases q:σ[i]? with
  | none=>rw [q] at h; cases h
  | some u=>rw [q] at h; exact congrArg some h
theorem nM (I:Inv X pins σ H s)(S:CompScope X T F ixs scope)(hfp:∀ b ∈ fp,nF X pins H b)(hfo:∀ b ∈ fp,∃ o,s.heap.get? b=some o){h':Heap}{t':Nat}{m:Str->Option Value}
  (hk:∀ b o,s.heap.get? b=some o->h'.get? b=some o) (hn:h'.Ns s.heap.objs.size m) :
  Inv (aL X (T++F) scope (am X.env scope.names []) s.heap.objs.size s H fp) [] (List.replicate T.length none++lw σ ixs) H { s with heap:=h',toks:=t' }:=by
 have ok:=BP I S hfp hfo
 have hall:∀ y ∈ scope.names,y.2=.free->∃ c,X.env.cells.lookup y.1=some c:=fun y hy hf=>by
  rcases S.out y hy hf with e | e
  ·exact I.ok.has _ (.inl e)
  ·exact I.ok.has _ (.inr e)
 have hcl:∀ x c,(am X.env scope.names []).lookup x=some c->X.env.cells.lookup x=some c:=fun x c h=>dm hall (fun _ _ z=>by simp at z) h
 have cellK:∀ c v,s.heap.IsCell c v->h'.IsCell c v:=fun c v ⟨o,ho,hd⟩=>⟨o,hk c o ho,hd⟩
 refine ⟨ok,rfl,I.bare,Un.kept hk,⟨m,hn,fun j x v e1 e2 e3=>?_⟩,fun x c e=>?_,I.hok.fresh (aac _),fun x c e=>I.freeC x c (hcl x c e),fun p hp=>absurd (show p ∈ ([]:List (Addr×Obj)) from hp) (by simp),I.hok.kept hk,?_⟩
 ·have hj:T.length<=j:=by
   refine Nat.le_of_not_lt fun hj=>?_
   rw [List.getElem?_append_left (by exists hj),List.getElem?_replicate] at e2
   split at e2 <;> cases e2
  rw [List.getElem?_append_right (by exists hj),aay] at e2
  have e1:(T++F)[j]?=some x:=e1
  rw [List.getElem?_append_right hj] at e1
  obtain ⟨i,hi,hv⟩:=rR e2
  obtain ⟨hN,hf⟩:=S.cap _ i x hi e1
  obtain ⟨m0,hn0,hl⟩:=I.loc
  have hm:=aaO hf
  have hvis:X.env.scope.names.lookup x=some .cell∨X.env.scope.names.lookup x=some .free:=S.out _ hm rfl
  obtain ⟨u,ru,lk⟩:=hl i x v hN hv (hvis.elim (fun z=>.inr (.inl z)) fun z=>.inr (.inr z))
  refine ⟨u,ru,?_⟩
  rcases lk with ⟨kl,_⟩ | ⟨_,c,hc,hcell⟩
  ·have kl:X.env.scope.names.lookup x=some .local:=kl
   rcases hvis with z | z
   ·rw [kl] at z; cases z
   ·rw [kl] at z; cases z
  ·obtain ⟨c',hc'⟩:=eF (env:=X.env) (cs:=[]) (.inl hm)
   have e:c'=c:=by
    have:=hcl x c' hc'
    rw [hc] at this
    exact (aaj this).symm
   subst e
   exact .inr ⟨gA hf,c',hc',cellK c' _ hcell⟩
 ·obtain ⟨v,q⟩:=I.cell x c (hcl x c e)
  exact ⟨v,cellK c v q⟩
 ·show _=(T++F).length
  rw [List.length_append,aay,List.length_append,lw,List.length_map,S.len]
theorem nN {pos':Pos}{g:TG}(hc:X.calm=true)(S:CompScope X T F ixs scope)
  (hi:PI X tg iter wi)
  (hg:∀ C s H fp,PG (aL X (T++F) scope (am X.env scope.names []) C s H fp) tg g)
  (ht:∀ C s H fp,Ak (aL X (T++F) scope (am X.env scope.names []) C s H fp) ifs tc)
  (he:∀ C s H fp,PE (aL X (T++F) scope (am X.env scope.names []) C s H fp) elt te)
  (hs:∀ x,foldedSetIterable iter X.env x=pure x) {use:Option (Value->Sem Unit)} {QQ:Value->Shared->Prop}      (I:Inv X pins σ H s) (h:eL T.length ixs wi g tc te σ H Q)
  (fine:∀ (D C:Addr) (H5:Hp) (s6:Shared) (f:Flow),(∃ m,s6.heap.Ns C m)->H5 C=none->C≠X.env.locals->(∀ x c,X.env.cells.lookup x=some c->c≠C)->X.s₀.heap.objs.size<=C->(∀ p ∈ X.pn++pins,p.1≠C) ->
   (∀ h7,Heap.SameBut C s6.heap h7->Inv X pins σ H5 { s6 with heap:=h7 })->Q (.ref D) H5->compPost (model X.prog X.w) X.A X.xe use QQ (.ref D) C (.ok f) s6) :
  wpAny (model X.prog X.w) X.A (comprehension (.ListComp elt [⟨tg,iter,ifs,0⟩] scope pos) scope X.env pos' (newList []) false (eval iter X.env) use) QQ X.xe s:=by
 have hall:∀ y ∈ scope.names,y.2=.free->∃ c,X.env.cells.lookup y.1=some c:=fun y hy hf=>by
  rcases S.out y hy hf with e | e
  ·exact I.ok.has _ (.inl e)
  ·exact I.ok.has _ (.inr e)
 refine wpAny_comprehension_free (use:=use) (cl:=am X.env scope.names []) rfl hs (fN hall) S.kind S.names (thn (hi pins s σ H _ I h) fun v s1 h1=>thn h1 fun itv s2 h2=>?_)
 obtain ⟨it,fp,tn,J,H2,e,I2,TT,st2,f2,q2⟩:=h2
 subst e
 refine aaF ?_
 -- the list is laid
 have I3:Inv X pins σ (upd H2 s2.heap.objs.size (.lst [])) { s2 with heap:=s2.heap.push { cls:=.type "list", dict:=none,data:=.seq ([]:List Value).toArray } } :=
  I2.laid (t':=s2.toks) (fun b u q=>Heap.get?_push_of_some _ q) (aac _) ⟨aam _,[],0,.nil,Heap.get?_push_size _ rfl⟩
 have hD:H2 s2.heap.objs.size=none:=I2.hok.fresh (aac _)
 have hfo:∀ b ∈ fp,∃ o,s2.heap.get? b=some o:=fun b hb=>let ⟨o,e,_⟩:=TT.obj _ _ st2 b hb; ⟨o,e⟩
 have neD:∀ b ∈ fp,b≠s2.heap.objs.size:=fun b hb=>by obtain ⟨o,e⟩:=hfo b hb; exact aal (aaf e)
 have f3:∀ b ∈ fp,nF X pins (upd H2 s2.heap.objs.size (.lst [])) b:=fun b hb=>by
  obtain ⟨a1,a2⟩:=f2 b hb
  exact ⟨by rw [aU (neD b hb)]; exact a1,a2⟩
 obtain ⟨W,⟨m0,w0⟩,turn⟩:=q2 s2.heap.objs.size hD
 generalize hs3:({ s2 with heap:=s2.heap.push { cls:=.type "list", dict:=none,data:=.seq ([]:List Value).toArray } }:Shared)=s3 at I3 ⊢
 generalize hH3:upd H2 s2.heap.objs.size (.lst [])=H3 at I3 f3 w0
 have hfo3:∀ b ∈ fp,∃ o,s3.heap.get? b=some o:=fun b hb=>by
  obtain ⟨o,e⟩:=hfo b hb
  rw [← hs3]
  exact ⟨o,Heap.get?_push_of_some _ e⟩
 have st3:tn 0 s3.heap:=TT.keep _ _ _ st2 fun b hb o e=>by rw [← hs3]; exact Heap.get?_push_of_some _ e
 refine wpAny_newFunctionEnv S.nocell (by intro y hy; simp at hy) (fun h4 hns4 hsb4=>?_) S.kind
 have old:∀ b o,s3.heap.get? b=some o->h4.get? b=some o:=fun b o e=>hsb4.extBut b o (aal (aaf e)) (Heap.get?_push_of_some _ e)
 have J4:=nM I3 S f3 hfo3 (t':=s3.toks+([]:List (Str×Value)).length) old hns4
 generalize hs4:({ s3 with heap:=h4,toks:=s3.toks+([]:List (Str×Value)).length }:Shared)=s4 at J4 ⊢
 have st4:tn 0 s4.heap:=by rw [← hs4]; exact TT.keep _ _ _ st3 fun b hb o e=>old b o e
 have hg':=hg s3.heap.objs.size s3 H3 fp
 have ht':=ht s3.heap.objs.size s3 H3 fp
 have he':=he s3.heap.objs.size s3 H3 fp
 generalize hY:aL X (T++F) scope (am X.env scope.names []) s3.heap.objs.size s3 H3 fp=Y at J4 hg' ht' he'
 have yA:Y.A=X.A:=by rw [← hY]; rfl
 have yP:Y.prog=X.prog:=by rw [← hY]; rfl
 have yW:Y.w=X.w:=by rw [← hY]; rfl
 have yK:Y.K=X.K:=by rw [← hY]; rfl
 have yC:Y.calm=true:=by rw [← hY]; exact hc
 have yE:Y.env=compEnvC scope (am X.env scope.names []) s3.heap.objs.size X.env:=by rw [← hY]; rfl
 have yX:Y.xe=fun _ _=>False:=by rw [← hY]; rfl
 have fY:∀ {H':Hp},(∀ b ∈ fp,H' b=none)->∀ b ∈ fp,nF Y [] H' b:=fun hn b hb=>by
  have k:=J4.ok
  rw [← hY] at k ⊢
  exact ⟨hn b hb,(k.exf b hb).1,k.exfs b hb,.inl hb,(k.exf b hb).2,fun p hp=>absurd (show p ∈ ([]:List (Addr×Obj)) from hp) (by simp)⟩
 have loop:codeAny (model X.prog X.w) X.A (.compLoop (.ListComp elt [⟨tg,iter,ifs,0⟩] scope pos) 0 (.ref it) (.ref s2.heap.objs.size) (compEnvC scope (am X.env scope.names []) s3.heap.objs.size X.env))
   (compPost (model X.prog X.w) X.A X.xe use QQ (.ref s2.heap.objs.size) s3.heap.objs.size) s4:=by
  refine lv (fun n s'=>∃ i acc σ' H',Inv Y [] σ' H' s'/\tn i s'.heap/\(∀ b ∈ fp,H' b=none)/\W i n acc σ' H') ?_ m0 ⟨0,[],_,H3,J4,st4,fun b hb=>(f3 b hb).1,w0⟩
  rintro n s5 ⟨i,acc,σ5,H5,J5,st5,fr5,w5⟩
  rcases turn i n acc σ5 H5 w5 with ⟨stop,qn⟩ | ⟨go,N,hN,step⟩
  ·have fin:=TT.done Y yP yW yK yC i [] s5 σ5 H5 (fun _ _=>False) J5 (fY fr5) st5 stop
   rw [yA] at fin
   refine thn fin fun r s6 ⟨hr,J6⟩=>?_
   subst hr
   -- the block is left
   obtain ⟨m,hm,_⟩:=id J6.loc
   have hm:s6.heap.Ns s3.heap.objs.size m:=by rw [yE] at hm; exact hm
   have hb6:=J6.base
   have hos:=J6.os
   have hfree:=J6.free
   have hbare:=J6.bare
   have hok6:HOk X.prog X.w H5 s6.heap:=by have:=J6.hok; rw [yP,yW] at this; exact this
   rw [yE] at hfree
   have hfree:H5 s3.heap.objs.size=none:=hfree
   rw [← hY] at hb6 hos
   have hb6:Un (frs X.stack) fp H3 H5 s3.heap s6.heap:=hb6
   have hos:s6.os=s3.os:=hos
   have ltC:∀ b o,s3.heap.get? b=some o->b≠s3.heap.objs.size:=fun b o e=>aal (aaf e)
   refine fine _ _ H5 s6 _ ⟨m,hm⟩ hfree ?hl ?hcl I3.sz ?hpn (fun h7 hsb7=>?_) qn
   case hl=>exact fun z=>aaI _ (z ▸ I3.lt)
   case hcl=>exact fun x c e z=>by obtain ⟨v,o,ho,_⟩:=I3.cell x c e; exact ltC c o ho z
   case hpn=>exact fun p hp z=>ltC p.1 p.2 (I3.pin p hp).1 z
   have same:∀ b,b < s3.heap.objs.size->h7.get? b=s6.heap.get? b:=fun b hb=>hsb7.2 b (aal hb)
   have hok7:HOk X.prog X.w H5 h7:=fun b o e=>by
    refine (hok6 b o e).stay (fun c w' hc q=>(hsb7.2 c ?_).trans q) (fun _ q=>q) fun _ _ q=>q
    rintro rfl
    rcases hc with z | z
    ·rw [← z,hfree] at e; cases e
    ·rw [hfree] at z; cases z
   have un7:Un (frs X.stack) fp H3 H5 s3.heap h7 :=
    ⟨fun b o e n hb hx=>(same b (aaf e)).trans (hb6.keep b o e n hb hx),fun b o e n hb hx=>by
     obtain ⟨sl,q⟩:=hb6.slot b o e n hb hx
     exact ⟨sl,(same b (aaf e)).trans q⟩,hb6.free,fun b o e hx=>by
     obtain ⟨o',q⟩:=hb6.there b o e hx
     exact ⟨o',(same b (aaf e)).trans q⟩,hb6.tups,hb6.frzs,hb6.tbls⟩
   exact I3.call' (s':={ s6 with heap:=h7 }) hos un7 hok7 hbare fun b hb=>by
    obtain ⟨_,a2,a3,a4,a5,a6⟩:=f3 b hb
    exact ⟨a4,a2,a5,a6⟩
  ·have nx:=TT.item Y yP yW yK yC i [] s5 σ5 H5 (fun _ _=>False) J5 (fY fr5) st5 go
   rw [yA] at nx
   refine thn nx fun r s6 ⟨u,hr,h6⟩=>?_
   subst hr
   refine thn h6 fun _ s7 ⟨x,H7,J7,r7,y7,st7,fr7⟩=>?_
   have J7':=J7.pinned (fY fr7) (TT.obj _ _ st7)
   have asg:=hg' _ s7 σ5 H7 x u _ J7' r7 (step x H7 y7)
   rw [yA,yP,yW,yE,yX] at asg
   refine thn asg fun _ s8 ⟨σ8,H8,J8,q8⟩=>?_
   have tst:=ht' _ s8 σ8 H8 _ J8 q8
   rw [yA,yP,yW,yE,yX] at tst
   refine thn tst fun b s9 ⟨H9,J9,q9⟩=>?_
   have again:∀ {s':Shared} {acc':List V} {σ':St} {H':Hp},Inv Y ([]++gz fp s7.heap) σ' H' s'->N acc' σ' H'->∃ m,m < n/\∃ i acc σ' H',Inv Y [] σ' H' s'/\tn i s'.heap/\(∀ b ∈ fp,H' b=none)/\W i m acc σ' H':=fun {s' acc' σ' H'} K7 n7=>by
    obtain ⟨m',hm,w7⟩:=hN acc' σ' H' n7
    refine ⟨m',hm,i+1,acc',σ',H',K7.unpinned,TT.keep _ _ _ st7 fun b hb o e=>(K7.pin (b,o) (aao _ (aao _ (cI hb e)))).1,fun b hb=>?_,w7⟩
    obtain ⟨o,e,d⟩:=TT.obj _ _ st7 b hb
    exact (K7.pin (b,o) (aao _ (aao _ (cI hb e)))).2.1
   cases b with
   | false =>
    rw [if_neg Bool.false_ne_true] at q9 ⊢
    exact again J9 q9
   | true =>
    rw [if_pos rfl] at q9 ⊢
    have elv:=he' _ s9 σ8 H9 _ J9 q9
    rw [yA,yP,yW,yE,yX] at elv
    refine thn elv fun u10 s10 ⟨y,H10,J10,r10,q10⟩=>?_
    obtain ⟨hl,hz,qN⟩:=q10
    have app:=ig (X:=Y) ([]++gz fp s7.heap) s10 σ8 H10 (.ref s2.heap.objs.size) [y] (.ref s2.heap.objs.size) [u10] (fun _ H'=>N (acc++[y]) σ8 H') J10 rfl (.cons r10 .nil) ⟨_,acc,y,rfl,rfl,hl,hz,qN⟩
    rw [yA,yP,yW,yX] at app
    exact thn app fun _ s11 ⟨_,H11,J11,_,q11⟩=>again J11 q11
 exact codeAny_compStart_list loop (TT.self _ 0 _ _ _ st4 loop)
theorem BQ {g:TG}(hc:X.calm=true)(S:CompScope X T F ixs scope)
  (hi:PI X tg iter wi)
  (hg:∀ C s H fp,PG (aL X (T++F) scope (am X.env scope.names []) C s H fp) tg g)
  (ht:∀ C s H fp,Ak (aL X (T++F) scope (am X.env scope.names []) C s H fp) ifs tc)
  (he:∀ C s H fp,PE (aL X (T++F) scope (am X.env scope.names []) C s H fp) elt te)
  (hs:autoParam (∀ x,foldedSetIterable iter X.env x=pure x) L2.aI._auto_1) :
  PE X (.ListComp elt [⟨tg,iter,ifs,0⟩] scope pos) (eL T.length ixs wi g tc te):=by
 intro pins s σ H Q I h
 rw [eval_ListComp]
 exact nN hc S hi hg ht he hs I h fun D C H5 s6 f ⟨m,hm⟩ _ _ _ _ _ inv q=>⟨m,hm,fun h7 k=>⟨.ref D,H5,inv h7 k,rfl,q⟩⟩
theorem BR {i:Nat}{py spos:Pos}{g:TG}(hc:X.calm=true)(S:CompScope X T F ixs scope)
  (hi:PI X tg iter wi)
  (hg:∀ C s H fp,PG (aL X (T++F) scope (am X.env scope.names []) C s H fp) tg g)
  (ht:∀ C s H fp,Ak (aL X (T++F) scope (am X.env scope.names []) C s H fp) ifs tc)
  (he:∀ C s H fp,PE (aL X (T++F) scope (am X.env scope.names []) C s H fp) elt te)
  (hs:∀ x,foldedSetIterable iter X.env x=pure x) (hN:X.N.Nodup) (hix:X.N[i]?=some y) (hx:Loc X.env.scope y)
  (hsw:swapsWith (.ListComp elt [⟨tg,iter,ifs,0⟩] scope pos) (some (.Name y py)) spos.line X.env=pure true) (hf:X.fn y=true∨X.env.scope.names.lookup y=some .local) :
  PS X (.Assign [.Name y py] (.ListComp elt [⟨tg,iter,ifs,0⟩] scope pos) spos) (pO (eL T.length ixs wi g tc te) (fJ i)):=by
 intro pins s σ H D I h
 rw [exec_Assign_Name_used _ _ _ _ hsw]
 refine aaa (wpAny_standAt (aaa ?_))
 show wpAny _ X.A (do let _ ← comprehension (.ListComp elt [⟨tg,iter,ifs,0⟩] scope pos) scope X.env _ (newList []) false (eval iter X.env) (some (assign (.Name y py) X.env))) _ _ s
 refine aaa (thn (nN (use:=some (assign (.Name y py) X.env)) (QQ:=fun _ s'=>SP X pins D .next s') hc S hi hg ht he hs I h fun D' C H5 s6 f ⟨m,hm⟩ fC lC cC zC pC inv q=>?_) fun _ s' hq=>aab (aab hq))
 have I6:Inv X pins σ H5 s6:=inv s6.heap (Heap.SameBut.refl _ _)
 refine wpAny_assign_Name (hU I6 hN hix hx (show RelV (.ref D') (.ref D') from rfl) (fun s7 I7 ⟨a,sb,ha⟩=>?_) hf)
 have aC:C≠a:=by
  rcases ha with rfl | ha
  ·exact lC
  ·exact fun z=>cC y a ha z.symm
 refine ⟨m,hm.sameBut sb aC,fun h8 k8=>⟨_,H5,?_,q⟩⟩
 exact I7.turned (t':=s7.toks) (fun b o hb e=>(k8.2 b hb).trans e) fC lC (.inr zC) cC pC
end
def Its (z:Str):It:=⟨fun i _=>i < z.cps.size,fun i H x H'=>H'=H/\∃ c,z.cps.toList[i]?=some c/\x=.str ⟨#[c]⟩,fun i _=>i=z.cps.size⟩
theorem nO   {K:Frag}  (nm:String) (hnm:["enumerate", "zip", "dict_itemiterator", "dict_reverseitemiterator", "odict_iterator", "itertools.zip_longest", "itertools.pairwise"].contains nm=false) (it:Addr) (z:Str) (t:Tok)
  (W:∀ A:Around,A.handled=none->Walks P w A it [it] [it] z.cps.size (SignAt z) (fun i h=>h.IsStrIter it nm z t i))
  (hself:∀ (A:Around) (i:Nat) (s:Shared) (Q:Value->Shared->Prop) (E:Value->Shared->Prop),s.heap.IsStrIter it nm z t i->Q (.ref it) s->wpAny (model P w) A (pyIter (.ref it)) Q E s):Turn P w K tg (Its z) [it] it (fun i h=>h.IsStrIter it nm z t i) where
 mem:=by simp
 obj:=fun i h st b hb=>by
  have e:b=it:=(by exists hb)
  subst e
  obtain ⟨o,e,c,d⟩:=st
  exact ⟨o,e,fun v q=>by rw [d] at q; cases q⟩
 keep:=fun i h h' st k=>by
  obtain ⟨o,e,r⟩:=st
  exact ⟨o,k it (by simp) o e,r⟩
 item:=by
  intro X hP hw hK hc i pins s σ H E I hf st hg
  subst hP hw hK
  obtain ⟨f0,f1,f2,f3,f4,f5⟩:=hf it (by simp)
  refine (W X.A (I.ok.hd hc)).item i s _ _ hg st fun v h' tk hv st' kk=>?_
  obtain ⟨c,u,hcx,rfl⟩:=hv
  have I1:Inv X pins σ H { s with heap:=h',toks:=tk }:=I.turned (fun b o hb e=>kk b o (by exists hb) e) f0 f1 f3 f4 f5
  obtain ⟨o,e,cl,d⟩:=id st'
  exact ⟨_,rfl,wj (s:={ s with heap:=h',toks:=tk }) e cl d hnm ⟨.str ⟨#[c]⟩,H,I1,⟨u,rfl⟩,⟨rfl,c,(by exists hcx),rfl⟩,st',fun b hb=>(hf b hb).1⟩⟩
 done:=by
  intro X hP hw hK hc i pins s σ H E I hf st hg
  subst hP hw hK
  obtain ⟨f0,f1,f2,f3,f4,f5⟩:=hf it (by simp)
  have hg:i=z.cps.size:=hg
  subst hg
  exact (W X.A (I.ok.hd hc)).done s _ _ st fun h' tk kk=>⟨rfl,I.turned (fun b o hb e=>kk b o (by exists hb) e) f0 f1 f3 f4 f5⟩
 self:=fun A i s Q E st h=>hself A i s Q E st h
def IV (tl:TE):TI:=fun σ H R=>tl σ H fun x H1=>∃ z,x=.str z/\R (Its z) H1
theorem FH {l:Expr}{tl:TE}(hl:PE X l tl):PI X tg l (IV tl):=by
 intro pins s σ H R I h
 refine thn (hl pins s σ H _ I h) fun v s1 ⟨x,H1,I1,r1,q1⟩=>?_
 obtain ⟨z,e,q⟩:=q1
 subst e
 obtain ⟨t,rfl⟩:=r1
 have fp:∀ b ∈ [s1.heap.objs.size],nF X pins H1 b:=fun b hb=>by
  have e:b=s1.heap.objs.size:=(by exists hb)
  subst e
  exact I1.fpOk (aac _) (I1.hok.fresh (aac _))
 cases ha:z.cps.all (· < 128)
 ·exact wpAny_pyIter_wide ha ⟨s1.heap.objs.size,[s1.heap.objs.size],_,_,H1,rfl,I1.kept (t':=s1.toks) fun b o e=>Heap.get?_push_of_some _ e,nO "str_iterator" (by decide) _ z t (fun A hA=>Walks.strWide hA _ z t) (fun _ _ _ _ _ st h=>wpAny_pyIter_striter_wide st h),⟨_,Heap.get?_push_size _ rfl,rfl,rfl⟩,fp,q⟩
 ·exact wpAny_pyIter_ascii ha ⟨s1.heap.objs.size,[s1.heap.objs.size],_,_,H1,rfl,I1.kept (t':=s1.toks) fun b o e=>Heap.get?_push_of_some _ e,nO "str_ascii_iterator" (by decide) _ z t (fun A hA=>Walks.strAscii hA _ z t) (fun _ _ _ _ _ st h=>wpAny_pyIter_striter_ascii st h),⟨_,Heap.get?_push_size _ rfl,rfl,rfl⟩,fp,q⟩
section
variable {no:Nat}  {g:TG}      {D:Addr}
end
def isT (t T:String):Bool:=t == T || (t == "bool" && T == "int")
def okT (T:String):Prop:=T = "str" ∨ T = "int" ∨ T = "bool" ∨ T = "list" ∨ T = "tuple" ∨ T = "dict" ∨ T = "NoneType"
theorem FJ {K:Frag}{t T:String}(ht:okT t)(hT:okT T):PySem.W.kitOne K (.type t) (.type T)=some (isT t T):=by
 rcases ht with rfl | rfl | rfl | rfl | rfl | rfl | rfl <;> rcases hT with rfl | rfl | rfl | rfl | rfl | rfl | rfl <;> rfl
theorem mT (bs:List Bool):TruthOf P w A (fun i v=>∃ b,bs[i]?=some b/\v=Value.bool b) (fun i=>bs.getD i false):=by
 intro i v s Q E hP hQ
 obtain ⟨b,hb,rfl⟩:=hP
 have e:bs.getD i false=b:=by rw [List.getD_eq_getElem?_getD,hb]; rfl
 exact aaL (by rw [← e]; exact hQ)
theorem rS {bs:List Bool}:(List.range bs.length).all (fun i=>bs.getD i false)=bs.all id:=by
 rw [abI,List.all_eq_true,List.all_eq_true]
 constructor
 ·intro h b hb
  obtain ⟨i,hi,e⟩:=List.mem_iff_getElem.mp hb
  have:=h i (List.mem_range.mpr hi)
  rw [List.getD_eq_getElem?_getD,List.getElem?_eq_getElem hi,e] at this
  exact this
 ·intro h i hi
  have hi:=List.mem_range.mp hi
  rw [List.getD_eq_getElem?_getD,List.getElem?_eq_getElem hi]
  exact h _ (aaS hi)
theorem wx {bs:List Bool}:∀ {us:List Value},Vals (bs.map V.bl) us->us.length=bs.length/\∀ (i:Nat) (v:Value),us[i]?=some v->∃ b,bs[i]?=some b/\v=Value.bool b:=by
 intro us r
 have hl:=r.length
 rw [List.length_map] at hl
 refine ⟨hl.symm,fun i v h=>?_⟩
 have hi:i < us.length:=(List.getElem?_eq_some_iff.mp h).1
 have hib:i < bs.length:=by nofun
 obtain ⟨u,hu,ru⟩:=r.get (i:=i) (x:=.bl bs[i]) (by simp [hib])
 rw [h] at hu
 cases hu
 exact ⟨bs[i],by simp [hib],ru⟩
theorem pX {bs:List Bool}(I:Inv X pins σ H s)(hq:SqL X.K H p (bs.map V.bl))(A:Around)(hA:A.handled=none){r:Bool}
  (fn:(List Nat)->(Nat->Bool)->Bool) (hr:fn (List.range bs.length) (fun i=>bs.getD i false)=r) (q:Q (.bl r) H) :
  wpAny (model X.prog X.w) A (pyIter (.ref p)) (fun it s₂=>∃ I fp wr n P St tr,it=.ref I/\Walks X.prog X.w A I fp wr n P St/\St 0 s₂.heap/\TruthOf X.prog X.w A P tr /\
   ∀ h' tk,(∀ b o,b ∉ wr->s₂.heap.get? b=some o->h'.get? b=some o)->EP X pins σ Q (.bool (fn (List.range n) tr)) { s₂ with heap:=h',toks:=tk }) E s:=by
 obtain ⟨its,rv,pl,hz⟩:=I.list hq
 obtain ⟨hl,hat⟩:=wx rv
 refine wpAny_pyIter_list pl.isList ?_
 have ne:p≠s.heap.objs.size:=by
  obtain ⟨o,ho,_⟩:=pl.isList
  exact aal (aaf ho)
 have hW:=Walks.list (prog:=X.prog) (w:=X.w) hA s.heap.objs.size p ne its.toArray
 have hW2:Walks X.prog X.w A s.heap.objs.size [s.heap.objs.size,p] [s.heap.objs.size] bs.length (fun i v=>∃ b,bs[i]?=some b/\v=Value.bool b) (fun i h=>h.IsListIter s.heap.objs.size p i/\h.IsList p its.toArray):=by
  have e:its.toArray.size=bs.length:=by simp [hl]
  rw [e] at hW
  exact { sub:=hW.sub,frame:=hW.frame,item:=fun i s Q E hi st hQ=>hW.item i s Q E hi st fun v h' tk hv=>hQ v h' tk (hat i v (by exists hv)),done:=hW.done,self:=hW.self }
 refine ⟨s.heap.objs.size,_,_,_,_,_,_,rfl,hW2,⟨⟨_,Heap.get?_push_size _ rfl,rfl,rfl⟩,?_⟩,mT bs,fun h' tk kk=>?_⟩
 ·obtain ⟨o,ho,r⟩:=pl.isList
  exact ⟨o,Heap.get?_push_of_some _ ho,r⟩
 ·refine ⟨.bl r,H,I.kept (h':=h') (t':=tk) fun b o e=>kk b o ?_ (Heap.get?_push_of_some _ e),by rw [← hr]; rfl,q⟩
  intro z
  have z:b=s.heap.objs.size:=(by exists z)
  exact absurd (aaf e) (by rw [z]; exact aaI _)
theorem wy (hc:X.calm=true):CallR X (.builtin "all") (fun xs H Q=>∃ (p:Addr) (bs:List Bool),xs=[.ref p]/\SqL X.K H p (bs.map V.bl)/\Q (.bl (bs.all id)) H):=by
 intro pins s σ H xs us Q I r h
 obtain ⟨p,bs,rfl,hq,q⟩:=h
 obtain ⟨u,rfl,ru⟩:=dH r
 cases ru
 exact call_all_walk (pX I hq X.A.in1 (I.ok.hd hc) (fun l f=>l.all f) rS q)
def pY (i j:Int):Prop:=0<=j/\j<=3/\i.natAbs < 2 ^ 1000
theorem BU:OpR X (binaryOp .Pow) (rI pY fun i j=>.int (i ^ j.toNat)):=opI fun i j _ _ _ _ _ hc q=>by
 refine pow_int hc.1 ?_ q
 have hb:Builtin.Int.intBits i<=1000:=intBits_le hc.2.2
 have h2:=hc.2.1
 have h1:(Builtin.Int.intBits i:Int) * j<=1000 * j:=Int.mul_le_mul_of_nonneg_right (by nofun) hc.1
 nofun
theorem pZ:OpR X (compareOp .In) (fun x y H Q=>∃ (c:Nat) (j:Str),x=.str ⟨#[c]⟩/\y=.str j/\Q (.bl (decide (c ∈ j.cps.toList))) H):=by
 intro pins s σ H x y v u Q I rx ry h
 obtain ⟨c,j,rfl,rfl,q⟩:=h
 exact rA pins s σ H _ _ v u Q I rx ry ⟨_,j,rfl,rfl,by rw [PySem.StrLaws.found_one]; exact q⟩
theorem j2:OpR X (compareOp .NotIn) (fun x y H Q=>∃ (c:Nat) (j:Str),x=.str ⟨#[c]⟩/\y=.str j/\Q (.bl (!decide (c ∈ j.cps.toList))) H):=by
 intro pins s σ H x y v u Q I rx ry h
 obtain ⟨c,j,rfl,rfl,q⟩:=h
 exact lj pins s σ H _ _ v u Q I rx ry ⟨_,j,rfl,rfl,by rw [PySem.StrLaws.found_one]; exact q⟩
theorem eX {x:Str}(h:x.cps.toList=y.cps.toList):x=y:=by
 cases x with | mk a=>cases y with | mk b=>exact congrArg Str.mk (Array.toList_inj.mp h)
theorem dt (x:Str):x.length=x.cps.toList.length:=by simp [Str.length]
theorem cM (x y:Str):(x++y).cps.toList=x.cps.toList++y.cps.toList:=by
 show (x.cps++y.cps).toList=_
 simp
def cg {α:Type}(xs:List α)(lo hi:Option Int):List α:=(xs.drop (HT.sIx xs.length 0 lo)).take (HT.sIx xs.length xs.length hi - HT.sIx xs.length 0 lo)
theorem sliceRange_one (a b:Nat):sliceRange (a:Int) (b:Int) 1=(List.range (b - a)).map fun k=>a+k:=by
 unfold sliceRange
 simp only [show (1:Int) > 0 by decide,if_true]
 have e:(if (a:Int) < (b:Int) then ((b:Int) - (a:Int)+1 - 1) / 1 else 0).toNat=b - a:=by
  split <;> (try rw [Int.ediv_one]) <;> nofun
 rw [e]
 refine abl fun k _=>?_
 nofun
theorem p5 (lo hi:Option Int)(n:Nat):Builtin.Str.strSliceIndices lo hi 1 n=(List.range (HT.sIx n n hi - HT.sIx n 0 lo)).map fun k=>HT.sIx n 0 lo+k:=by
 unfold Builtin.Str.strSliceIndices
 rw [← sliceRange_one]
 simp only [show (1:Int) > 0 by decide,if_true]
 congr 1
 ·cases lo with
  | none=>rfl
  | some v=>rw [← HT.clip_eq]; dsimp only; split <;> nofun
 ·cases hi with
  | none=>rfl
  | some v=>rw [← HT.clip_eq]; dsimp only; split <;> nofun
theorem jq {α:Type}(xs:List α)(a:Nat):∀ k:Nat,a+k<=xs.length->((List.range k).map fun j=>a+j).filterMap (fun i=>xs[i]?)=(xs.drop a).take k
 | 0,_=>by simp
 | k+1,h=>by
  have hk:a+k < xs.length:=by nofun
  rw [List.range_succ,aae,List.filterMap_append,jq xs a k (by nofun),abb]
  congr 1
  simp [List.getElem?_drop,hk]
theorem rT (x:Str)(lo hi:Option Int):(Txt.slice x lo hi).cps.toList=cg x.cps.toList lo hi:=by
 have hl:x.cps.toList.length=x.length:=by simp [Str.length]
 have h1:=HT.sIx_le x.length 0 (aam _) lo
 have h2:=HT.sIx_le x.length x.length (aac _) hi
 unfold Txt.slice cg
 rw [hl,p5]
 split
 ·rename_i hc
  simp only [beq_self_eq_true,Bool.true_and,List.length_map,List.length_range,beq_iff_eq] at hc
  have e1:HT.sIx x.length 0 lo=0:=by nofun
  have e2:HT.sIx x.length x.length hi=x.length:=by nofun
  rw [e1,e2,aaA,Nat.sub_zero,aah (by nofun)]
 ·show (List.filterMap (fun i=>x.cps[i]?) _).toArray.toList=_
  have e:(fun i:Nat=>x.cps[i]?)=fun i:Nat=>x.cps.toList[i]?:=by funext i; simp
  rw [e]
  by_cases h:HT.sIx x.length 0 lo<=HT.sIx x.length x.length hi
  ·rw [jq x.cps.toList _ _ (by rw [hl]; nofun)]
  ·have e0:HT.sIx x.length x.length hi - HT.sIx x.length 0 lo=0:=by nofun
   rw [e0]
   simp
def JW:V->Option Int->Option Int->Hp->VK->Prop:=fun x lo hi H Q=>∃ z,x=.str z/\z.length<=sizeLine/\∀ y:Str,y.cps.toList=cg z.cps.toList lo hi->Q (.str y) H
theorem FK:SlR X JW:=by
 intro pins s σ H x v vl vu lo hi sl Q I rx hs pl pu h
 obtain ⟨z,rfl,hz,q⟩:=h
 obtain ⟨t,rfl⟩:=rx
 refine ⟨"str", _,F.slot_str_getitem.lookup,typeIs_str _ _ _,?_⟩
 have fin:(Txt.slice z lo hi).length<=sizeLine/\∀ t' k,EP X pins σ Q (.str (Txt.slice z lo hi) t') { s with toks:=k } :=
  ⟨aaq (Txt.slice_le z _ _) hz,fun t' k=>⟨.str _,H,I.tok k,⟨t',rfl⟩,q _ (rT z lo hi)⟩⟩
 obtain ⟨o,ho,hc,hd⟩:=hs
 cases pl with
 | none =>
  cases pu with
  | none=>exact aa1 (l:=none) (u:=none) (st:=none) ⟨o,ho,hc,hd⟩ rfl (post_val_or_str fin)
  | int j uj=>exact aa1 (l:=none) (u:=some (j,uj)) (st:=none) ⟨o,ho,hc,hd⟩ rfl (post_val_or_str fin)
 | int i ui =>
  cases pu with
  | none=>exact aa1 (l:=some (i,ui)) (u:=none) (st:=none) ⟨o,ho,hc,hd⟩ rfl (post_val_or_str fin)
  | int j uj=>exact aa1 (l:=some (i,ui)) (u:=some (j,uj)) (st:=none) ⟨o,ho,hc,hd⟩ rfl (post_val_or_str fin)
theorem rV:∀ {zs:List Str} {us:List Value},Vals (zs.map V.str) us->∃ l:List (Str×Tok),us=strValues l/\l.map (·.1)=zs
 | [],_,r=>by
  rw [List.map_nil] at r
  cases r
  exact ⟨[],rfl,rfl⟩
 | z::zs,_,r=>by
  rw [List.map_cons] at r
  cases r with
  | cons r1 r2 =>
   obtain ⟨t,rfl⟩:=r1
   obtain ⟨l,rfl,rfl⟩:=rV r2
   exact ⟨(z,t)::l,rfl,rfl⟩
def wz (K:Frag):V->List V->Hp->VK->Prop:=fun x vs H Q=>∃ (z:Str) (p:Addr) (zs:List Str),x=.str z/\vs=[.ref p]/\SqL K H p (zs.map V.str)/\(zs.map (·.length)).sum+zs.length * z.length<=16777216/\Q (.str (Builtin.Str.glued z zs)) H
theorem BV:MtR X "str.join" (wz X.K):=by
 intro pins s σ H x vs v us Q I rx rv h
 obtain ⟨z,p,zs,rfl,rfl,hq,hz,q⟩:=h
 obtain ⟨t,rfl⟩:=rx
 obtain ⟨u,rfl,ru⟩:=dH rv
 cases ru
 obtain ⟨its,r,pl,hl⟩:=I.list hq
 obtain ⟨l,rfl,e⟩:=rV r
 exact SC.join pl.isList e (joinOk_of hz) fun t' k=>⟨.str _,H,I.tok k,⟨t',rfl⟩,q⟩
theorem lx (zs:List Str):(Builtin.Str.glued Str.empty zs).cps.toList=(zs.map fun z=>z.cps.toList).flatten:=by
 unfold Builtin.Str.glued
 have gen:∀ (l:List Str) (a:Array Nat),(l.foldl (fun acc p=>acc++Str.empty.cps++p.cps) a).toList=a.toList++(l.map fun z=>z.cps.toList).flatten:=by
  intro l
  induction l with
  | nil=>intro a; simp
  | cons y l ih=>intro a; rw [abH,ih]; simp [Str.empty]
 rw [gen]
 cases zs with
 | nil=>simp [Str.empty]
 | cons y l=>simp
inductive DV where
 | non | bl (b:Bool) | int (i:Int) | str (x:Str) | lst (xs:List DV) | tup (xs:List DV)
mutual
inductive Deep (K:Frag)(H:Hp):V->DV->Prop where
 | non:Deep K H .non .non
 | bl (b:Bool):Deep K H (.bl b) (.bl b)
 | int (i:Int):Deep K H (.int i) (.int i)
 | str (x:Str):Deep K H (.str x) (.str x)
 | lst {a:Addr} {xs:List V} {ds:List DV}:SqL K H a xs->Deeps K H xs ds->Deep K H (.ref a) (.lst ds)
 | tup {a:Addr} {xs:List V} {ds:List DV}:SqT K H a xs->Deeps K H xs ds->Deep K H (.ref a) (.tup ds)
inductive Deeps (K:Frag)(H:Hp):List V->List DV->Prop where
 | nil:Deeps K H [] []
 | cons {x:V} {d:DV} {xs:List V} {ds:List DV}:Deep K H x d->Deeps K H xs ds->Deeps K H (x::xs) (d::ds)
end
mutual
def deq:DV->DV->Bool
 | .non,.non=>true
 | .bl a,.bl b=>a == b
 | .bl a,.int b=>(if a then 1 else 0) == b
 | .int a,.bl b=>a == (if b then 1 else 0)
 | .int a,.int b=>a == b
 | .str a,.str b=>a == b
 | .lst a,.lst b=>deqs a b
 | .tup a,.tup b=>deqs a b
 | _,_=>false
def deqs:List DV->List DV->Bool
 | [],[]=>true
 | a::r,b::s=>deq a b && deqs r s
 | _,_=>false
end
mutual
def dep:DV->Nat
 | .lst a=>deps a+1
 | .tup a=>deps a+1
 | _=>0
def deps:List DV->Nat
 | []=>0
 | a::r=>max (dep a) (deps r)
end
mutual
theorem nP:∀ d:DV,deq d d=true
 | .non=>rfl
 | .bl b=>beq_self_eq_true b
 | .int i=>beq_self_eq_true i
 | .str x=>beq_self_eq_true x
 | .lst xs=>deqs_refl xs
 | .tup xs=>deqs_refl xs
theorem deqs_refl:∀ ds:List DV,deqs ds ds=true
 | []=>rfl
 | d::ds=>Bool.and_eq_true_iff.mpr ⟨nP d,deqs_refl ds⟩
end
theorem Deeps.length {K:Frag}{H:Hp}{xs:List V}{ds:List DV}(h:Deeps K H xs ds):xs.length=ds.length :=
 Deeps.rec (motive_1:=fun _ _ _=>True) (motive_2:=fun xs ds _=>xs.length=ds.length) trivial (fun _=>trivial) (fun _=>trivial) (fun _=>trivial) (fun _ _ _=>trivial) (fun _ _ _=>trivial) rfl (fun _ _ _ t=>congrArg (·+1) t) h
theorem Deeps.get {K:Frag}{H:Hp}:∀ {xs:List V} {ds:List DV} {i:Nat} {x:V},Deeps K H xs ds->xs[i]?=some x->∃ d,ds[i]?=some d/\Deep K H x d/\dep d<=deps ds
 | _,_,_,_,.nil,e=>by simp at e
 | _,_,0,_,.cons h _,e=>by
  simp at e; subst e
  exact ⟨_,rfl,h,by simp only [deps]; nofun⟩
 | _,_,i+1,x,.cons h t,e=>by
  obtain ⟨d,h1,h2,h3⟩:=Deeps.get (i:=i) (x:=x) t (by exists e)
  exact ⟨d,(by exists h1),h2,by simp only [deps]; nofun⟩
theorem jr:∀ {ds es:List DV},ds.length=es.length->(List.range ds.length).all (fun j=>deq (ds.getD j .non) (es.getD j .non))=deqs ds es:=by
 intro ds
 induction ds with
 | nil=>intro es h; cases es with
  | nil=>rfl
  | cons _ _=>simp at h
 | cons d ds ih =>
  intro es h
  cases es with
  | nil=>simp at h
  | cons e es =>
   have h':ds.length=es.length:=(by exists h)
   rw [List.length_cons,List.range_succ_eq_map,aaK,List.all_map]
   exact congrArg (deq d e && ·) (ih h')
theorem j3:∀ {ds es:List DV},ds.length≠es.length->deqs ds es=false
 | [],[],h=>absurd rfl h
 | [],_::_,_=>rfl
 | _::_,[],_=>rfl
 | d::ds,e::es,h=>by
  have h':ds.length≠es.length:=(by exists h)
  show (deq d e && deqs ds es)=false
  rw [j3 h',Bool.and_false]
theorem wA {ds es:List DV}:((List.range (min ds.length es.length)).all (fun j=>deq (ds.getD j .non) (es.getD j .non)) && ds.length == es.length)=deqs ds es:=by
 by_cases h:ds.length=es.length
 ·rw [← jr h,← h,Nat.min_self]
  simp
 ·rw [j3 h]
  simp [h]
theorem Inv.seq_inj (I:Inv X pins σ H s){ys:List V}(h:SqL X.K H a xs)(h':SqT X.K H a ys):False:=by
 obtain ⟨its,_,p,_⟩:=I.list h
 obtain ⟨its',_,p',_⟩:=I.tuple h'
 obtain ⟨o,e,c,_⟩:=p.isList
 obtain ⟨o',e',c',_⟩:=p'
 rw [e] at e'
 cases e'
 rw [c] at c'
 injection c' with z
 exact absurd z (by decide)
theorem Deep.inj (I:Inv X pins σ H s){x:V}{d e:DV}(h:Deep X.K H x d):Deep X.K H x e->d=e:=by
 refine Deep.rec (motive_1:=fun x d _=>∀ e,Deep X.K H x e->d=e) (motive_2:=fun xs ds _=>∀ es,Deeps X.K H xs es->ds=es) ?_ ?_ ?_ ?_ (fun h _ t e h'=>?_) (fun h _ t e h'=>?_) ?_ (fun _ _ h t e h'=>?_) h e
 ·intro e h'; cases h'; rfl
 ·intro _ e h'; cases h'; rfl
 ·intro _ e h'; cases h'; rfl
 ·intro _ e h'; cases h'; rfl
 ·cases h' with
  | lst h2 t' =>
   have e:=I.list_inj h h2
   subst e
   rw [t _ t']
  | tup h2 _=>exact (I.seq_inj h h2).elim
 ·cases h' with
  | tup h2 t' =>
   have e:=I.tuple_inj h h2
   subst e
   rw [t _ t']
  | lst h2 _=>exact (I.seq_inj h2 h).elim
 ·intro e h'; cases h'; rfl
 ·cases h' with | cons h2 t2=>rw [h _ h2,t _ t2]
theorem Deeps.inj (I:Inv X pins σ H s){xs:List V}{ds es:List DV}(h:Deeps X.K H xs ds):Deeps X.K H xs es->ds=es :=
 Deeps.rec (motive_1:=fun _ _ _=>True) (motive_2:=fun xs ds _=>∀ es,Deeps X.K H xs es->ds=es) trivial (fun _=>trivial) (fun _=>trivial) (fun _=>trivial) (fun _ _ _=>trivial) (fun _ _ _=>trivial) (fun es h'=>by cases h'; rfl) (fun h _ _ t es h'=>by cases h' with | cons h2 t2=>rw [h.inj I h2,t _ t2]) h es
theorem ly (I:Inv X pins σ H s):∀ (n:Nat) (d e:DV) (x y:V) (u v:Value) (A:Around),dep d<=n->A.units+n < cLine->Deep X.K H x d->Deep X.K H y e->RelV x u->RelV y v ->
  SeqAt.RcAt A s u v (deq d e)/\SeqAt.RcNeAt A s u v (!deq d e)/\SeqAt.EqAt A s u v (deq d e):=by
 intro n
 induction n with
 | zero =>
  intro d e x y u v A hd hu hx hy rx ry
  have hu0:A.units < cLine:=by nofun
  cases hx with
  | lst _ _=>simp only [dep] at hd; nofun
  | tup _ _=>simp only [dep] at hd; nofun
  | non =>
   cases rx
   cases hy with
   | non=>cases ry; exact ⟨SeqAt.RcAt.none_none,SeqAt.RcNeAt.none_none,abC _⟩
   | bl b=>cases ry; exact ⟨SeqAt.RcAt.none_bool b,SeqAt.RcNeAt.none_bool b,SeqAt.EqAt.none_bool b⟩
   | int b=>obtain ⟨t,rfl⟩:=ry; exact ⟨SeqAt.RcAt.none_int b t,SeqAt.RcNeAt.none_int b t,SeqAt.EqAt.none_int b t⟩
   | str b=>obtain ⟨t,rfl⟩:=ry; exact ⟨SeqAt.RcAt.none_str b t,SeqAt.RcNeAt.none_str b t,SeqAt.EqAt.none_str b t⟩
   | lst h _=>cases ry; obtain ⟨its,_,p,_⟩:=I.list h; exact ⟨SeqAt.RcAt.none_list p.isList hu0,SeqAt.RcNeAt.none_list p.isList hu0,SeqAt.EqAt.none_list p.isList hu0⟩
   | tup h _=>cases ry; obtain ⟨its,_,p,_⟩:=I.tuple h; exact ⟨SeqAt.RcAt.none_tuple p hu0,SeqAt.RcNeAt.none_tuple p hu0,SeqAt.EqAt.none_tuple p hu0⟩
  | bl a =>
   cases rx
   cases hy with
   | non=>cases ry; exact ⟨SeqAt.RcAt.bool_none a,SeqAt.RcNeAt.bool_none a,SeqAt.EqAt.bool_none a⟩
   | bl b=>cases ry; exact ⟨SeqAt.RcAt.bool_bool a b,SeqAt.RcNeAt.bool_bool a b,SeqAt.EqAt.bool_bool a b⟩
   | int b=>obtain ⟨t,rfl⟩:=ry; exact ⟨SeqAt.RcAt.bool_int a b t,SeqAt.RcNeAt.bool_int a b t,SeqAt.EqAt.bool_int a b t⟩
   | str b=>obtain ⟨t,rfl⟩:=ry; exact ⟨SeqAt.RcAt.bool_str a b t,SeqAt.RcNeAt.bool_str a b t,SeqAt.EqAt.bool_str a b t⟩
   | lst h _=>cases ry; obtain ⟨its,_,p,_⟩:=I.list h; exact ⟨SeqAt.RcAt.bool_list a p.isList hu0,SeqAt.RcNeAt.bool_list a p.isList hu0,SeqAt.EqAt.bool_list a p.isList hu0⟩
   | tup h _=>cases ry; obtain ⟨its,_,p,_⟩:=I.tuple h; exact ⟨SeqAt.RcAt.bool_tuple a p hu0,SeqAt.RcNeAt.bool_tuple a p hu0,SeqAt.EqAt.bool_tuple a p hu0⟩
  | int a =>
   obtain ⟨t',rfl⟩:=rx
   cases hy with
   | non=>cases ry; exact ⟨SeqAt.RcAt.int_none a t',SeqAt.RcNeAt.int_none a t',SeqAt.EqAt.int_none a t'⟩
   | bl b=>cases ry; exact ⟨SeqAt.RcAt.int_bool a t' b,SeqAt.RcNeAt.int_bool a t' b,SeqAt.EqAt.int_bool a t' b⟩
   | int b=>obtain ⟨t,rfl⟩:=ry; exact ⟨SeqAt.RcAt.int_int a t' b t,SeqAt.RcNeAt.int_int a t' b t,SeqAt.EqAt.int_int a t' b t⟩
   | str b=>obtain ⟨t,rfl⟩:=ry; exact ⟨SeqAt.RcAt.int_str a t' b t,SeqAt.RcNeAt.int_str a t' b t,SeqAt.EqAt.int_str a t' b t⟩
   | lst h _=>cases ry; obtain ⟨its,_,p,_⟩:=I.list h; exact ⟨SeqAt.RcAt.int_list a t' p.isList hu0,SeqAt.RcNeAt.int_list a t' p.isList hu0,SeqAt.EqAt.int_list a t' p.isList hu0⟩
   | tup h _=>cases ry; obtain ⟨its,_,p,_⟩:=I.tuple h; exact ⟨SeqAt.RcAt.int_tuple a t' p hu0,SeqAt.RcNeAt.int_tuple a t' p hu0,SeqAt.EqAt.int_tuple a t' p hu0⟩
  | str a =>
   obtain ⟨t',rfl⟩:=rx
   cases hy with
   | non=>cases ry; exact ⟨SeqAt.RcAt.str_none a t',SeqAt.RcNeAt.str_none a t',SeqAt.EqAt.str_none a t'⟩
   | bl b=>cases ry; exact ⟨SeqAt.RcAt.str_bool a t' b,SeqAt.RcNeAt.str_bool a t' b,SeqAt.EqAt.str_bool a t' b⟩
   | int b=>obtain ⟨t,rfl⟩:=ry; exact ⟨SeqAt.RcAt.str_int a t' b t,SeqAt.RcNeAt.str_int a t' b t,SeqAt.EqAt.str_int a t' b t⟩
   | str b=>obtain ⟨t,rfl⟩:=ry; exact ⟨SeqAt.RcAt.str_str a t' b t,SeqAt.RcNeAt.str_str a t' b t,SeqAt.EqAt.str_str a t' b t⟩
   | lst h _=>cases ry; obtain ⟨its,_,p,_⟩:=I.list h; exact ⟨SeqAt.RcAt.str_list a t' p.isList hu0,SeqAt.RcNeAt.str_list a t' p.isList hu0,SeqAt.EqAt.str_list a t' p.isList hu0⟩
   | tup h _=>cases ry; obtain ⟨its,_,p,_⟩:=I.tuple h; exact ⟨SeqAt.RcAt.str_tuple a t' p hu0,SeqAt.RcNeAt.str_tuple a t' p hu0,SeqAt.EqAt.str_tuple a t' p hu0⟩
 | succ n ih =>
  intro d e x y u v A hd hu hx hy rx ry
  have hu0:A.units < cLine:=by nofun
  have items:∀ {xs ys:List V} {ds es:List DV} {us vs:List Value},Deeps X.K H xs ds->Deeps X.K H ys es->deps ds<=n->Vals xs us->Vals ys vs->∀ j (h1:j < us.toArray.size) (h2:j < vs.toArray.size),SeqAt.EqAt A.in1 s us.toArray[j] vs.toArray[j] (deq (ds.getD j .non) (es.getD j .non)):=by
   intro xs ys ds es us vs hds hes hn rv rv' j h1 h2
   have h1':j < us.length:=(by exists h1)
   have h2':j < vs.length:=(by exists h2)
   have l1:=rv.length
   have l2:=rv'.length
   have ex:xs[j]?=some (xs[j]'(by nofun)):=List.getElem?_eq_getElem (by nofun)
   have ey:ys[j]?=some (ys[j]'(by nofun)):=List.getElem?_eq_getElem (by nofun)
   obtain ⟨d1,e1,p1,b1⟩:=hds.get ex
   obtain ⟨d2,e2,p2,b2⟩:=hes.get ey
   obtain ⟨u1,f1,r1⟩:=rv.get ex
   obtain ⟨u2,f2,r2⟩:=rv'.get ey
   have g1:us.toArray[j]=u1:=by
    have:us[j]?=some us[j]:=List.getElem?_eq_getElem h1'
    rw [f1] at this
    simpa using (aaj this).symm
   have g2:vs.toArray[j]=u2:=by
    have:vs[j]?=some vs[j]:=List.getElem?_eq_getElem h2'
    rw [f2] at this
    simpa using (aaj this).symm
   rw [g1,g2,List.getD_eq_getElem?_getD,List.getD_eq_getElem?_getD,e1,e2]
   exact (ih d1 d2 _ _ u1 u2 A.in1 (by nofun) (by show A.units+1+n < cLine; nofun) p1 p2 r1 r2).2.2
  by_cases h0:dep d<=0
  ·exact ih d e x y u v A (by nofun) (by nofun) hx hy rx ry
  cases hx with
  | non=>simp only [dep] at h0; nofun
  | bl _=>simp only [dep] at h0; nofun
  | int _=>simp only [dep] at h0; nofun
  | str _=>simp only [dep] at h0; nofun
  | @lst a xs ds h t =>
   cases rx
   simp only [dep] at hd
   obtain ⟨its,rv,p,hz⟩:=I.list h
   cases hy with
   | non=>cases ry; exact ⟨SeqAt.RcAt.list_none p.isList hu0,SeqAt.RcNeAt.list_none p.isList hu0,SeqAt.EqAt.list_none p.isList hu0⟩
   | bl b=>cases ry; exact ⟨SeqAt.RcAt.list_bool b p.isList hu0,SeqAt.RcNeAt.list_bool b p.isList hu0,SeqAt.EqAt.list_bool b p.isList hu0⟩
   | int b=>obtain ⟨t2,rfl⟩:=ry; exact ⟨SeqAt.RcAt.list_int b t2 p.isList hu0,SeqAt.RcNeAt.list_int b t2 p.isList hu0,SeqAt.EqAt.list_int b t2 p.isList hu0⟩
   | str b=>obtain ⟨t2,rfl⟩:=ry; exact ⟨SeqAt.RcAt.list_str b t2 p.isList hu0,SeqAt.RcNeAt.list_str b t2 p.isList hu0,SeqAt.EqAt.list_str b t2 p.isList hu0⟩
   | tup h' _ =>
    cases ry
    obtain ⟨its',_,p',_⟩:=I.tuple h'
    exact ⟨SeqAt.RcAt.list_tuple p.isList p' hu0,SeqAt.RcNeAt.list_tuple p.isList p' hu0,SeqAt.EqAt.list_tuple p.isList p' hu0⟩
   | @lst b ys es h' t' =>
    cases ry
    obtain ⟨its',rv',p',hz'⟩:=I.list h'
    have l1:=rv.length
    have l2:=rv'.length
    have l3:=t.length
    have l4:=t'.length
    have main:SeqAt.RcAt A s (.ref a) (.ref b) (deqs ds es)/\SeqAt.RcNeAt A s (.ref a) (.ref b) (!deqs ds es):=by
     by_cases hl:ds.length=es.length
     ·have e1:(List.range its.toArray.size).all (fun j=>deq (ds.getD j .non) (es.getD j .non))=deqs ds es:=by
       rw [← jr hl,show its.toArray.size=ds.length by simp; nofun]
      rw [← e1]
      exact ⟨SeqAt.RcAt.lists p.isList p'.isList (by simp; nofun) hu0 (items t t' (by nofun) rv rv'),SeqAt.RcNeAt.lists p.isList p'.isList (by simp; nofun) hu0 (items t t' (by nofun) rv rv')⟩
     ·rw [j3 hl]
      exact ⟨SeqAt.RcAt.lists_lengths p.isList p'.isList (by simp; nofun) hu0,SeqAt.RcNeAt.lists_lengths p.isList p'.isList (by simp; nofun) hu0⟩
    refine ⟨main.1,main.2,?_⟩
    show SeqAt.EqAt A s (.ref a) (.ref b) (deqs ds es)
    by_cases hab:a=b
    ·subst hab
     have ee:=I.list_inj h h'
     subst ee
     rw [Deeps.inj I t t',deqs_refl]
     exact abC _
    ·exact SeqAt.EqAt.of_refs hab main.1
  | @tup a xs ds h t =>
   cases rx
   simp only [dep] at hd
   obtain ⟨its,rv,p,hz⟩:=I.tuple h
   cases hy with
   | non=>cases ry; exact ⟨SeqAt.RcAt.tuple_none p hu0,SeqAt.RcNeAt.tuple_none p hu0,SeqAt.EqAt.tuple_none p hu0⟩
   | bl b=>cases ry; exact ⟨SeqAt.RcAt.tuple_bool b p hu0,SeqAt.RcNeAt.tuple_bool b p hu0,SeqAt.EqAt.tuple_bool b p hu0⟩
   | int b=>obtain ⟨t2,rfl⟩:=ry; exact ⟨SeqAt.RcAt.tuple_int b t2 p hu0,SeqAt.RcNeAt.tuple_int b t2 p hu0,SeqAt.EqAt.tuple_int b t2 p hu0⟩
   | str b=>obtain ⟨t2,rfl⟩:=ry; exact ⟨SeqAt.RcAt.tuple_str b t2 p hu0,SeqAt.RcNeAt.tuple_str b t2 p hu0,SeqAt.EqAt.tuple_str b t2 p hu0⟩
   | lst h' _ =>
    cases ry
    obtain ⟨its',_,p',_⟩:=I.list h'
    exact ⟨SeqAt.RcAt.tuple_list p p'.isList hu0,SeqAt.RcNeAt.tuple_list p p'.isList hu0,SeqAt.EqAt.tuple_list p p'.isList hu0⟩
   | @tup b ys es h' t' =>
    cases ry
    obtain ⟨its',rv',p',hz'⟩:=I.tuple h'
    have l1:=rv.length
    have l2:=rv'.length
    have l3:=t.length
    have l4:=t'.length
    have e1:((List.range (min its.toArray.size its'.toArray.size)).all (fun j=>deq (ds.getD j .non) (es.getD j .non)) && its.toArray.size == its'.toArray.size)=deqs ds es:=by
     rw [← wA,show its.toArray.size=ds.length by simp; nofun,show its'.toArray.size=es.length by simp; nofun]
    have main:SeqAt.RcAt A s (.ref a) (.ref b) (deqs ds es)/\SeqAt.RcNeAt A s (.ref a) (.ref b) (!deqs ds es):=by
     rw [← e1]
     exact ⟨SeqAt.RcAt.tuples p p' hu0 (items t t' (by nofun) rv rv'),SeqAt.RcNeAt.tuples p p' hu0 (items t t' (by nofun) rv rv')⟩
    refine ⟨main.1,main.2,?_⟩
    show SeqAt.EqAt A s (.ref a) (.ref b) (deqs ds es)
    by_cases hab:a=b
    ·subst hab
     have ee:=I.tuple_inj h h'
     subst ee
     rw [Deeps.inj I t t',deqs_refl]
     exact abC _
    ·exact SeqAt.EqAt.of_refs hab main.1
def JX (K:Frag):R2:=fun x y H Q=>∃ d e,Deep K H x d/\Deep K H y e/\dep d<=40/\Q (.bl (deq d e)) H
def JY (K:Frag):R2:=fun x y H Q=>∃ d e,Deep K H x d/\Deep K H y e/\dep d<=40/\Q (.bl (!deq d e)) H
theorem FL (hu:X.A.units+64 < cLine):OpR X (compareOp .Eq) (JX X.K):=by
 intro pins s σ H x y v u Q I rx ry h
 obtain ⟨d,e,hd,he,hn,q⟩:=h
 exact (ly I 40 d e x y v u X.A hn (by nofun) hd he rx ry).1 _ _ _ _ ⟨.bl _,H,I,rfl,q⟩
theorem FM (hu:X.A.units+64 < cLine):OpR X (compareOp .NotEq) (JY X.K):=by
 intro pins s σ H x y v u Q I rx ry h
 obtain ⟨d,e,hd,he,hn,q⟩:=h
 exact (ly I 40 d e x y v u X.A hn (by nofun) hd he rx ry).2.1 _ _ _ _ ⟨.bl _,H,I,rfl,q⟩
structure Own (P:Program)(w:World)(K:Frag)(mg:Str->Option Value)(base:Heap)(x:Str)(k:Nat)(ps:List Str)(sp:Sp):Prop where
 ex:∃ (f:Addr) (fd:FuncData),FnOk P w K mg base CX0 k f fd ps sp/\mg x=some (.ref f)/\PySem.W.keepIn K (.ref f)=true/\Binds K fd ps []
def Glo (mg:Str->Option Value)(x:Str)(v:V):Prop:=∃ u,mg x=some u/\RelV v u
theorem FN {x:Str}{e:Expr}{es:List Expr}{t:TA}{p:Pos}(O:Own X.prog X.w X.K X.mg X.base x k ps sp)(hr:Room k X.A)(ha:PA X (e::es) t)(hg:autoParam (Gl X x) L2.aR._auto_1)
  (hdb:autoParam ((x == ("__debug__" : Str))=false) L2.aD._auto_1) (he:autoParam (starEach (e::es) X.env=(false,eval e X.env)::starEach es X.env) L2.aR._auto_1) (hpl:autoParam ((backTo pos (starEach es X.env)).any (·.1)=false) L2.aR._auto_1) :
  PE X (.Call (.Name x p) (e::es) [] pos) (jc sp [] E0 t):=by
 obtain ⟨f,fd,F,hm,hk,hb⟩:=O.ex
 exact rG F hr hg hm hk hb .nil IR ha hdb he hpl
theorem Al {x:Str}   (h:Glo X.mg x v) (hg:autoParam (Gl X x) L2.aR._auto_1) (hd:autoParam ((x == ("__debug__" : Str))=false) L2.aD._auto_1):PE X (.Name x pos) (tC v):=by
 obtain ⟨u,hm,r⟩:=h
 exact Bd hg hm r hd
theorem IW {x:Str} {T:String}  (hm:X.mg x=none) (hv:bootBuiltins x=some (.type T)) (hg:autoParam (Gl X x) L2.aR._auto_1) (hn:autoParam (x ≠ "__name__") L2.aD._auto_1) (hd:autoParam ((x == ("__debug__" : Str))=false) L2.aD._auto_1):PE X (.Name x pos) (tC (.ty T)) :=
 Be hg hm hv rfl hn hd
def FP (K:Frag):V->Option Int->Option Int->Hp->VK->Prop:=fun x lo hi H Q=>JW x lo hi H Q∨JT K x lo hi H Q∨JP K x lo hi H Q
theorem Am:SlR X (FP X.K):=FK.or (BD.or Fq)
def Ic (K:Frag):List V->Hp->VK->Prop:=fun xs H Q=>(∃ z,xs=[.str z]/\z.length<=sizeLine/\Q (.int z.length) H)∨(∃ p ys,xs=[.ref p]/\(SqL K H p ys∨SqT K H p ys)/\Q (.int ys.length) H)∨(∃ a kvs,xs=[V.ref a]/\Rd H a (.dK kvs)/\Q (.int kvs.length) H)
theorem p6:CallR X (.builtin "len") (fun xs H Q=>∃ a kvs,xs=[V.ref a]/\Rd H a (.dK kvs)/\Q (.int kvs.length) H):=by
 intro pins s σ H xs us Q I r h
 obtain ⟨a,kvs,rfl,ha,q⟩:=h
 obtain ⟨u,rfl,ru⟩:=dH r
 cases ru
 exact IP I ha fun t s' I'=>⟨.int kvs.length,H,I',⟨t,rfl⟩,q⟩
theorem DGet.kR {kvs:List (Key×V)}{k:Key}(e:Rd H a (.dK kvs)):DGet H a (kV k) (lp kvs k):=.inl ⟨kvs,k,e,rfl,rfl⟩
theorem rW:CallR X (.builtin "len") (Ic X.K):=lm.or (ll.or p6)
def IY:List V->Hp->VK->Prop:=fun xs H Q=>∃ i j,xs=[.int i,.int j]/\Q (.int (if j > i then j else i)) H
def IZ:List V->Hp->VK->Prop:=fun xs H Q=>∃ i j,xs=[.int i,.int j]/\Q (.int (if j < i then j else i)) H
theorem rX (hc:X.calm=true):CallR X (.builtin "max") IY:=rC hc
theorem rY (hc:X.calm=true):CallR X (.builtin "min") IZ:=rD hc
def Id (K:Frag):List V->Hp->VK->Prop:=fun xs H Q=>∃ (p:Addr) (bs:List Bool),xs=[.ref p]/\SqL K H p (bs.map V.bl)/\Q (.bl (bs.all id)) H
theorem rZ (hc:X.calm=true):CallR X (.builtin "all") (Id X.K):=wy hc
def rInS:R2:=fun x y H Q=>∃ (c:Nat) (j:Str),x=.str ⟨#[c]⟩/\y=.str j/\Q (.bl (decide (c ∈ j.cps.toList))) H
def BX:R2:=fun x y H Q=>∃ (c:Nat) (j:Str),x=.str ⟨#[c]⟩/\y=.str j/\Q (.bl (!decide (c ∈ j.cps.toList))) H
def JZ (K:Frag):R2:=fun x y H Q=>rInS x y H Q∨rIn K false x y H Q
def r8 (K:Frag):R2:=fun x y H Q=>BX x y H Q∨rIn K true x y H Q
theorem FQ:OpR X (compareOp .In) (JZ X.K):=OpR.or pZ rL
theorem r9:OpR X (compareOp .NotIn) (r8 X.K):=OpR.or j2 li
section
variable    {R:Bool->Hp->Prop} {QA:List V->Hp->Prop} {D:Ends} {K:Frag}
end
theorem bn {o:HO}(hp:H p=none):Same H (upd H p o):=fun b u h=>by rw [aU (bx h hp)]; exact h
theorem SqT.same {K:Frag}{H H':Hp}{a:Addr}{xs:List V}(h:SqT K H a xs)(e:Same H H'):SqT K H' a xs:=by
 rcases h with (h | ⟨o,h⟩) | h
 ·exact .inl (.inl (e _ _ h))
 ·exact .inl (.inr ⟨o,e _ _ h⟩)
 ·exact .inr h
def BY (N:List Str)(names:List (Str×NameKind)):List Str->List Nat->Bool
 | [],[]=>true
 | x::F,i::ixs=>(N[i]? == some x) && (names.lookup x == some .free) && BY N names F ixs
 | _,_=>false
theorem nQ {N:List Str}{names:List (Str×NameKind)}:∀ {F:List Str} {ixs:List Nat},BY N names F ixs=true->ixs.length=F.length /\
  ∀ (j i:Nat) (x:Str),ixs[j]?=some i->F[j]?=some x->N[i]?=some x/\names.lookup x=some .free
 | [],[],_=>⟨rfl,fun j i x h=>by simp at h⟩
 | [],_::_,h=>(Bool.false_ne_true h).elim
 | _::_,[],h=>(Bool.false_ne_true h).elim
 | y::F,k::ixs,h=>by
  obtain ⟨h,h3⟩:=Bool.and_eq_true_iff.mp h
  obtain ⟨h1,h2⟩:=Bool.and_eq_true_iff.mp h
  replace h1:=eq_of_beq h1
  replace h2:=eq_of_beq h2
  obtain ⟨l,r⟩:=nQ h3
  refine ⟨by rw [List.length_cons,List.length_cons,l],fun j i x a b=>?_⟩
  cases j with
  | zero =>
   simp at a b
   subst a b
   exact ⟨h1,h2⟩
  | succ j=>exact r j i x (by exists a) (by exists b)
def J0 (names out:List (Str×NameKind)):Bool:=names.all fun y=>(y.2 != .cell) && (y.2 != .local || names.lookup y.1 == some .local) && (y.2 != .free || out.lookup y.1 == some .cell || out.lookup y.1 == some .free)
theorem CompScope.of (kind:scope.kind=.function)(h1:BY X.N scope.names F ixs=true)(h2:J0 scope.names X.env.scope.names=true):CompScope X T F ixs scope:=by
 obtain ⟨l,c⟩:=nQ h1
 unfold J0 at h2
 rw [List.all_eq_true] at h2
 refine ⟨kind,fun y hy=>?_,fun y hy e=>?_,fun j i x=>c j i x,l,fun y hy e=>?_⟩
 ·have:=h2 y hy
  simp only [Bool.and_eq_true] at this
  simpa using this.1.1
 ·have:=h2 y hy
  simp only [Bool.and_eq_true] at this
  have q:=this.1.2
  rw [e] at q
  simpa using q
 ·have:=h2 y hy
  simp only [Bool.and_eq_true] at this
  have q:=this.2
  rw [e] at q
  simpa using q
def Ie (K:Frag):R2:=fun x y H Q=>rEq x y H Q∨JX K x y H Q
def Ig (K:Frag):R2:=fun x y H Q=>rNe x y H Q∨JY K x y H Q
theorem FR (hu:X.A.units+64 < cLine):OpR X (compareOp .Eq) (Ie X.K):=IE.or (FL hu)
theorem FU (hu:X.A.units+64 < cLine):OpR X (compareOp .NotEq) (Ig X.K):=IF.or (FM hu)
end L2
namespace L2
open PySem
variable{α:Type}
theorem bu:bootBuiltins "isinstance" = some (.builtin "isinstance"):=by decide +kernel
theorem sd:bootBuiltins "str" = some (.type "str"):=by decide +kernel
theorem se:bootBuiltins "list" = some (.type "list"):=by decide +kernel
theorem nR:bootBuiltins "tuple" = some (.type "tuple"):=by decide +kernel
theorem An {xs:List α}{i:Int}(h0:0<=i)(h:i < xs.length):∃ c,atI xs i=some c/\c ∈ xs:=by
 obtain ⟨k,rfl⟩:=aaV h0
 have hk:k < xs.length:=by nofun
 exact ⟨xs[k],di (List.getElem?_eq_getElem hk),aaS hk⟩
theorem nS {xs:List α}{lo hi:Option Int}{c:α}(h:c ∈ cg xs lo hi):c ∈ xs:=List.mem_of_mem_drop (List.mem_of_mem_take h)
theorem ik (xs:List α)(lo hi:Option Int):(cg xs lo hi).length<=xs.length:=by
 unfold cg
 rw [aau,List.length_drop]
 nofun
theorem il (xs:List α)(k:Nat):cg xs none (some (k:Int))=xs.take k:=by
 unfold cg
 rw [HT.sIx_none,HT.sIx_nat,Nat.sub_zero,aaA]
 by_cases h:k<=xs.length
 ·rw [Nat.min_eq_left h]
 ·rw [Nat.min_eq_right (by nofun),aah (aac _),aah (by nofun)]
theorem db (xs:List α)(k:Nat):cg xs (some (k:Int)) none=xs.drop k:=by
 unfold cg
 rw [HT.sIx_none,HT.sIx_nat]
 by_cases h:k<=xs.length
 ·rw [Nat.min_eq_left h,aah (by rw [List.length_drop]; nofun)]
 ·rw [Nat.min_eq_right (by nofun),List.drop_of_length_le (aac _),List.drop_of_length_le (by nofun)]
  simp
theorem mU {z:Str}{l:List Nat}(h:z.cps.toList=l):z.length=l.length:=by rw [← h]; simp [Str.length]
end L2
namespace L2
open PySem PySem.Spec PyProof.Rows
variable{o tg l:Expr}{es:List Expr}{to tl:TE}{name:Str}{apos cpos:Pos}{T:String}{r:V->List V->Hp->VK->Prop}
section
variable {X:Cx}
theorem FV (K:Frag)(hu:X.A.units+64 < cLine)(h:autoParam (X.K=K) L2.aR._auto_1):OpR X (compareOp .Eq) (Ie K):=by subst h; exact FR hu
theorem FW (K:Frag)(hu:X.A.units+64 < cLine)(h:autoParam (X.K=K) L2.aR._auto_1):OpR X (compareOp .NotEq) (Ig K):=by subst h; exact FU hu
theorem BZ (K:Frag)(h:autoParam (X.K=K) L2.aR._auto_1):SlR X (FP K):=by subst h; exact Am
theorem sg (K:Frag)(h:autoParam (X.K=K) L2.aR._auto_1):CallR X (.builtin "len") (Ic K):=by subst h; exact rW
theorem sh (K:Frag)(hc:X.calm=true)(h:autoParam (X.K=K) L2.aR._auto_1):CallR X (.builtin "all") (Id K):=by subst h; exact rZ hc
theorem wB (K:Frag)(h:autoParam (X.K=K) L2.aR._auto_1):MtR X "str.join" (wz K):=by subst h; exact BV
theorem FX {e:Expr}   {t:TA}   {id:String}  (K:Frag) (pa:PlainAttrs T) (slot:Slot T name id) (hty:typeOf (.builtin id)=pure (.type "method_descriptor")) (hm:MtR X id r) (ho:PE X o to) (ha:PA X (e::es) t)
  (hK:autoParam (X.K=K) L2.aR._auto_1) (hbase:autoParam (attributeBase o name X.env (eval o X.env)=eval o X.env) L2.aR._auto_1)
  (hfew:autoParam (((backTo cpos (starEach (e::es) X.env)).all (fun x=>!x.1) && (backToKw cpos (keywordEach [] X.env)).all (fun x=>x.1.isSome)
   && decide ((e::es).length+([]:List Keyword).length+(if ([]:List Keyword).isEmpty then 0 else 1) < 30))=true) L2.aR._auto_1)
  (hline:autoParam ((apos.endLine == cpos.line)=true) L2.aR._auto_1) (hs:autoParam (starEach (e::es) X.env=(false,eval e X.env)::starEach es X.env) L2.aR._auto_1) (hplain:autoParam ((backTo cpos (starEach es X.env)).any (·.1)=false) L2.aR._auto_1) :
  PE X (.Call (.Attribute o name apos) (e::es) [] cpos) (tBM K T r to t):=by subst hK; exact IN pa slot hty hm ho ha hbase hfew hline hs hplain
theorem B5     {id:String}  (K:Frag) (pa:PlainAttrs T) (slot:Slot T name id) (hty:typeOf (.builtin id)=pure (.type "method_descriptor")) (hm:MtR X id r) (ho:PE X o to)
  (hK:autoParam (X.K=K) L2.aR._auto_1) (hbase:autoParam (attributeBase o name X.env (eval o X.env)=eval o X.env) L2.aR._auto_1) (hline:autoParam ((apos.endLine == cpos.line)=true) L2.aR._auto_1):PE X (.Call (.Attribute o name apos) [] [] cpos) (Ib K T r to):=by subst hK; exact Fx pa slot hty hm ho hbase hline
theorem B6 {k:Nat}{t:TGs}{n:Nat}{pos:Pos}(K:Frag)(hc:X.calm=true)(h:PGs X es t)(hK:autoParam (X.K=K) L2.aR._auto_1)
  (hn:autoParam ((assignEach es X.env).length=n) L2.aR._auto_1) (hst:autoParam ((assignEach es X.env).findIdx? (·.1)=none) L2.aR._auto_1):PG X (.Tuple es k pos) (HW K n t):=by subst hK; exact E7 hc h hn hst
theorem wC (K:Frag)(hl:PE X l tl)(hK:autoParam (X.K=K) L2.aR._auto_1):PI X tg l (mK K tl):=by subst hK; exact Bn hl
theorem B7 (K:Frag)(hl:PE X l tl)(hK:autoParam (X.K=K) L2.aR._auto_1):PI X tg l (HX K tl):=by subst hK; exact Fa hl
end
end L2
namespace L2
open PySem
end L2
namespace L2
theorem gW {α:Type}:∀ zs:List α,(zs.map fun _=>1).sum=zs.length
 | []=>rfl
 | z::zs=>by rw [List.map_cons,List.sum_cons,gW zs,List.length_cons]; nofun
end L2
namespace L2
open PySem PySem.Spec PyProof.Rows
variable{e a b c o tg iter l:Expr}{es:List Expr}{env:Env}{pos p apos cpos:Pos}{X:Cx}{te ta tb to tl:TE}{t:TA}{k i:Nat}{ps:List Str}{sp:Sp}{r:List V->Hp->VK->Prop}{T:String}{op op':CmpOp}{tc tA tB':TT}{r':R2}{name:Str}{trs:List (TE×TE)}{wi:TI}{st:Stmt}{u:TS}{body:List Stmt}
def bL:Expr->Bool
 | .Starred _ _=>false
 | _=>true
theorem bz (h:bL e=true):starEach (e::es) env=(false,eval e env)::starEach es env:=by
 cases e <;> first | rfl | (cases h)
theorem dc (h:es.all bL=true):(backTo pos (starEach es env)).any (·.1)=false:=by
 induction es with
 | nil=>rfl
 | cons e es ih =>
  rw [aaK,Bool.and_eq_true] at h
  rw [bz h.1]
  have:=ih h.2
  simpa [backTo] using this
theorem pa_c (ha:PE X e te)(hr:PA X es t)(hn:autoParam (bL e=true) L2.aR._auto_1):PA X (e::es) (dI te t):=rF ha hr (bz hn)
theorem B8 {x:Str}(O:Own X.prog X.w X.K X.mg X.base x k ps sp)(hr:Room k X.A)(ha:PA X (e::es) t)(hg:autoParam (Gl X x) L2.aR._auto_1)(hn:autoParam ((e::es).all bL=true) L2.aR._auto_1)
  (hdb:autoParam ((x == ("__debug__" : Str))=false) L2.aD._auto_1):PE X (.Call (.Name x p) (e::es) [] pos) (jc sp [] E0 t):=by
 have h:=hn
 rw [aaK,Bool.and_eq_true] at h
 exact FN O hr ha hg hdb (bz h.1) (dc h.2)
theorem si {x:Str}     {id:String}  (hc:CallR X (.builtin id) r) (hm:X.mg x=none) (hv:bootBuiltins x=some (.builtin id)) (ha:PA X (e::es) t) (hg:autoParam (Gl X x) L2.aR._auto_1) (hns:autoParam ((e::es).all bL=true) L2.aR._auto_1) (hn:autoParam (x ≠ "__name__") L2.aD._auto_1)
  (hdb:autoParam ((x == ("__debug__" : Str))=false) L2.aD._auto_1):PE X (.Call (.Name x p) (e::es) [] pos) (tCB r t):=by
 have h:=hns
 rw [aaK,Bool.and_eq_true] at h
 exact wn hc hg hm hv ha hn hdb (bz h.1) (dc h.2)
theorem sj {x:Str}       (hc:CallR X (.type T) r) (hm:X.mg x=none) (hv:bootBuiltins x=some (.type T)) (ha:PA X (e::es) t) (hg:autoParam (Gl X x) L2.aR._auto_1) (hns:autoParam ((e::es).all bL=true) L2.aR._auto_1) (hn:autoParam (x ≠ "__name__") L2.aD._auto_1)
  (hdb:autoParam ((x == ("__debug__" : Str))=false) L2.aD._auto_1):PE X (.Call (.Name x p) (e::es) [] pos) (tCB r t):=by
 have h:=hns
 rw [aaK,Bool.and_eq_true] at h
 exact rJ hc hg hm hv ha hn hdb (bz h.1) (dc h.2)
structure BE (X:Cx)(e:Expr)(t:TE):Prop where h:PE X e t
structure BT (X:Cx)(e:Expr)(t:TT):Prop where h:PT X e t
structure BW (X:Cx)(e:Expr)(t:TT):Prop where h:PW X e t
structure BA (X:Cx)(es:List Expr)(t:TA):Prop where h:PA X es t
structure BS (X:Cx)(s:Stmt)(t:TS):Prop where h:PS X s t
structure BSs (X:Cx)(s:List Stmt)(t:TS):Prop where h:PSs X s t
structure BG (X:Cx)(e:Expr)(t:TG):Prop where h:PG X e t
structure BGs (X:Cx)(es:List Expr)(t:TGs):Prop where h:PGs X es t
structure BI (X:Cx)(tg e:Expr)(t:TI):Prop where h:PI X tg e t
structure BO (X:Cx)(e:Option Expr)(t:TO):Prop where h:PO X e t
structure BIf (X:Cx)(es:List Expr)(t:TT):Prop where h:Ak X es t
structure BPs (X:Cx)(pos:Pos)(ks:List (Option Expr))(vs:List Expr)(t:List (TE×TE)):Prop where h:PPs X pos ks vs t
structure BOp (X:Cx)(f:Value->Value->Sem Value)(r:R2):Prop where h:OpR X f r
structure BCall (X:Cx)(f:Value)(r:List V->Hp->VK->Prop):Prop where h:CallR X f r
structure BMt (X:Cx)(id:String)(r:V->List V->Hp->VK->Prop):Prop where h:MtR X id r
theorem Ao (i:Nat) {x:Str}  (hN:X.N[i]?=some x) (hv:Vis X.env.scope x) (hd:autoParam ((x == ("__debug__" : Str))=false) L2.aD._auto_1) (hcd:autoParam ((x == ("__classdict__" : Str))=false) L2.aD._auto_1):BE X (.Name x pos) (nE i):=⟨Ad hN hv hd hcd⟩
theorem bN (i:Nat){x:Str}(hN:autoParam (X.N[i]?=some x) L2.aR._auto_1)(hv:autoParam (X.env.scope.names.lookup x=some .local) L2.aR._auto_1)(hd:autoParam ((x==("__debug__":Str))=false) L2.aD._auto_1)(hcd:autoParam ((x==("__classdict__":Str))=false) L2.aD._auto_1):BE X (.Name x pos) (nE i):=Ao i hN (.inl hv) hd hcd
theorem sk {i j pos}:BE X (.Constant (.int i) j pos) (tC (.int i)):=⟨EW⟩
theorem B9 {b j pos}:BE X (.Constant (.bool b) j pos) (tC (.bl b)):=⟨Iq⟩
theorem fO {j pos}:BE X (.Constant .none j pos) (tC .non):=⟨EX⟩
theorem dF {x j pos}:BE X (.Constant (.str x) j pos) (tC (.str x)):=⟨EY⟩
theorem dG {x:Str} {v:V}  (h:Glo X.mg x v) (hg:X.env.kindOf x=some .globalImplicit) (hd:autoParam ((x == ("__debug__" : Str))=false) L2.aD._auto_1):BE X (.Name x pos) (tC v):=⟨Al h hg hd⟩
theorem so {x:Str}   (hm:X.mg x=none) (hv:bootBuiltins x=some (.type T)) (hg:X.env.kindOf x=some .globalImplicit) (hn:autoParam (x ≠ "__name__") L2.aD._auto_1) (hd:autoParam ((x == ("__debug__" : Str))=false) L2.aD._auto_1):BE X (.Name x pos) (tC (.ty T)):=⟨IW hm hv hg hn hd⟩
theorem I0 {op:Operator}{r:R2}(ho:BOp X (binaryOp op) r)(ha:BE X a ta)(hb:BE X b tb):BE X (.BinOp a op b pos) (tOp r ta tb):=⟨IC ho.h ha.h hb.h⟩
theorem Ap (ha:BE X a ta):BE X (.UnaryOp .USub a pos) (tUn (rU fun i=>.int (-i)) ta):=⟨ID Fi ha.h⟩
theorem nT {op}{t:TE}(h:BE X a t):BE X (.BoolOp op [a] pos) t:=⟨E4 h.h⟩
theorem lA {rest:List Expr}(ha:BE X a ta)(hb:BE X (.BoolOp .And (b::rest) pos) tb):BE X (.BoolOp .And (a::b::rest) pos) (Bg ta tb):=⟨E5 ha.h hb.h⟩
theorem nU {r:R2}(ho:BOp X (compareOp op) r)(ha:BE X a ta)(hb:BE X b tb)(hm:behindInMarks op b=false):BE X (.Compare a [op] [b] pos) (tOp r ta tb):=⟨Bs ho.h ha.h hb.h hm⟩
theorem wD {tc:TE}{r:R2}(ho:BOp X (compareOp op) r)(ho':BOp X (compareOp op') r')(ha:BE X a ta)(hb:BE X b tb)(hc:BE X c tc)(hm:lastMarks [op,op'] [b,c]=false):BE X (.Compare a [op,op'] [b,c] pos) (kZ r r' ta tb tc):=⟨wl ho.h ho'.h ha.h hb.h hc.h hm⟩
theorem FY (hc:BT X c tA)(ha:BE X a ta)(hb:BE X b tb):BE X (.IfExp c a b pos) (tIf tA ta tb):=⟨wb hc.h ha.h hb.h⟩
theorem fP {x:Str}(O:Own X.prog X.w X.K X.mg X.base x k ps sp)(hr:Room k X.A)(ha:BA X (e::es) t)(hg:X.env.kindOf x=some .globalImplicit)(hn:(e::es).all bL=true)
  (hdb:autoParam ((x == ("__debug__" : Str))=false) L2.aD._auto_1):BE X (.Call (.Name x p) (e::es) [] pos) (jc sp [] E0 t):=⟨B8 O hr ha.h hg hn hdb⟩
theorem cS {x:Str}     {id:String}  (hc:BCall X (.builtin id) r) (hm:X.mg x=none) (hv:bootBuiltins x=some (.builtin id)) (ha:BA X (e::es) t) (hg:X.env.kindOf x=some .globalImplicit) (hns:(e::es).all bL=true) (hn:autoParam (x ≠ "__name__") L2.aD._auto_1)
  (hdb:autoParam ((x == ("__debug__" : Str))=false) L2.aD._auto_1):BE X (.Call (.Name x p) (e::es) [] pos) (tCB r t):=⟨si hc.h hm hv ha.h hg hns hn hdb⟩
theorem nV {x:Str}       (hc:BCall X (.type T) r) (hm:X.mg x=none) (hv:bootBuiltins x=some (.type T)) (ha:BA X (e::es) t) (hg:X.env.kindOf x=some .globalImplicit) (hns:(e::es).all bL=true) (hn:autoParam (x ≠ "__name__") L2.aD._auto_1)
  (hdb:autoParam ((x == ("__debug__" : Str))=false) L2.aD._auto_1):BE X (.Call (.Name x p) (e::es) [] pos) (tCB r t):=⟨sj hc.h hm hv ha.h hg hns hn hdb⟩
theorem wE (h:es.all bL=true)(hl:es.length < 29):((backTo pos (starEach es env)).all (fun x=>!x.1) && (backToKw pos (keywordEach [] env)).all (fun x=>x.1.isSome)
      && decide (es.length+([]:List Keyword).length+(if ([]:List Keyword).isEmpty then 0 else 1) < 30))=true:=by
  have h1:(backTo pos (starEach es env)).all (fun x=>!x.1)=true:=by
    clear hl
    induction es with
    | nil=>rfl
    | cons e es ih =>
      rw [aaK,Bool.and_eq_true] at h
      rw [bz h.1]
      exact ih h.2
  rw [h1]
  exact decide_eq_true (aaH hl)
theorem im       {id:String} {r:V->List V->Hp->VK->Prop} (K:Frag) (pa:PlainAttrs T) (slot:Slot T name id) (hty:typeOf (.builtin id)=pure (.type "method_descriptor")) (hm:BMt X id r) (ho:BE X o to) (ha:BA X (e::es) t)
  (hK:X.K=K) (hbase:attributeBase o name X.env (eval o X.env)=eval o X.env) (hn:(e::es).all bL=true) (hl:(e::es).length < 29) (hline:(apos.endLine == cpos.line)=true):BE X (.Call (.Attribute o name apos) (e::es) [] cpos) (tBM K T r to t):=by
 have h:=hn
 rw [aaK,Bool.and_eq_true] at h
 exact ⟨FX K pa slot hty hm.h ho.h ha.h hK hbase (wE hn hl) hline (bz h.1) (dc h.2)⟩
theorem wF     {id:String} {r:V->List V->Hp->VK->Prop} (K:Frag) (pa:PlainAttrs T) (slot:Slot T name id) (hty:typeOf (.builtin id)=pure (.type "method_descriptor")) (hm:BMt X id r) (ho:BE X o to)
  (hK:X.K=K) (hbase:attributeBase o name X.env (eval o X.env)=eval o X.env) (hline:(apos.endLine == cpos.line)=true):BE X (.Call (.Attribute o name apos) [] [] cpos) (Ib K T r to):=⟨B5 K pa slot hty hm.h ho.h hK hbase hline⟩
theorem wG {lo hi:Option Expr}{tl th:TO}{p2:Pos}(K:Frag)(he:BE X e te)(hl:BO X lo tl)(hu:BO X hi th)(hK:X.K=K):BE X (.Subscript e (.Slice lo hi none p2) pos) (tSl (FP K) te tl th):=⟨nI (BZ K hK) he.h hl.h hu.h⟩
theorem Aq (h:BA X es t):BE X (.List es pos) (IL t):=⟨Fn h.h⟩
theorem lB {x1}(h:BA X es t):BE X (.Tuple es x1 pos) (Ia t):=⟨Fm h.h⟩
theorem Ca :BE X (.Dict [] [] pos) nK:=⟨wq⟩
theorem Cb {k:Option Expr}{keys:List (Option Expr)}{values:List Expr}(h:BPs X pos (k::keys) values trs)(hall:(k::keys).all (·.isSome)=true)(hl:(k::keys).length=values.length)(h15:(k::keys).length<=15):BE X (.Dict (k::keys) values pos) (wu trs):=⟨BL h.h hall hl (fun z=>nomatch z) h15⟩
theorem Cd :BPs X pos [] [] []:=⟨BK⟩
theorem wH {k v:Expr}{ks:List (Option Expr)}{vs:List Expr}{tk tv:TE}(hk:BE X k tk)(hv:BE X v tv)(hr:BPs X pos ks vs trs):BPs X pos (some k::ks) (v::vs) ((tk,tv)::trs):=⟨wt hk.h hv.h hr.h⟩
theorem Ce {T F:List Str}{ixs:List Nat}{scope:Scope}{elt:Expr}{ifs:List Expr}{g:TG}(hc:X.calm=true)(S:CompScope X T F ixs scope)(hi:BI X tg iter wi)
  (hg:∀ C s H fp,BG (aL X (T++F) scope (am X.env scope.names []) C s H fp) tg g) (ht:∀ C s H fp,BIf (aL X (T++F) scope (am X.env scope.names []) C s H fp) ifs tc) (he:∀ C s H fp,BE (aL X (T++F) scope (am X.env scope.names []) C s H fp) elt te)
  (hs:∀ x,foldedSetIterable iter X.env x=pure x):BE X (.ListComp elt [⟨tg,iter,ifs,0⟩] scope pos) (eL T.length ixs wi g tc te) :=
 ⟨BQ hc S hi.h (fun C s H fp=>(hg C s H fp).h) (fun C s H fp=>(ht C s H fp).h) (fun C s H fp=>(he C s H fp).h) hs⟩
theorem bq:BA X [] la:=⟨Ag⟩
theorem cQ (ha:BE X e te)(hr:BA X es t)(hn:bL e=true):BA X (e::es) (dI te t):=⟨pa_c ha.h hr.h hn⟩
theorem Cf:BO X none mM:=⟨Bw⟩
theorem Cg (h:BE X e te):BO X (some e) (Bv te):=⟨Bx h.h⟩
theorem sq:BIf X [] IU:=⟨BM⟩
theorem Ci {t:TT}(h:BT X c t):BIf X [c] t:=⟨BN h.h⟩
theorem lD {r:R2}(ho:BOp X (compareOp op) r)(ha:BE X a ta)(hb:BE X b tb)(hm:behindInMarks op b=false):BT X (.Compare a [op] [b] pos) (mL (tOp r ta tb)):=⟨Bt ho.h ha.h hb.h hm⟩
theorem wI {tc:TE}{r:R2}(ho:BOp X (compareOp op) r)(ho':BOp X (compareOp op') r')(ha:BE X a ta)(hb:BE X b tb)(hc:BE X c tc)(hm:lastMarks [op,op'] [b,c]=false):BT X (.Compare a [op,op'] [b,c] pos) (mL (kZ r r' ta tb tc)):=⟨wm ho.h ho'.h ha.h hb.h hc.h hm⟩
theorem lE (ha:BT X a tA):BT X (.UnaryOp .Not a pos) (Iu tA):=⟨E3 ha.h⟩
theorem wt_w {t:TT}(h:BW X e t):BT X e t:=⟨h.h.pt⟩
theorem Cj (ha:BT X a tA):BW X (.BoolOp .And [a] pos) tA:=⟨Bf ha.h⟩
theorem FZ (ha:BT X a tA):BW X (.BoolOp .Or [a] pos) tA:=⟨E1 ha.h⟩
theorem F0 {rest:List Expr}(ha:BT X a tA)(hb:BW X (.BoolOp .And (b::rest) pos) tB'):BW X (.BoolOp .And (a::b::rest) pos) (Ir tA tB'):=⟨E2 ha.h hb.h⟩
theorem Ja {rest:List Expr}(ha:BT X a tA)(hb:BW X (.BoolOp .Or (b::rest) pos) tB'):BW X (.BoolOp .Or (a::b::rest) pos) (tOr tA tB'):=⟨Iv ha.h hb.h⟩
theorem eY {f:Expr}{as:List Expr}{ks:List Keyword}{t:TE}(h:BE X (.Call f as ks pos) t):BT X (.Call f as ks pos) (tB t):=⟨EZ h.h (by intro _; cases f <;> rfl)⟩
theorem dN {x:Str}(hN:X.N.Nodup)(hi:X.N[i]?=some x)(hx:Loc X.env.scope x)(hf:X.fn x=true∨X.env.scope.names.lookup x=some .local):BG X (.Name x pos) (fJ i):=⟨Bk hN hi hx hf⟩
theorem mV:BGs X [] Iy:=⟨Bm⟩
theorem du {t:TG}{u:TGs}(h1:BG X e t)(h2:BGs X es u)(hs:(assignEach (e::es) X.env).map (·.2)=assign e X.env::(assignEach es X.env).map (·.2)):BGs X (e::es) (Bl t u):=⟨wf h1.h h2.h hs⟩
theorem sr {t:TGs}{n:Nat}(K:Frag)(hc:X.calm=true)(h:BGs X es t)(hK:X.K=K)(hn:(assignEach es X.env).length=n)(hst:(assignEach es X.env).findIdx? (·.1)=none):BG X (.Tuple es k pos) (HW K n t):=⟨B6 K hc h.h hK hn hst⟩
theorem F6 {i:Expr}{ti:TE}(ho:BE X o to)(hi:BE X i ti)
  (ha:∀ v,assign (.Subscript o i pos) X.env v=(do
   let ov ← holding [v] (eval o X.env)
   let iv ← holding [v,ov] (eval i X.env)
   standAt pos
   holding [v,ov,iv] (setItem ov iv v)
   release [v,ov,iv] [])):BG X (.Subscript o i pos) (Iz to ti BC):=⟨E8 ho.h hi.h wp ha⟩
theorem su (K:Frag)(hl:BE X l tl)(hK:X.K=K):BI X tg l (mK K tl):=⟨wC K hl.h hK⟩
theorem F7 (K:Frag)(hl:BE X l tl)(hK:X.K=K):BI X tg l (HX K tl):=⟨B7 K hl.h hK⟩
theorem F8 (K:Frag)(hl:BE X l tl)(hK:X.K=K):BI X tg l (IV tl):=⟨FH hl.h⟩
theorem sv  {ta:TA}  (hg:X.env.kindOf "range" = some .globalImplicit) (hm:X.mg "range" = none) (ha:BA X [a] ta) (hn:bL a=true):BI X tg (.Call (.Name "range" p) [a] [] pos) (Bo ta):=⟨rh hg hm ha.h (bz hn)⟩
theorem sw  {ta:TA}  (hg:X.env.kindOf "range" = some .globalImplicit) (hm:X.mg "range" = none) (ha:BA X [a,b] ta) (hn:bL a=true) (hn2:bL b=true):BI X tg (.Call (.Name "range" p) [a,b] [] pos) (Bp ta) :=
 ⟨rj hg hm ha.h (by rw [bz hn,bz hn2]; rfl) (by rw [bz hn2]; rfl)⟩
theorem cY:BSs X [] rc:=⟨Bh⟩
theorem bU {t:TS}(h:BS X st t):BSs X [st] t:=⟨mJ h.h⟩
theorem aS {rest:List Stmt}{t:TS}(h1:BS X st t)(h2:BSs X rest u):BSs X (st::rest) (EK t u):=⟨wc h1.h h2.h⟩
theorem Ck (he:BE X e te)(hs:swapsWith e none pos.line X.env=pure false):BS X (.Expr e pos) (Bi te):=⟨Bj he.h hs⟩
theorem eP (he:BE X e te):BS X (.Return (some e) pos) (EL te):=⟨E6 he.h⟩
theorem jd {a b:List Stmt}{t:TS}(hc:BT X c tc)(ha:BSs X a t)(hb:BSs X b u):BS X (.If c a b pos) (EM tc t u):=⟨Iw hc.h ha.h hb.h⟩
theorem eQ {x:Str}{pos':Pos}(hN:X.N.Nodup)(hi:X.N[i]?=some x)(hx:Loc X.env.scope x)(he:BE X e te)(hs:swapsWith e (some (.Name x pos')) pos.line X.env=pure false)(hf:X.fn x=true∨X.env.scope.names.lookup x=some .local) :
  BS X (.Assign [.Name x pos'] e pos) (pO te (fJ i)):=⟨Ae hN hi hx he.h hs hf⟩
theorem sx {g:TG}(he:BE X e te)(hg:BG X tg g)(hs:swapsWithSole [tg] e pos.line X.env=pure false)(hw:swappedStores [tg] e X.env=pure none)(h1:(assignEach [tg] X.env).map (·.2)=[assign tg X.env]):BS X (.Assign [tg] e pos) (pO te g):=⟨E9 he.h hg.h hs hw h1⟩
theorem F9 {g:TG}{tb:TS}(hp:PassesOwn (model X.prog X.w) X.A X.env X.xe)(hc:X.calm=true)(hi:BI X tg iter wi)(hg:BG X tg g)(hb:BSs X body tb)(hs:∀ x,foldedSetIterable iter X.env x=pure x):BS X (.For tg iter body [] pos) (IA wi g tb):=⟨Fb hp hc hi.h hg.h hb.h hs⟩
theorem wJ {tb:TS}(hp:PassesOwn (model X.prog X.w) X.A X.env X.xe)(hc:BT X c tc)(hb:BSs X body tb):BS X (.While c body [] pos) (rf tc tb):=⟨wg hp hc.h hb.h⟩
theorem Cl:BOp X (binaryOp .Sub) (rI0 fun i j=>.int (i - j)):=⟨Fe⟩
theorem Cm:BOp X (binaryOp .Mult) (rI CMul fun i j=>.int (i * j)):=⟨Ff⟩
theorem wK:BOp X (binaryOp .FloorDiv) (rI rm fun i j=>.int (i / j)):=⟨Bq⟩
theorem Cn:BOp X (binaryOp .Mod) (rI (fun _ j=>0 < j) fun i j=>.int (i % j)):=⟨Fg⟩
theorem Co:BOp X (binaryOp .Pow) (rI Fc fun i j=>.int (i ^ j.toNat)):=⟨Fh⟩
theorem wL:BOp X (binaryOp .Pow) (rI pY fun i j=>.int (i ^ j.toNat)):=⟨BU⟩
theorem nW (K:Frag)(hu:X.A.units+64 < cLine)(h:X.K=K):BOp X (compareOp .Eq) (Ie K):=⟨FV K hu h⟩
theorem Ga (K:Frag)(hu:X.A.units+64 < cLine)(h:X.K=K):BOp X (compareOp .NotEq) (Ig K):=⟨FW K hu h⟩
def J1:R2:=fun x y H Q=>y=.non/\Q (.bl (decide (x=.non))) H
def Jb:R2:=fun x y H Q=>y=.non/\Q (.bl (!decide (x=.non))) H
theorem j4:BOp X (compareOp .Is) J1:=⟨Fj⟩
theorem nX:BOp X (compareOp .IsNot) Jb:=⟨Br⟩
theorem Gb (K:Frag)(h:X.K=K):BCall X (.builtin "len") (Ic K):=⟨sg K h⟩
theorem Gc (hc:X.calm=true):BCall X (.builtin "max") IY:=⟨rX hc⟩
theorem Gd (hc:X.calm=true):BCall X (.builtin "min") IZ:=⟨rY hc⟩
theorem Ge (K:Frag)(hc:X.calm=true)(h:X.K=K):BCall X (.builtin "all") (Id K):=⟨sh K hc h⟩
theorem Cp (K:Frag)(h:X.K=K):BMt X "str.join" (wz K):=⟨wB K h⟩
theorem sy (K:Frag)(h:X.K=K):BMt X "list.append" jZ:=⟨ig⟩
theorem sA (h:op≠.In)(h2:op≠.NotIn):behindInMarks op b=false:=Fk b h h2
theorem eZ (h:autoParam (op≠.In) L2.aD._auto_1)(h2:autoParam (op≠.NotIn) L2.aD._auto_1):behindInMarks op b=false:=sA h h2
theorem Fun.okB {P:Program}{w:World}{K:Frag}{mg:Str->Option Value}{base:Heap}{x qual:Str}{f:Addr}{fd:FuncData}{N:List Str}(F:Fun K x qual st f fd)(S:FnScope N ps (aj st))(len:∀ vs H Q E,sp vs H Q E->vs.length=ps.length)
  (hbody:∀ (cdv:Value) (A:Around) (outer:List Env) (s:Shared) (H:Hp) (vs:List V) (Q:VK) (E:XK),Room k (A.deeper (envOfC qual (aj st) s.heap.objs.size f cdv))->sp vs H Q E ->
   ∃ t,BSs (dL CX0 P w K mg base N qual (aj st) f cdv A outer s H E).nox (bT st) t/\t { nx:=fun _ H'=>Q .non H',rt:=Q } (dh N vs) H):FnOk P w K mg base CX0 (k+1) f fd ps sp :=
 F.ok S len fun cdv A outer s H vs Q E hr h=>by
  obtain ⟨t,h1,h2⟩:=hbody cdv A outer s H vs Q E hr h
  exact ⟨t,h1.h,h2⟩
end L2
namespace L2
open PySem
end L2
set_option maxHeartbeats 4000000
namespace KS
open PySem PySem.Spec PyProof.Rows
variable{xs order:Array Nat}{i j mask finger moves ep n c slot:Nat}{led plain L:Bool}{hs:Array Int}{prog:Program}{w:World}{K α:Type}{A A':Around}{E Q:Value->Shared->Prop}{s:Shared}{h h':Heap}{a I pl:Addr}{o op:Obj}{es:Array (Int×Value)}{pls:Array Value}{Q':Option (Value×Nat)->Shared->Prop}
def Ris (xs:Array Nat):Prop:=xs.toList.Pairwise (· < ·)
theorem Ris.lt (h:Ris xs){d:Nat}(hij:i < j)(hj:j < xs.size):xs.getD i d < xs.getD j d:=by
 have hi:i < xs.size:=Nat.lt_trans hij hj
 have q:=List.pairwise_iff_getElem.mp h i j (by exists hi) (by exists hj) hij
 rw [Array.getD_eq_getD_getElem?,Array.getD_eq_getD_getElem?,Array.getElem?_eq_getElem hi,Array.getElem?_eq_getElem hj]
 simpa using q
theorem j5 {xs:Array Nat}{j:Nat}(h:Ris xs):∀ (fuel lo hi:Nat),lo<=hi->hi<=xs.size->hi - lo<=fuel->(∀ k,k < lo->xs.getD k j < j)->(∀ k,hi<=k->k < xs.size->j<=xs.getD k j) ->
  SetTable.below.go xs j fuel lo hi<=xs.size/\(∀ k,k < SetTable.below.go xs j fuel lo hi->xs.getD k j < j)/\∀ k,SetTable.below.go xs j fuel lo hi<=k->k < xs.size->j<=xs.getD k j
 | 0,lo,hi,a,b,c,p,q=>by
  have e:hi=lo:=by nofun
  subst e
  exact ⟨b,p,q⟩
 | fuel+1,lo,hi,a,b,c,p,q=>by
  have e0:SetTable.below.go xs j (fuel+1) lo hi=if lo < hi then (if xs.getD ((lo+hi) / 2) j < j then SetTable.below.go xs j fuel ((lo+hi) / 2+1) hi else SetTable.below.go xs j fuel lo ((lo+hi) / 2)) else lo:=rfl
  rw [e0]
  by_cases hlt:lo < hi
  ·rw [if_pos hlt]
   have hm:(lo+hi) / 2 < hi:=by nofun
   by_cases hv:xs.getD ((lo+hi) / 2) j < j
   ·rw [if_pos hv]
    refine j5 h fuel _ hi (by nofun) b (by nofun) (fun k hk=>?_) q
    by_cases e:k=(lo+hi) / 2
    ·rw [e]; exact hv
    ·exact Nat.lt_trans (h.lt (i:=k) (j:=(lo+hi) / 2) (by nofun) (by nofun)) hv
   ·rw [if_neg hv]
    refine j5 h fuel lo _ (by nofun) (by nofun) (by nofun) p fun k hk hs=>?_
    by_cases e:k=(lo+hi) / 2
    ·rw [e]; nofun
    ·have:=h.lt (i:=(lo+hi) / 2) (j:=k) (d:=j) (by nofun) hs
     nofun
  ·rw [if_neg hlt]
   have e:hi=lo:=by nofun
   subst e
   exact ⟨b,p,q⟩
theorem gf (h:Ris xs)(j:Nat):SetTable.below xs j<=xs.size/\(∀ k,k < SetTable.below xs j->xs.getD k j < j)/\∀ k,SetTable.below xs j<=k->k < xs.size->j<=xs.getD k j :=
 j5 h _ _ _ (aam _) (aac _) (by nofun) (fun k hk=>absurd hk (abF _)) fun k hk hs=>absurd hs (by nofun)
theorem p7 (h:Ris xs):SetTable.below xs 0=0:=by
 obtain ⟨_,b,_⟩:=gf h 0
 by_cases e:SetTable.below xs 0=0
 ·exact e
 ·exact absurd (b 0 (by nofun)) (abF _)
theorem p8 (h:Ris xs){p:Nat}(e:xs[i]?=some p):SetTable.below xs (p+1)=i+1:=by
 obtain ⟨hi,ep⟩:=Array.getElem?_eq_some_iff.mp e
 obtain ⟨a,b,c⟩:=gf h (p+1)
 have g:∀ d,xs.getD i d=p:=fun d=>by rw [Array.getD_eq_getD_getElem?,e]; rfl
 by_cases l:SetTable.below xs (p+1)<=i
 ·have:=c i l hi
  rw [g] at this
  nofun
 ·by_cases r:SetTable.below xs (p+1)=i+1
  ·exact r
  ·have h1:=b (i+1) (by nofun)
   have h2:=h.lt (i:=i) (j:=i+1) (d:=p+1) (by nofun) (by nofun)
   rw [g] at h2
   nofun
def NotIn (xs:Array Nat)(j:Nat):Prop:=xs[SetTable.below xs j]?≠some j
theorem p9 (h:Ris xs)(n:NotIn xs j):Ris (SetTable.insertAt xs (SetTable.below xs j) j):=by
 obtain ⟨a,b,c⟩:=gf h j
 unfold NotIn at n
 generalize SetTable.below xs j=p at a b c n
 have e:(SetTable.insertAt xs p j).toList=xs.toList.take p++j::xs.toList.drop p:=by
  unfold SetTable.insertAt
  simp [Array.toList_extract,List.extract_eq_drop_take,Array.length_toList]
  exact aah (by rw [List.length_drop,Array.length_toList]; exact aac _)
 have lo:∀ x ∈ xs.toList.take p,x < j:=by
  intro x hx
  obtain ⟨k,hk⟩:=List.mem_iff_getElem?.mp hx
  rw [List.getElem?_take] at hk
  split at hk
  ·rename_i hkp
   have:=b k hkp
   rw [Array.getD_eq_getD_getElem?,← Array.getElem?_toList,hk] at this
   exact this
  ·cases hk
 have hi:∀ x ∈ xs.toList.drop p,j < x:=by
  intro x hx
  obtain ⟨k,hk⟩:=List.mem_iff_getElem?.mp hx
  rw [List.getElem?_drop] at hk
  have hs:p+k < xs.size:=by
   have:=(List.getElem?_eq_some_iff.mp hk).1
   simpa using this
  have q:=c (p+k) (by nofun) hs
  rw [Array.getD_eq_getD_getElem?,← Array.getElem?_toList,hk] at q
  have q:j<=x:=q
  rcases Nat.lt_or_ge j x with z | z
  ·exact z
  ·have ex:x=j:=by nofun
   subst ex
   exfalso
   by_cases k0:k=0
   ·subst k0
    exact n (by rw [← Array.getElem?_toList]; exact hk)
   ·have g1:=h.lt (i:=p) (j:=p+k) (d:=x) (by nofun) hs
    have g2:=c p (aac _) (by nofun)
    have g3:xs.getD (p+k) x=x:=by rw [Array.getD_eq_getD_getElem?,← Array.getElem?_toList,hk]; rfl
    nofun
 unfold Ris
 rw [e]
 refine List.pairwise_append.mpr ⟨List.Pairwise.sublist (List.take_sublist p _) h,List.pairwise_cons.mpr ⟨hi,List.Pairwise.sublist (List.drop_sublist p _) h⟩,fun x hx y hy=>?_⟩
 rcases List.mem_cons.mp hy with rfl | hy
 ·exact lo x hx
 ·exact Nat.lt_trans (lo x hx) (hi y hy)
theorem lF (t:SetTable)(p:SetTable.Probe):(t.advance p).dummy=p.dummy:=by
 unfold SetTable.advance
 split
 ·rfl
 ·rfl
theorem gh {t:SetTable}{f:Nat->Int}{h:Int}:∀ (fuel:Nat) (p:SetTable.Probe) (j:Nat) (d:Option Nat),(∀ x,p.dummy=some x->NotIn t.place x)->SetTable.probe.go t f h fuel p=some (.empty j d)->NotIn t.place j/\∀ x,d=some x->NotIn t.place x
 | 0,p,j,d,_,e=>by unfold SetTable.probe.go at e; cases e
 | fuel+1,p,j,d,hp,e=>by
  unfold SetTable.probe.go at e
  have ns:∀ {s:SetTable.Slot},t.slot p.j=s->(∀ i,s≠.live i)->NotIn t.place p.j:=by
   intro s es hs hn
   unfold SetTable.slot at es
   dsimp only at es
   rw [if_pos (by rw [hn]; simp)] at es
   exact hs _ es.symm
  cases hsl:t.slot p.j with
  | empty =>
   rw [hsl] at e
   have e:=aaj e
   injection e with e1 e2
   subst e1 e2
   exact ⟨ns hsl (fun i z=>nomatch z),hp⟩
  | dummy =>
   rw [hsl] at e
   refine gh fuel _ j d (fun x hx=>?_) e
   rw [lF] at hx
   have hx:some p.j=some x:=hx
   injection hx with hx
   rw [← hx]
   exact ns hsl fun i z=>nomatch z
  | live i =>
   rw [hsl] at e
   dsimp only at e
   split at e
   ·cases e
   ·exact gh fuel _ j d (fun x hx=>hp x (by rw [lF] at hx; exact hx)) e
theorem qa {t:SetTable}{h:Int}{b:Bool}(e:t.freeSlot h=some (j,b)):NotIn t.place j:=by
 unfold SetTable.freeSlot at e
 split at e
 ·rename_i j' d hp
  obtain ⟨h1,h2⟩:=gh _ _ _ _ (fun x hx=>by cases (show (none:Option Nat)=some x from hx)) hp
  have e:=aaj e
  have e1:d.getD j'=j:=congrArg Prod.fst e
  subst e1
  cases d with
  | none=>exact h1
  | some x=>exact h2 x rfl
 ·cases e
theorem Cq (t:SetTable)(es:Array (Int×Value))(h:Int)(x:Value)(hr:t.plain=true->Ris t.place):(layNew t es h x).2.1.plain=true->Ris (layNew t es h x).2.1.place:=by
 unfold layNew
 split
 ·rename_i slot wd e
  dsimp only
  unfold SetTable.orStandIn
  split
  ·intro hp
   have hp:t.plain=true:=hp
   exact p9 (hr hp) (qa e)
  ·exact fun z=>by cases z
 ·exact fun z=>by cases z
theorem wM {t:SetTable}(h:SetTable.laid mask finger moves led plain hs=some (t,order)):Ris t.place:=by
 unfold SetTable.laid at h
 cases e:SetTable.layClean mask hs with
 | none=>rw [e] at h; cases h
 | some owner =>
  rw [e] at h
  have h':=aaj h
  rw [← congrArg (fun p=>p.1.place) h']
  dsimp only
  unfold Ris
  rw [abG,List.pairwise_map]
  refine List.Pairwise.filterMap _ (R:=(· < ·)) (fun a a' haa b hb b' hb'=>?_) List.pairwise_lt_range
  obtain ⟨y,_,rfl⟩:=Option.map_eq_some_iff.mp hb
  obtain ⟨y',_,rfl⟩:=Option.map_eq_some_iff.mp hb'
  exact haa
theorem sB (t:SetTable)(es:Array (Int×Value))(wanted:Nat):(relayAll t es wanted).2.1.plain=true->Ris (relayAll t es wanted).2.1.place:=by
 unfold relayAll
 split
 ·rename_i t' order e
  dsimp only
  split
  ·exact fun _=>wM (show SetTable.laid _ _ _ t.led t.plain _=some (t',order) from e)
  ·exact fun z=>by cases z
 ·exact fun z=>by cases z
theorem Cr (t:SetTable)(es:Array (Int×Value))(h:Int)(x:Value):(layNew t es h x).2.1.led=t.led/\((layNew t es h x).2.1.plain=true->t.plain=true):=by
 unfold layNew
 split
 ·dsimp only
  unfold SetTable.orStandIn
  split
  ·exact ⟨rfl,fun z=>z⟩
  ·exact ⟨rfl,fun z=>by cases z⟩
 ·exact ⟨rfl,fun z=>by cases z⟩
theorem wN {t:SetTable}(h:SetTable.laid mask finger moves led plain hs=some (t,order)):t.led=led/\t.plain=plain:=by
 unfold SetTable.laid at h
 cases e:SetTable.layClean mask hs with
 | none=>rw [e] at h; cases h
 | some owner =>
  rw [e] at h
  have h':=aaj h
  exact ⟨(congrArg (fun p=>p.1.led) h').symm,(congrArg (fun p=>p.1.plain) h').symm⟩
theorem sC (t:SetTable)(es:Array (Int×Value))(wanted:Nat):(relayAll t es wanted).2.1.led=t.led/\((relayAll t es wanted).2.1.plain=true->t.plain=true):=by
 unfold relayAll
 split
 ·rename_i t' order e
  have q:=wN (show SetTable.laid _ _ _ t.led t.plain _=some (t',order) from e)
  dsimp only
  split
  ·exact ⟨q.1,fun z=>by rw [q.2] at z; exact z⟩
  ·exact ⟨rfl,fun z=>by cases z⟩
 ·exact ⟨rfl,fun z=>by cases z⟩
section
variable    [DecidableEq K] (knd:KeyKind prog w K)
def SetZ (h:Heap)(a:Addr)(σ:List K)(L:Bool):Prop :=
 ∃ o es ep t,h.get? a=some o/\o.ExactSet/\o.data=.set es ep t/\ElemsOf knd es.toList/\(∀ k,k ∈ σ↔∃ e ∈ es.toList,knd.is k e.2=true)/\es.size < scanBound/\t.fits es.size=true/\es.size=σ.length/\σ.Nodup/\t.led=L/\(t.plain=true->Ris t.place)
def dedup1 (σ:List K)(k:K):List K:=if k ∈ σ then σ else σ++[k]
variable {knd}   
theorem nodup_snoc {σ:List K}{k:K}(h:σ.Nodup)(hk:k ∉ σ):(σ++[k]).Nodup:=by
 rw [abt]
 refine ⟨h,by simp,fun x hx y hy e=>?_⟩
 have hy:y=k:=(by exists hy)
 rw [e,hy] at hx
 exact hk hx
theorem SetZ.at {σ:List K}(hS:SetZ knd h a σ L)(k:∀ o,h.get? a=some o->h'.get? a=some o):SetZ knd h' a σ L:=by
 obtain ⟨o,es,ep,t,ho,r⟩:=hS
 exact ⟨o,es,ep,t,k o ho,r⟩
theorem J2 {t:SetTable}(ho:h.get? a=some o)(hd:o.data=.set es ep t)(es':Array (Int×Value))(t':SetTable) :
  (h.update a (Obj.putSet es' t')).get? a=some { o with data:=.set es' (ep+1) t' }:=by
 have q:=Heap.get?_update_self (Obj.putSet es' t') ho (by rw [putSet_of es' t' hd]; rfl)
 rw [putSet_of es' t' hd] at q
 exact q
theorem Cs {g:Bool->Sem Unit}(hg:∀ (b:Bool) (s₁:Shared) (Q':Unit->Shared->Prop),Q' () s₁->wpAny (model prog w) A (g b) Q' E s₁)
      {t:SetTable} (ho:s.heap.get? a=some o) (hex:o.ExactSet) (hd:o.data=.set es ep t)
  {es1:Array (Int×Value)} {t2:SetTable} {τ:List K}  (hel:ElemsOf knd es1.toList) (hm:∀ k',k' ∈ τ↔∃ e ∈ es1.toList,knd.is k' e.2=true)
  (hb:es1.size < scanBound) (hf:t2.fits es1.size=true) (hn:es1.size=τ.length) (hnd:τ.Nodup) (hled:t2.led=L) (hpl:t2.plain=true->Ris t2.place) {wasDummy:Bool} {R:Option Bool->Shared->Prop}
  (h:∀ h',Heap.SameBut a s.heap h'->SetZ knd h' a τ L->R (some true) { s with heap:=h' }) :
  wpAny (model prog w) A (do
    storeSet a es1 t2
    if (!wasDummy && t2.tooFull)=true then do
      g (relayAll t2 es1 (SetTable.grown es1.size)).2.2
      storeSet a (relayAll t2 es1 (SetTable.grown es1.size)).1 (relayAll t2 es1 (SetTable.grown es1.size)).2.1
      pure (some true)
     else pure (some true)) R E s:=by
 refine aaa (wpAny_storeSet_of ho hd ?_ (fits_of_scanBound hb))
 have g1:=J2 ho hd es1 t2
 have b1:=Heap.SameBut.update s.heap a (Obj.putSet es1 t2)
 split
 ·have hp:=relayAll_perm t2 es1 (SetTable.grown es1.size)
  have hfr:=relayAll_fits t2 es1 (SetTable.grown es1.size)
  have hlr:=sC t2 es1 (SetTable.grown es1.size)
  have hrr:=sB t2 es1 (SetTable.grown es1.size)
  generalize hR:relayAll t2 es1 (SetTable.grown es1.size)=Y at hp hfr hlr hrr ⊢
  obtain ⟨es2,t3,gave⟩:=Y
  dsimp only at hp hfr hlr hrr ⊢
  have z2:es2.size=es1.size:=by rw [← Array.length_toList,hp.length_eq,Array.length_toList]
  refine aaa (hg _ _ _ ?_)
  refine aaa (wpAny_storeSet_of g1 rfl ?_ (fits_of_scanBound (by rw [z2]; exact hb)))
  exact aab (h _ (b1.trans (Heap.SameBut.update _ a _)) ⟨_,es2,_,t3,J2 g1 rfl es2 t3,hex,rfl,hel.perm hp,fun k'=>(hm k').trans ⟨fun ⟨e,he,q⟩=>⟨e,hp.mem_iff.mpr he,q⟩,fun ⟨e,he,q⟩=>⟨e,hp.mem_iff.mp he,q⟩⟩,
   by rw [z2]; exact hb,hfr,z2.trans hn,hnd,hlr.1.trans hled,hrr⟩)
 ·exact aab (h _ b1 ⟨_,es1,_,t2,g1,hex,rfl,hel,hm,hb,hf,hn,hnd,hled,hpl⟩)
theorem addZ {σ:List K}{k:K}{x:Value}{Q:Bool->Shared->Prop}(hkey:knd.is k x=true)(hsc:x.scannable=true)(hS:SetZ knd s.heap a σ L)(hroom:σ.length+1 < scanBound)
  (h:∀ b h',Heap.SameBut a s.heap h'->SetZ knd h' a (dedup1 σ k) L->Q b { s with heap:=h' }):wpAny (model prog w) A (setAddHashed a x (knd.hash k)) Q E s:=by
 obtain ⟨o,es,ep,t,ho,hex,hd,hel,hm,hb,hf,hn,hnd,hled,hpl⟩:=id hS
 unfold setAddHashed setAddHashedIn
 refine aaB (aaa (aba ho hd hf ?_))
 dsimp only
 rw [byScan_of hsc hb hel]
 simp only [↓reduceIte]
 unfold setAddByScan
 refine aaa ?_
 refine aaa (wpAny_rule ?_)
 refine aaa (wpAny_setScan_of hkey ho hd hf hel ?_)
 cases hr:List.findIdx? (fun e=>knd.is k e.2) es.toList with
 | some j =>
  dsimp only
  obtain ⟨hj,hpj,_⟩:=List.findIdx?_eq_some_iff_getElem.mp hr
  have hk:k ∈ σ:=(hm k).mpr ⟨es.toList[j],aaS hj,hpj⟩
  refine aab (aab ?_)
  have q:=h false s.heap (Heap.SameBut.refl a s.heap) (by unfold dedup1; rw [if_pos hk]; exact hS)
  exact q
 | none =>
  dsimp only
  have hk:k ∉ σ:=fun z=>by
   obtain ⟨e,he,hp⟩:=(hm k).mp z
   have:=List.findIdx?_eq_none_iff.mp hr e he
   rw [hp] at this
   cases this
  have way:∀ (b:Bool) {s₁:Shared} {Q':Unit->Shared->Prop},Q' () s₁->wpAny (model prog w) A (match b with | true=>rule "set.scan.the-table-gave-way" | false=>pure ()) Q' E s₁:=fun b s₁ Q' hq=>by
   cases b
   ·exact aab hq
   ·exact wpAny_rule hq
  have hp:=layNew_perm t es (knd.hash k) x
  have hfi:=layNew_fits t es (knd.hash k) x
  have hll:=Cr t es (knd.hash k) x
  have hlr:=Cq t es (knd.hash k) x hpl
  generalize hL:layNew t es (knd.hash k) x=Y at hp hfi hll hlr ⊢
  obtain ⟨es1,t1,wasDummy,gave⟩:=Y
  dsimp only at hp hfi hll hlr ⊢
  rw [Array.toList_push] at hp
  have z1:es1.size=es.size+1:=by rw [← Array.length_toList,hp.length_eq,List.length_append,Array.length_toList]; rfl
  have hel1:ElemsOf knd es1.toList:=(hel.push hkey hsc).perm hp
  have hm1:∀ k',k' ∈ σ++[k]↔∃ e ∈ es1.toList,knd.is k' e.2=true:=fun k'=>by
   rw [List.mem_append,hm k',List.mem_singleton]
   constructor
   ·rintro (⟨e,he,q⟩ | rfl)
    ·exact ⟨e,hp.mem_iff.mpr (aaT _ he),q⟩
    ·exact ⟨_,hp.mem_iff.mpr (aao _ (List.mem_singleton.mpr rfl)),hkey⟩
   ·rintro ⟨e,he,q⟩
    rcases List.mem_append.mp (hp.mem_iff.mp he) with he | he
    ·exact .inl ⟨e,he,q⟩
    ·rw [List.mem_singleton] at he
     subst he
     exact .inr (knd.inj x k' k q hkey)
  refine aaa (way _ ?_)
  have fin:∀ h',Heap.SameBut a s.heap h'->SetZ knd h' a (σ++[k]) L->Q true { s with heap:=h' }:=fun h' b' z=>h true h' b' (by unfold dedup1; rw [if_neg hk]; exact z)
  have hn1:es1.size=(σ++[k]).length:=by rw [List.length_append,z1,hn]; rfl
  split
  ·refine aaa ?_
   rw [hashByValue_scannable 8 hsc]
   refine aab ?_
   cases hpk:plainKind x with
   | false =>
    refine Cs ?_ ho hex hd hel1 hm1 (by nofun) (by rw [if_neg (by decide)]; exact SetTable.fits_plain_off hfi) hn1 (nodup_snoc hnd hk) (L:=L) (by rw [if_neg (by decide)]; exact hll.1.trans hled) (by rw [if_neg (by decide)]; exact fun z=>nomatch z) ?_
    ·intro b s₁ Q' hq
     exact way b hq
    ·intro h' b' z
     dsimp only
     exact aab (fin h' b' z)
   | true =>
    refine Cs ?_ ho hex hd hel1 hm1 (by nofun) (by rw [if_pos rfl]; exact hfi) hn1 (nodup_snoc hnd hk) (L:=L) (by rw [if_pos rfl]; exact hll.1.trans hled) (by rw [if_pos rfl]; exact hlr) ?_
    ·intro b s₁ Q' hq
     exact way b hq
    ·intro h' b' z
     dsimp only
     exact aab (fin h' b' z)
  ·rename_i hpf
   refine aaa (aab ?_)
   simp only [↓reduceIte]
   refine Cs ?_ ho hex hd hel1 hm1 (by nofun) hfi hn1 (nodup_snoc hnd hk) (L:=L) (hll.1.trans hled) hlr ?_
   ·intro b s₁ Q' hq
    exact way b hq
   ·intro h' b' z
    dsimp only
    exact aab (fin h' b' z)
def metZ (val:Nat->K)(i:Nat):List K:=((List.range i).map val).foldl dedup1 []
theorem io (val:Nat->K)(i:Nat):metZ val (i+1)=dedup1 (metZ val i) (val i):=by
 unfold metZ
 rw [List.range_succ,aae,List.foldl_append]
 rfl
theorem metZ_len (val:Nat->K):∀ i,(metZ val i).length<=i
 | 0=>aac _
 | i+1=>by
  rw [io]
  have ih:=metZ_len val i
  unfold dedup1
  split
  ·nofun
  ·rw [List.length_append,aat]; nofun
theorem metZ_mem (val:Nat->K):∀ (i:Nat) (k:K),k ∈ metZ val i↔∃ j,j < i/\val j=k
 | 0,k=>by
  constructor
  ·intro h; cases h
  ·rintro ⟨j,hj,_⟩; nofun
 | i+1,k=>by
  have e:k ∈ metZ val (i+1)↔k ∈ metZ val i∨val i=k:=by
   rw [io]
   unfold dedup1
   split
   ·rename_i h
    exact ⟨.inl,fun z=>z.elim id fun z=>z ▸ h⟩
   ·rw [List.mem_append,List.mem_singleton]
    exact ⟨fun z=>z.imp id Eq.symm,fun z=>z.imp id Eq.symm⟩
  rw [e,metZ_mem val i k]
  constructor
  ·rintro (⟨j,hj,q⟩ | q)
   ·exact ⟨j,by nofun,q⟩
   ·exact ⟨i,by nofun,q⟩
  ·rintro ⟨j,hj,q⟩
   by_cases z:j=i
   ·exact .inr (z ▸ q)
   ·exact .inl ⟨j,by nofun,q⟩
theorem Cu {R:Result->Shared->Prop}{fp wr:List Addr}{G:Array GenState->Array GenState->Prop}{P:Nat->Value->Prop}{St:Nat->Shared->Prop}(W:WalksS prog w A.in1 I fp wr G n P St)(S:Addr)(hSf:S ∉ fp)
  (val:Nat->K) (hval:∀ i v,P i v->knd.is (val i) v=true/\v.scannable=true) (hb:n+1 < scanBound) :
  ∀ (k i:Nat) (s:Shared),n - i=k->i<=n->St i s->SetZ knd s.heap S (metZ val i) L ->
   (∀ s',Moved (S::wr) G s s'->SetZ knd s'.heap S (metZ val n) L->R (.ok (.ret .none)) s') ->
   codeAny (model prog w) A (.builtin "set.update.loop" ⟨[.ref S,.ref I],[]⟩) R s:=by
 have hSw:S ∉ wr:=fun h=>hSf (W.sub _ h)
 have hsub:∀ b ∈ wr,b ∈ S::wr:=fun b hb=>aag _ hb
 intro k
 induction k with
 | zero =>
  intro i s hk hi hst hS hR
  obtain rfl:i=n:=by nofun
  refine codeAny_builtin PyProof.Rows.F.entry_set_update_loop ?_
  rw [aaU abf _]
  show wpAny _ A.in1 (pyNext (.ref I) >>= _) _ _ s
  refine aaa (W.done s _ _ hst fun s' hm=>?_)
  show wpAny _ A.in1 (ret Value.none) _ _ s'
  exact aab (hR s' (hm.mono hsub) (hS.at fun o ho=>hm.heap S o hSw ho))
 | succ k ih =>
  intro i s hk hi hst hS hR
  have hlt:i < n:=by nofun
  refine codeAny_builtin PyProof.Rows.F.entry_set_update_loop ?_
  rw [aaU abf _]
  show wpAny _ A.in1 (pyNext (.ref I) >>= _) _ _ s
  refine aaa (W.item i s _ _ hlt hst fun v s' hP hst' hm=>?_)
  obtain ⟨hv1,hv2⟩:=hval i v hP
  have hS':SetZ knd s'.heap S (metZ val i) L:=hS.at fun o ho=>hm.heap S o hSw ho
  show wpAny _ A.in1 (holding [v] (setAdd S v) >>= _) _ _ s'
  refine aaa (aaB ?_)
  unfold setAdd
  refine aaB ?_
  refine aaa (knd.pyHash (k:=val i) hv1 ?_)
  refine addZ (s:={ s' with toks:=s'.toks+1 }) hv1 hv2 hS' (by have:=metZ_len val i; nofun) fun b h' hsb hS2=>?_
  rw [← io] at hS2
  refine aab ⟨plainId_quiet abf _,ih (i+1) _ (by nofun) hlt (W.frame _ s' _ _ hst' (aa8 _) fun b hb o e=>?_) hS2 fun s'' hm'' hS''=>?_⟩
  ·rw [hsb.2 b (fun h:b=S=>hSf (by rw [← h]; exact hb))]; exact e
  ·refine hR s'' (Moved.trans W.gtrans ((hm.mono hsub).then_heap (aa8 _) fun b o hb e=>?_) hm'') hS''
   rw [hsb.2 b (fun h:b=S=>hb (by rw [h]; exact aad))]; exact e
end
abbrev byText (w:World):Bool:=w.params.followText "set-order"
abbrev cc (w:World):Obj:={ cls:=.type "set", dict:=none,data:=.set #[] 0 (.fresh 0 0 (!byText w)) }
theorem Cv (a:Value){Q₁:Value->Shared->Prop}(h:Q₁ (.ref s.heap.objs.size) { s with heap:=s.heap.push (cc w) }) :
  codeAny (model prog w) A (.call (.builtin "set.__new__") ⟨[.type "set", a],[]⟩) (wants Q₁ E) s:=by
 refine codeAny_of_tree ?_
 show wpAny _ A.in1 (do checkBuiltinCall "set.__new__" ⟨[.type "set", a],[]⟩; again (.builtin "set.__new__" ⟨[.type "set", a],[]⟩)) _ _ s
 refine aaa (wpAny_of_eq (F.newCall_set_1 a) (aab ⟨plainId_quiet F.plain_set_new _,codeAny_builtin F.entry_set_new ?_⟩))
 rw [aaU F.plain_set_new _]
 unfold Builtin.«set.__new__» Builtin.Frozenset.newClass
 have hsub:=sub_set_self
 obtain ⟨hp,g,d,tk,os⟩:=s
 dsimp only
 wp_walk
 refine abj (aab ?_)
 dsimp only
 simp only [newObj]
 refine aaa (wpAny_alloc (aab ?_))
 exact aab h
section
variable    [DecidableEq K] {knd:KeyKind prog w K}   
theorem Gf (ho:h.get? a=some (cc w)):SetZ knd h a [] (!byText w) :=
 ⟨_,#[],0,_,ho,⟨rfl,rfl,rfl⟩,rfl,fun e he=>by simp at he,fun k=>by simp,by decide,rfl,rfl,aaP,rfl,fun _=>List.Pairwise.nil⟩
set_option maxRecDepth 100000 in
set_option maxHeartbeats 8000000 in
theorem set_of_list {l:Addr}{items:Array Value}(hh:A.handled=none)(hl:s.heap.IsList l items)(val:Nat->K)
  (hval:∀ i v,items[i]?=some v->knd.is (val i) v=true/\v.scannable=true) (hb:items.size+1 < scanBound)
  (h:∀ (h':Heap) (tk:Nat),SetZ knd h' s.heap.objs.size (metZ val items.size) (!byText w)->(∀ b o,b < s.heap.objs.size->s.heap.get? b=some o->h'.get? b=some o)->Q (.ref s.heap.objs.size) { s with heap:=h',toks:=tk }) :
  wpAny (model prog w) A (call (.type "set") [.ref l]) Q E s:=by
 obtain ⟨c,tl,hmro⟩:=F.called_set.mro
 have hmade:=F.called_set.made
 have hsub:=F.called_set.sub
 refine wpAny_call (codeAny_of_tree ?_)
 show wpAny _ _ (callAny (.type "set") _) _ _ _
 refine aab ⟨Code.quiet_builtin _ (by decide +kernel),codeAny_builtin F.entry_type_call ?_⟩
 rw [Around.under_plain (weight_type_call_type "set" [.ref l] []) rfl]
 have h1:=F.called_set.notType
 have h2:=F.called_set.canCreate
 have hct:=F.typeCall_set_1 (.ref l)
 repeat (any_goals (first | assumption | wp_step))
 refine codeAny_mono (Cv (.ref l) (E:=E) (Q₁:=fun obj s₁=>obj=.ref s.heap.objs.size/\s₁={ s with heap:=s.heap.push (cc w) }) ⟨rfl,rfl⟩) fun r s₁ hr=>?_
 cases r with
 | error e=>exact hr
 | ok fl =>
  cases fl with
  | ret obj =>
   obtain ⟨rfl,rfl⟩:=hr
   have hS:(s.heap.push (cc w)).get? s.heap.objs.size=some (cc w):=Heap.get?_push_size _ rfl
   have hT:Shared.TypeIs { s with heap:=s.heap.push (cc w) } (.ref s.heap.objs.size) "set" := ⟨_,hS,rfl⟩
   have hli:=F.called_set.init.lookup
   have hbi:=F.called_set.init.bind (.ref s.heap.objs.size)
   repeat (any_goals (first | assumption | wp_step))
   refine codeAny_mono (codeAny_call_builtin (R:=wants (fun r s₂=>r=.none/\∃ h' tk,s₂={ s with heap:=h',toks:=tk } /\
     SetZ knd h' s.heap.objs.size (metZ val items.size) (!byText w)/\(∀ b o,b < s.heap.objs.size->s.heap.get? b=some o->h'.get? b=some o)) E) F.called_set.init.plain F.entry_set_init (check_set_init_1 hT ?_)) fun r₂ s₂ hr₂=>?_
   ·obtain ⟨ol,hol,hcl,nl,hdl⟩:=hl
    obtain ⟨ocls,odict,odata,oslots⟩:=ol
    simp only at hcl hdl
    subst hcl; subst hdl
    have hol':(s.heap.push (cc w)).get? l=some { cls:=.type "list", dict:=odict,data:=.seq items nl,slots:=oslots }:=Heap.get?_push_of_some _ hol
    have hsls:=F.sub_list_set
    have hslf:=F.sub_list_frozenset
    have hne:(Value.type "list" == Value.type "dict")=false:=by decide
    have hl1:(s.heap.push (cc w)).IsList l items:=⟨_,hol',rfl,nl,rfl⟩
    unfold Builtin.«set.__init__» noKeywords Builtin.Frozenset.updateFrom
    generalize hPI:pyIter=PI
    wp_walk
    subst hPI
    refine wpAny_pyIter_list hl1 ?_
    refine aaa (wpAny_runValue ?_)
    have hlS:l < s.heap.objs.size:=aaf hol
    have hh3:A.in1.in1.in1.handled=none:=by simp [hh]
    have hneI:l≠(s.heap.push (cc w)).objs.size:=by
     rw [abh]; exact aal (aaH hlS)
    have hSf:s.heap.objs.size ∉ [(s.heap.push (cc w)).objs.size,l]:=by
     rw [abh]; simp only [List.mem_cons,List.mem_singleton,List.not_mem_nil,or_false,not_or]
     exact ⟨aal (aaR _),Nat.ne_of_gt hlS⟩
    refine Cu (knd:=knd) ((Walks.list hh3 _ l hneI items).toS) s.heap.objs.size hSf val (fun i v hv=>hval i v hv) hb (items.size - 0) 0 _ (by nofun) (aam _)
     ⟨⟨_,Heap.get?_push_size _ rfl,rfl,rfl⟩,(hl1.push _)⟩ (Gf (Heap.get?_push_of_some _ hS)) ?hR
    case hR =>
     intro s' hm hS'
     obtain ⟨h',g',d',tk',os'⟩:=s'
     have eg:g'=s.gens:=hm.gens
     have ed:d'=s.drawn:=hm.drawn
     have eo:os'=s.os:=hm.os
     subst eg; subst ed; subst eo
     show wpAny _ _ _ _ _ _
     refine aab ?_
     show wpAny _ _ (ret Value.none) _ _ _
     refine aab ⟨rfl,h',tk',rfl,hS',fun b o hb e=>?_⟩
     have hb1:b≠s.heap.objs.size:=aal hb
     have hb2:b≠(s.heap.push (cc w)).objs.size:=by
      rw [abh]; exact aal (aaH hb)
     exact hm.heap b o (by simp only [List.mem_cons,List.mem_singleton,List.not_mem_nil,or_false,not_or]; exact ⟨hb1,hb2⟩) (Heap.get?_push_of_some _ (Heap.get?_push_of_some _ e))
   ·cases r₂ with
    | error e=>exact hr₂
    | ok fl₂ =>
     cases fl₂ with
     | ret r =>
      obtain ⟨rfl,h',tk,rfl,hS',hk'⟩:=hr₂
      repeat (any_goals (first | assumption | wp_step))
      exact h _ _ hS' hk'
     | next=>exact hr₂.elim
     | brk=>exact hr₂.elim
     | cont=>exact hr₂.elim
  | next=>exact hr.elim
  | brk=>exact hr.elim
  | cont=>exact hr.elim
end
theorem je:entryFor table "set.__iter__" = some Builtin.«frozenset.__iter__»:=entryFor_alias (id' := "frozenset.__iter__") (by kernel_rfl) rfl (by decide +kernel) (by kernel_rfl)
theorem j6 (a:Value):argsOk "set.__iter__" ⟨[a],[]⟩:=by unfold argsOk; kernel_rfl
theorem eR:Slot "set_iterator" "__iter__" "set_iterator.__iter__" :=
 .of (owner := "set_iterator") (n := "__iter__") (by rw [typeLookup_type,builtinLookup_eq_fast]; kernel_rfl) (by decide +kernel) (by decide +kernel) (by decide +kernel)
  (by first | exact .inl (by decide +kernel) | exact .inr (by decide +kernel)) (by rw [isSubtype_type]; kernel_rfl)
theorem aK:Slot "set_iterator" "__next__" "set_iterator.__next__" :=
 .of (owner := "set_iterator") (n := "__next__") (by rw [typeLookup_type,builtinLookup_eq_fast]; kernel_rfl) (by decide +kernel) (by decide +kernel) (by decide +kernel)
  (by first | exact .inl (by decide +kernel) | exact .inr (by decide +kernel)) (by rw [isSubtype_type]; kernel_rfl)
theorem ip:entryFor table "set_iterator.__iter__" = some Builtin.«dict_keyiterator.__iter__»:=entryFor_alias (id' := "dict_keyiterator.__iter__") (by kernel_rfl) rfl (by decide +kernel) (by kernel_rfl)
theorem ce:entryFor table "set_iterator.__next__" = some Builtin.«set_iterator.__next__»:=entryFor_of_fast (by kernel_rfl)
theorem jf (a:Value):argsOk "set_iterator.__iter__" ⟨[a],[]⟩:=by unfold argsOk; kernel_rfl
theorem ck (a:Value):argsOk "set_iterator.__next__" ⟨[a],[]⟩:=by unfold argsOk; kernel_rfl
theorem gk {α:Type}:∀ (l:List α) (i:Nat) (h:i < l.length),(l[i]::l.eraseIdx i).Perm l
 | [],_,h=>by simp at h
 | x::l,0,_=>.refl _
 | x::l,i+1,h=>by
  have h':i < l.length:=(by exists h)
  show (l[i]::x::l.eraseIdx i).Perm (x::l)
  exact (List.Perm.swap x l[i] _).trans (List.Perm.cons x (gk l i h'))
theorem lG {k:Nat->Sem α}{Q:α->Shared->Prop}{M:Model}(hn:n≠0)(h:∀ i d',i < n->wpAny M A (k i) Q E { s with drawn:=d' }):wpAny M A (choose .order n >>= k) Q E s:=by
 intro Γ p hΓ
 refine ⟨hn,h _ _ (Nat.mod_lt _ (Nat.pos_of_ne_zero hn)) Γ p hΓ⟩
theorem js {α:Type}{M:Model}:∀ (n:Nat) (xs:List α) (s:Shared) (Q:List α->Shared->Prop),xs.length=n->(∀ ys d',ys.Perm xs->Q ys { s with drawn:=d' })->wpAny M A (drawOrder n xs) Q E s
 | 0,xs,s,Q,hl,h=>by
  have e:xs=[]:=aar hl
  subst e
  exact aab (h [] s.drawn (.refl _))
 | n+1,[],s,Q,hl,h=>by simp at hl
 | n+1,x::xs,s,Q,hl,h=>by
  refine lG (by simp) fun i d1 hi=>?_
  have hx:(x::xs)[i]?=some (x::xs)[i]:=List.getElem?_eq_getElem hi
  rw [hx]
  dsimp only
  refine aaa (js n ((x::xs).eraseIdx i) _ _ (by rw [List.length_eraseIdx_of_lt hi]; simpa using hl) fun ys d' hp=>aab (h _ d' ?_))
  exact (List.Perm.cons _ hp).trans (gk _ i hi)
section
abbrev cZ (first:Value)(i:Nat)(x:Value)(n ep:Nat):Obj:={ cls:=.type "set_iterator", dict:=none,data:=.fields #[first,.int (i:Int) 0,x,.int (n:Int) 0,.int (ep:Int) 0],slots:=#[] }
theorem sD {I:Addr}{Q:Option Value->Shared->Prop}(hh:A.handled=none)(hQ:∀ h',(∀ b o,s.heap.get? b=some o->h'.get? b=some o)->Q none { s with heap:=h' }){QQ:PySem.Fin->Shared->Prop} :
  wpAny (model prog w) A.in1 (do let e ← newExc (.type "StopIteration") []; raiseNew e:Sem PySem.Fin) QQ (fun e s'=>wpAny (model prog w) A (do if (← isInstance e (.type "StopIteration"))=true then pure none else throw e) Q E s') s:=by
 refine aaa ?_
 simp only [newExc,newTuple]
 refine aaa (aaF ?_ (by size_fits))
 refine aaa (m:=firstArgMember _ _) (wpAny_of_eq (a:=Value.none) (by first | rfl | (simp only [firstArgMember]; rfl)) ?_)
 refine aaF ?_ (by size_fits)
 simp only [raiseNew]
 refine aaa (wpAny_handled ?_)
 rw [show A.in1.handled=none from hh]
 refine aaa (aab (wpAny_throw ?_))
 refine aaa (wpAny_isInstance (T := "StopIteration") (b:=true) ⟨_,Heap.get?_push_size _ rfl,rfl⟩ isSubtype_stop ?_)
 exact aab (hQ _ fun b o e=>Heap.get?_push_of_some _ (Heap.get?_push_of_some _ e))
variable    {f:Nat} {t:SetTable} {Q:Option Value->Shared->Prop}
theorem nY {x:Value}{nx:Nat}(ho:s.heap.get? I=some (cZ (.int (f:Int) 0) i (.ref a) n ep))(ha:s.heap.get? a=some o)(hd:o.data=.set es ep t)(hf:t.fits es.size=true)(hn:n=es.size)
  (hs:∀ (E':Value->Shared->Prop) (Q':Option (Value×Nat)->Shared->Prop),Q' (some (x,nx)) s->wpAny (model prog w) A.in1 (setNext a f i ep) Q' E' s)
  (hQ:∀ h',h'.get? I=some (cZ (.int (nx:Int) 0) (i+1) (.ref a) n ep)->Heap.SameBut I s.heap h'->Q (some x) { s with heap:=h' }):wpAny (model prog w) A (pyNext (.ref I)) Q E s:=by
 have hT:s.TypeIs (.ref I) "set_iterator" := ⟨_,ho,rfl⟩
 subst hn
 unfold pyNext
 refine aaa (aby (wpAny_callSpecial?_slot (name:=Str.ofString "__next__") hT aK (aaE aK hT ce ?_ (ck _))))
 unfold Builtin.«set_iterator.__next__»
 refine aaa (m:=slotArgs "__next__" 0 _) (aab ?_)
 try dsimp only
 refine aaa (wpAny_fieldsOf ho rfl ?_)
 try dsimp only
 refine aaa (abk ha hd hf ?_)
 rw [if_neg (by simp)]
 try dsimp only
 simp only [Int.toNat_natCast]
 refine aaa (hs _ _ ?_)
 try dsimp only
 refine aaa (aa4 ho (by simp) fun h1 g1 b1=>?_)
 refine aaa (aa4 (s:={ s with heap:=h1 }) g1 (by simp) fun h2 g2 b2=>?_)
 refine aab ⟨x,rfl,aab (hQ h2 ?_ (b1.trans b2))⟩
 rw [g2]
 rfl
theorem nZ (hh:A.handled=none)(ho:s.heap.get? I=some (cZ (.int (f:Int) 0) i (.ref a) n ep))(ha:s.heap.get? a=some o)(hd:o.data=.set es ep t)(hf:t.fits es.size=true)(hn:n=es.size)
  (hs:∀ (E':Value->Shared->Prop) (Q':Option (Value×Nat)->Shared->Prop),Q' none s->wpAny (model prog w) A.in1 (setNext a f i ep) Q' E' s)
  (hQ:∀ h',(∀ b ob,b≠I->s.heap.get? b=some ob->h'.get? b=some ob)->Q none { s with heap:=h' }):wpAny (model prog w) A (pyNext (.ref I)) Q E s:=by
 have hT:s.TypeIs (.ref I) "set_iterator" := ⟨_,ho,rfl⟩
 subst hn
 unfold pyNext
 refine aaa (aby (wpAny_callSpecial?_slot (name:=Str.ofString "__next__") hT aK (aaE aK hT ce ?_ (ck _))))
 unfold Builtin.«set_iterator.__next__»
 refine aaa (m:=slotArgs "__next__" 0 _) (aab ?_)
 try dsimp only
 refine aaa (wpAny_fieldsOf ho rfl ?_)
 try dsimp only
 refine aaa (abk ha hd hf ?_)
 rw [if_neg (by simp)]
 try dsimp only
 simp only [Int.toNat_natCast]
 refine aaa (hs _ _ ?_)
 try dsimp only
 refine aaa (aa4 ho (by simp) fun h1 g1 b1=>?_)
 exact sD (s:={ s with heap:=h1 }) (I:=I) hh fun h' k=>hQ h' fun b ob hb e=>k b ob ((b1.2 b hb).trans e)
theorem qb {x:Value}{hx:Int}{place:Nat}(ho:s.heap.get? I=some (cZ (.ref pl) i (.ref a) n ep))(ha:s.heap.get? a=some o)(hd:o.data=.set es ep t)(hf:t.fits es.size=true)(hn:n=es.size)
  (hp:s.heap.get? pl=some op) (hpd:op.data=.seq pls c) (hpi:pls[i]?=some (.int (place:Int) 0)) (hx':es[place]?=some (hx,x))
  (hQ:∀ h',h'.get? I=some (cZ (.ref pl) (i+1) (.ref a) n ep)->Heap.SameBut I s.heap h'->Q (some x) { s with heap:=h' }):wpAny (model prog w) A (pyNext (.ref I)) Q E s:=by
 have hT:s.TypeIs (.ref I) "set_iterator" := ⟨_,ho,rfl⟩
 subst hn
 unfold pyNext
 refine aaa (aby (wpAny_callSpecial?_slot (name:=Str.ofString "__next__") hT aK (aaE aK hT ce ?_ (ck _))))
 unfold Builtin.«set_iterator.__next__»
 refine aaa (m:=slotArgs "__next__" 0 _) (aab ?_)
 try dsimp only
 refine aaa (wpAny_fieldsOf ho rfl ?_)
 try dsimp only
 refine aaa (abk ha hd hf ?_)
 rw [if_neg (by simp)]
 try dsimp only
 simp only [Int.toNat_natCast]
 refine aaa (m:=seqItems? _) ?_
 unfold seqItems?
 refine aaa (wpAny_load hp ?_)
 rw [hpd]
 refine aab ?_
 dsimp only
 rw [hpi]
 dsimp only
 simp only [Int.toNat_natCast]
 refine aaa (m:=setNextDrawn _ _ _) ?_
 unfold setNextDrawn
 refine aaa (aba ha hd hf ?_)
 dsimp only
 simp only [bne_self_eq_false,Bool.false_eq_true,if_false]
 rw [hx']
 refine aab ?_
 refine aaa (aa4 ho (by simp) fun h1 g1 b1=>?_)
 refine aab ⟨x,rfl,aab (hQ h1 ?_ b1)⟩
 rw [g1]
 rfl
theorem qc (hh:A.handled=none)(ho:s.heap.get? I=some (cZ (.ref pl) i (.ref a) n ep))(ha:s.heap.get? a=some o)(hd:o.data=.set es ep t)(hf:t.fits es.size=true)(hn:n=es.size)
  (hp:s.heap.get? pl=some op) (hpd:op.data=.seq pls c) (hpi:pls[i]?=none)
  (hQ:∀ h',(∀ b ob,b≠I->s.heap.get? b=some ob->h'.get? b=some ob)->Q none { s with heap:=h' }):wpAny (model prog w) A (pyNext (.ref I)) Q E s:=by
 have hT:s.TypeIs (.ref I) "set_iterator" := ⟨_,ho,rfl⟩
 subst hn
 unfold pyNext
 refine aaa (aby (wpAny_callSpecial?_slot (name:=Str.ofString "__next__") hT aK (aaE aK hT ce ?_ (ck _))))
 unfold Builtin.«set_iterator.__next__»
 refine aaa (m:=slotArgs "__next__" 0 _) (aab ?_)
 try dsimp only
 refine aaa (wpAny_fieldsOf ho rfl ?_)
 try dsimp only
 refine aaa (abk ha hd hf ?_)
 rw [if_neg (by simp)]
 try dsimp only
 simp only [Int.toNat_natCast]
 refine aaa (m:=seqItems? _) ?_
 unfold seqItems?
 refine aaa (wpAny_load hp ?_)
 rw [hpd]
 refine aab ?_
 dsimp only
 rw [hpi]
 dsimp only
 refine aaa (aa4 ho (by simp) fun h1 g1 b1=>?_)
 refine aaa (aa4 (s:={ s with heap:=h1 }) g1 (by simp) fun h2 g2 b2=>?_)
 exact sD (s:={ s with heap:=h2 }) (I:=I) hh fun h' k=>hQ h' fun b ob hb e=>k b ob ((b2.2 b hb).trans ((b1.2 b hb).trans e))
theorem gB {g:Nat}{r:Option (Value×Nat)}(hby:byText w=true)(ha:s.heap.get? a=some o)(hd:o.data=.set es ep t)(hf:t.fits es.size=true)
  (hr:((pickOrder (w.params.setOrder a ep) es)[g]?).map (fun e=>(e.2,slot))=r) (h:Q' r s):wpAny (model prog w) A' (setNext a slot g ep) Q' E s:=by
 unfold setNext
 refine aaa (aba ha hd hf ?_)
 dsimp only
 unfold setsByText
 refine aaa (aaa (abj (aab ?_)))
 rw [show (model prog w).w.params.followText "set-order" = true from hby]
 simp only [bne_self_eq_false,Bool.false_eq_true,if_false,if_true]
 refine aaa (m:=setWalk a) ?_
 unfold setWalk
 refine aaa (aba ha hd hf ?_)
 dsimp only
 unfold setsByText
 refine aaa (aaa (abj (aab ?_)))
 rw [show (model prog w).w.params.followText "set-order" = true from hby]
 simp only [if_true]
 refine aaa (abj (aab ?_))
 refine aab ?_
 rw [← hr] at h
 exact h
theorem iq {g:Nat}(hby:byText w=false)(ha:s.heap.get? a=some o)(hd:o.data=.set es ep t)(hf:t.fits es.size=true)(hdr:(!t.plain && decide (es.size > 1))=false)(hled:t.led=true)
  (h:Q' (match es[SetTable.below t.place slot]?,t.place[SetTable.below t.place slot]? with | some (_,x),some j=>some (x,j+1) | _,_=>none) s):wpAny (model prog w) A' (setNext a slot g ep) Q' E s:=by
 unfold setNext
 refine aaa (aba ha hd hf ?_)
 dsimp only
 unfold setsByText
 refine aaa (aaa (abj (aab ?_)))
 rw [show (model prog w).w.params.followText "set-order" = false from hby]
 simp only [Bool.false_eq_true,if_false]
 show wpAny _ _ (if (!t.plain && decide (es.size > 1))=true then _ else _) _ _ _
 rw [hdr]
 simp only [Bool.false_eq_true,if_false]
 refine aaa ?_
 show wpAny _ _ (if (!t.led && !es.isEmpty)=true then _ else _) _ _ _
 rw [hled]
 simp only [Bool.not_true,Bool.false_and,Bool.false_eq_true,if_false]
 exact aab (aab h)
end
theorem sE {α:Type}(next:Nat->Nat):∀ (fuel k:Nat) (left:List α) (out:Array α),left.length<=fuel->(pickOrder.go next fuel k left out).toList.Perm (out.toList++left)
 | 0,k,left,out,h=>by
  have e:left=[]:=aar (by nofun)
  subst e
  show out.toList.Perm (out.toList++[])
  rw [aaJ]
 | fuel+1,k,[],out,_=>by
  show out.toList.Perm (out.toList++[])
  rw [aaJ]
 | fuel+1,k,x::left,out,h=>by
  show (match (x::left)[next k % (x::left).length]? with
   | some y=>pickOrder.go next fuel (k+1) ((x::left).eraseIdx (next k % (x::left).length)) (out.push y)
   | none=>out).toList.Perm _
  have hi:next k % (x::left).length < (x::left).length:=Nat.mod_lt _ (by simp)
  rw [List.getElem?_eq_getElem hi]
  dsimp only
  refine (sE next fuel (k+1) _ _ (by rw [List.length_eraseIdx_of_lt hi]; simp at h ⊢; nofun)).trans ?_
  rw [Array.toList_push,List.append_assoc]
  exact abv _ (gk _ _ hi)
theorem dO (next:Nat->Nat)(xs:Array α):(pickOrder next xs).toList.Perm xs.toList:=by
 unfold pickOrder
 have q:=sE next xs.size 0 xs.toList #[] (by simp)
 simpa using q
theorem Ar (es:Array (Int×Value)):∀ ys:List Nat,(∀ j ∈ ys,j < es.size)->ys.filterMap (fun j=>(es[j]?).map (·.2))=ys.map fun j=>((es[j]?).map (·.2)).getD Value.none
 | [],_=>rfl
 | j::ys,h=>by
  have hj:=h j aad
  rw [aaz,Array.getElem?_eq_getElem hj]
  show es[j].2::ys.filterMap (fun j=>(es[j]?).map (·.2))=_
  rw [Ar es ys fun i hi=>h i (aag _ hi),List.map_cons,Array.getElem?_eq_getElem hj]
  rfl
section
variable          {t:SetTable}
theorem ir {f x:Value}(ho:s.heap.get? I=some (cZ f i x n ep))(h:Q (.ref I) s):wpAny (model prog w) A (pyIter (.ref I)) Q E s:=by
 have hT:s.TypeIs (.ref I) "set_iterator" := ⟨_,ho,rfl⟩
 refine wpAny_pyIter_slot hT eR (aaE eR hT ip ?_ (jf _))
 show wpAny _ _ (ret (.ref I)) _ _ s
 exact aab ⟨_,rfl, "set_iterator", _,hT,aK.lookup,h⟩
theorem sF (hs:Heap.SameBut I s.heap h'):Moved [I] Eq s { s with heap:=h' } :=
 ⟨fun b ob hb e=>(hs.2 b (fun z=>hb (by simp [z]))).trans e,rfl,rfl,rfl,aac _⟩
theorem sG (hs:∀ b ob,b≠I->s.heap.get? b=some ob->h'.get? b=some ob):Moved [I] Eq s { s with heap:=h' } :=
 ⟨fun b ob hb e=>hs b ob (fun z=>hb (by simp [z])) e,rfl,rfl,rfl,aac _⟩
theorem qd (hh:A.handled=none)(hne:a≠I)(hd:o.data=.set es ep t)(hf:t.fits es.size=true)(hby:byText w=true) :
  WalksS prog w A I [I,a] [I] Eq es.size (fun i v=>((pickOrder (w.params.setOrder a ep) es).toList.map (·.2))[i]?=some v) (fun i s=>s.heap.get? I=some (cZ (.int ((0:Nat):Int) 0) i (.ref a) es.size ep)/\s.heap.get? a=some o) where
 sub:=fun b hb=>by simp at hb; simp [hb]
 grefl:=fun _=>rfl
 gtrans:=fun _ _ _ x y=>x.trans y
 frame:=fun i s h' tk st _ k=>⟨k I (by simp) _ st.1,k a (by simp) _ st.2⟩
 item:=fun i s Q E hi st hQ=>by
  have hl:(pickOrder (w.params.setOrder a ep) es).size=es.size:=by rw [← Array.length_toList,(dO _ es).length_eq,Array.length_toList]
  have hx:(pickOrder (w.params.setOrder a ep) es)[i]?=some ((pickOrder (w.params.setOrder a ep) es)[i]'(by nofun)):=Array.getElem?_eq_getElem _
  refine nY (x:=((pickOrder (w.params.setOrder a ep) es)[i]'(by nofun)).2) (nx:=0) st.1 st.2 hd hf rfl (fun E' Q' q=>gB hby st.2 hd hf (by rw [hx]; rfl) q) fun h' g b=>hQ _ _ ?_ ⟨g,(b.2 a hne).trans st.2⟩ (sF b)
  rw [List.getElem?_map,Array.getElem?_toList,hx]
  rfl
 done:=fun s Q E st hQ=>by
  have hl:(pickOrder (w.params.setOrder a ep) es).size=es.size:=by rw [← Array.length_toList,(dO _ es).length_eq,Array.length_toList]
  refine nZ hh st.1 st.2 hd hf rfl (fun E' Q' q=>gB hby st.2 hd hf (by rw [Array.getElem?_eq_none (by nofun)]; rfl) q) fun h' k=>hQ _ (sG k)
 self:=fun i s Q E st h=>ir st.1 h
theorem sI (hh:A.handled=none)(hne:a≠I)(hd:o.data=.set es ep t)(hf:t.fits es.size=true)(hby:byText w=false)(hdr:(!t.plain && decide (es.size > 1))=false)(hr:Ris t.place)(hled:t.led=true) :
  WalksS prog w A I [I,a] [I] Eq es.size (fun i v=>(es.toList.map (·.2))[i]?=some v) (fun i s=>(∃ f:Nat,SetTable.below t.place f=i/\s.heap.get? I=some (cZ (.int (f:Int) 0) i (.ref a) es.size ep))/\s.heap.get? a=some o) where
 sub:=fun b hb=>by simp at hb; simp [hb]
 grefl:=fun _=>rfl
 gtrans:=fun _ _ _ x y=>x.trans y
 frame:=fun i s h' tk st _ k=>by
  obtain ⟨⟨f,f0,g⟩,ga⟩:=st
  exact ⟨⟨f,f0,k I (by simp) _ g⟩,k a (by simp) _ ga⟩
 item:=fun i s Q E hi st hQ=>by
  obtain ⟨⟨f,f0,g⟩,ga⟩:=st
  have hsz:t.place.size=es.size:=by
   have hf':=hf
   simp only [SetTable.fits,Bool.and_eq_true,beq_iff_eq] at hf'
   exact hf'.1
  have hpl:t.place[i]?=some (t.place[i]'(by nofun)):=Array.getElem?_eq_getElem _
  have hes:es[i]?=some (es[i]'hi):=Array.getElem?_eq_getElem _
  refine nY (x:=(es[i]'hi).2) (nx:=(t.place[i]'(by nofun))+1) g ga hd hf rfl (fun E' Q' q=>iq hby ga hd hf hdr hled (by rw [f0,hes,hpl]; exact q)) fun h' g' b=>hQ _ _ ?_ ⟨⟨_,p8 hr hpl,g'⟩,(b.2 a hne).trans ga⟩ (sF b)
  rw [List.getElem?_map,Array.getElem?_toList,hes]
  rfl
 done:=fun s Q E st hQ=>by
  obtain ⟨⟨f,f0,g⟩,ga⟩:=st
  refine nZ hh g ga hd hf rfl (fun E' Q' q=>iq hby ga hd hf hdr hled ?_) fun h' k=>hQ _ (sG k)
  have hbe:es[SetTable.below t.place f]?=none:=by rw [f0]; exact Array.getElem?_eq_none (aac _)
  rw [hbe]
  exact q
 self:=fun i s Q E st h=>by
  obtain ⟨⟨f,f0,g⟩,ga⟩:=st
  exact ir g h
theorem mW {ys:List Nat}(hh:A.handled=none)(hne:a≠I)(hnp:pl≠I)(hd:o.data=.set es ep t)(hf:t.fits es.size=true)(hpd:op.data=.seq (ys.map fun (i:Nat)=>Value.int (i:Int) 0).toArray c)(hys:ys.Perm (List.range es.size)) :
  WalksS prog w A I [I,a,pl] [I] Eq es.size (fun i v=>(ys.filterMap fun j=>(es[j]?).map (·.2))[i]?=some v) (fun i s=>s.heap.get? I=some (cZ (.ref pl) i (.ref a) es.size ep)/\s.heap.get? a=some o/\s.heap.get? pl=some op) where
 sub:=fun b hb=>by simp at hb; simp [hb]
 grefl:=fun _=>rfl
 gtrans:=fun _ _ _ x y=>x.trans y
 frame:=fun i s h' tk st _ k=>⟨k I (by simp) _ st.1,k a (by simp) _ st.2.1,k pl (by simp) _ st.2.2⟩
 item:=fun i s Q E hi st hQ=>by
  have hl:ys.length=es.size:=by rw [hys.length_eq,List.length_range]
  have hyi:ys[i]?=some (ys[i]'(by nofun)):=List.getElem?_eq_getElem _
  have hlt:ys[i]'(by nofun) < es.size:=List.mem_range.mp (hys.mem_iff.mp (aaS _))
  have hes:es[ys[i]'(by nofun)]?=some es[ys[i]'(by nofun)]:=Array.getElem?_eq_getElem hlt
  refine qb (x:=es[ys[i]'(by nofun)].2) (hx:=es[ys[i]'(by nofun)].1) (place:=ys[i]'(by nofun)) st.1 st.2.1 hd hf rfl st.2.2 hpd (by rw [List.getElem?_toArray,List.getElem?_map,hyi]; rfl) hes fun h' g b=>hQ _ _ ?_ ⟨g,(b.2 a hne).trans st.2.1,(b.2 pl hnp).trans st.2.2⟩ (sF b)
  have all:=Ar es ys fun j hj=>List.mem_range.mp (hys.mem_iff.mp hj)
  rw [all,List.getElem?_map,hyi]
  show some (((es[ys[i]'(by nofun)]?).map (·.2)).getD Value.none)=_
  rw [hes]
  rfl
 done:=fun s Q E st hQ=>by
  have hl:ys.length=es.size:=by rw [hys.length_eq,List.length_range]
  exact qc hh st.1 st.2.1 hd hf rfl st.2.2 hpd (by rw [List.getElem?_toArray,List.getElem?_eq_none (by rw [List.length_map]; nofun)]) fun h' k=>hQ _ (sG k)
 self:=fun i s Q E st h=>ir st.1 h
theorem wO (ha:s.heap.get? a=some o)(hex:o.ExactSet)(hd:o.data=.set es ep t)(hf:t.fits es.size=true)(hb:es.size < scanBound)(hled:t.led=!byText w)(hpl:t.plain=true->Ris t.place)
  (h:∀ (I:Addr) (fp:List Addr) (St:Nat->Shared->Prop) (ord:List Value) (h':Heap) (d':Drawn),(∀ A':Around,A'.handled=none->WalksS prog w A' I fp [I] Eq es.size (fun i v=>ord[i]?=some v) St)->St 0 { s with heap:=h',drawn:=d' } ->
   (∀ b ∈ fp,b < h'.objs.size)->I ∈ fp->a≠I->(∀ b ∈ fp,b=a∨s.heap.objs.size<=b)->ord.Perm (es.toList.map (·.2))->(∀ b ob,s.heap.get? b=some ob->h'.get? b=some ob)->Q (.ref I) { s with heap:=h',drawn:=d' }) :
  wpAny (model prog w) A (pyIter (.ref a)) Q E s:=by
 have hT:s.TypeIs (.ref a) "set" := ⟨o,ha,hex.1⟩
 refine wpAny_pyIter_slot hT F.slot_set_iter (aaE F.slot_set_iter hT je ?_ (j6 _))
 unfold Builtin.«frozenset.__iter__»
 refine aaa (m:=Builtin.Frozenset.slot0 "__iter__" _) (aab ?_)
 refine aaa (m:=Builtin.Frozenset.sizeOf _) (aaa (abk ha hd hf (aab ?_)))
 have alt:a < s.heap.objs.size:=aaf ha
 unfold setDrawn
 refine aaa (aaa (aba ha hd hf ?_))
 dsimp only
 unfold setsByText
 refine aaa (aaa (abj (aab ?_)))
 refine aab ?_
 show wpAny _ _ (if (!byText w && (!t.plain && decide (es.size > 1)))=true then _ else _) _ _ _
 have fin:∀ (first:Value) (h1:Heap) (d1:Drawn),(∀ b ob,s.heap.get? b=some ob->h1.get? b=some ob)->s.heap.objs.size<=h1.objs.size ->
   (∀ (I:Addr),I=h1.objs.size->Q (.ref I) { s with heap:=h1.push (cZ first 0 (.ref a) es.size ep),drawn:=d1 }) ->
   wpAny (model prog w) A.in1 (do
    let e ← setEpoch a
    let v ← newFields "set_iterator" [first,rawInt 0,Value.ref a,rawInt es.size,rawInt e]
    ret v) (fun fin s'=>∃ v,fin=Fin.done (Flow.ret v)/\∃ T' r,s'.TypeIs v T'/\typeLookup (Value.type T') (Str.ofString "__next__")=pure (some r)/\Q v s') E { s with heap:=h1,drawn:=d1 }:=by
  intro first h1 d1 k hz q
  refine aaa (wpAny_setEpoch_of (s:={ s with heap:=h1,drawn:=d1 }) (k a o ha) hd hf ?_)
  exact aaa (aaF (aab ⟨_,rfl, "set_iterator", _,⟨_,Heap.get?_push_size _ rfl,rfl⟩,aK.lookup,q _ rfl⟩))
 by_cases hdr:(!byText w && (!t.plain && decide (es.size > 1)))=true
 ·rw [if_pos hdr]
  refine aaa (js es.size (List.range es.size) s _ (by simp) fun ys d' hp=>?_)
  refine aaa (wpAny_newTuple ?_ (by rw [List.length_map,hp.length_eq,List.length_range]; exact fits_of_scanBound hb))
  generalize hP:({ cls:=.type "tuple", data:=.seq (ys.map fun (i:Nat)=>rawInt (i:Int)).toArray }:Obj)=op
  have hz1:(s.heap.push op).objs.size=s.heap.objs.size+1:=abh ..
  have hop:op.data=.seq (ys.map fun (i:Nat)=>Value.int (i:Int) 0).toArray 0:=by rw [← hP]; rfl
  refine fin _ (s.heap.push op) d' (fun b ob e=>Heap.get?_push_of_some _ e) (by rw [hz1]; exact aa8 _) fun I hI=>?_
  rw [hz1] at hI
  have hpI:s.heap.objs.size≠I:=by rw [hI]; exact aal (aaR _)
  have haI:a≠I:=by rw [hI]; exact aal (aaH alt)
  have hz2:((s.heap.push op).push (cZ (.ref s.heap.objs.size) 0 (.ref a) es.size ep)).objs.size=s.heap.objs.size+2:=by rw [abh,hz1]
  have q1:((s.heap.push op).push (cZ (.ref s.heap.objs.size) 0 (.ref a) es.size ep)).get? I=some (cZ (.ref s.heap.objs.size) 0 (.ref a) es.size ep):=by
   rw [hI,← hz1]
   exact Heap.get?_push_size _ rfl
  have q2:((s.heap.push op).push (cZ (.ref s.heap.objs.size) 0 (.ref a) es.size ep)).get? a=some o:=Heap.get?_push_of_some _ (Heap.get?_push_of_some _ ha)
  have q3:((s.heap.push op).push (cZ (.ref s.heap.objs.size) 0 (.ref a) es.size ep)).get? s.heap.objs.size=some op:=Heap.get?_push_of_some _ (Heap.get?_push_size s.heap (o:=op) (by rw [← hP]; rfl))
  have q4:∀ b ∈ [I,a,s.heap.objs.size],b < ((s.heap.push op).push (cZ (.ref s.heap.objs.size) 0 (.ref a) es.size ep)).objs.size:=by
   intro b hb
   rw [hz2]
   simp only [List.mem_cons,List.not_mem_nil,or_false] at hb
   rcases hb with rfl | rfl | rfl
   ·rw [hI]; exact aaR _
   ·exact aaH (aaH alt)
   ·exact aaH (aaR _)
  have q6:∀ b ∈ [I,a,s.heap.objs.size],b=a∨s.heap.objs.size<=b:=by
   intro b hb
   simp only [List.mem_cons,List.not_mem_nil,or_false] at hb
   rcases hb with rfl | rfl | rfl
   ·exact .inr (by rw [hI]; exact aa8 _)
   ·exact .inl rfl
   ·exact .inr (aac _)
  have q5:(ys.filterMap fun j=>(es[j]?).map (·.2)).Perm (es.toList.map (·.2)):=by
   refine (hp.filterMap fun j=>(es[j]?).map (·.2)).trans ?_
   rw [← PySem.filterMap_getElem?_range es,List.map_filterMap]
  exact h I [I,a,s.heap.objs.size] _ (ys.filterMap fun j=>(es[j]?).map (·.2)) _ d' (fun A' hA=>mW (op:=op) hA haI hpI hd hf hop hp) ⟨q1,q2,q3⟩ q4 (by simp) haI q6 q5 (fun b ob e=>Heap.get?_push_of_some _ (Heap.get?_push_of_some _ e))
 ·rw [if_neg hdr]
  refine aaa (aab ?_)
  refine fin _ s.heap s.drawn (fun b ob e=>e) (aac _) fun I hI=>?_
  have haI:a≠I:=by rw [hI]; exact aal alt
  have hfp:∀ b ∈ [I,a],b < (s.heap.push (cZ (rawInt 0) 0 (.ref a) es.size ep)).objs.size:=by
   intro b hb
   rw [abh]
   simp only [List.mem_cons,List.not_mem_nil,or_false] at hb
   rcases hb with rfl | rfl
   ·rw [hI]; exact aaR _
   ·exact aaH alt
  have q1:(s.heap.push (cZ (rawInt 0) 0 (.ref a) es.size ep)).get? I=some (cZ (rawInt 0) 0 (.ref a) es.size ep):=by rw [hI]; exact Heap.get?_push_size _ rfl
  have q2:(s.heap.push (cZ (rawInt 0) 0 (.ref a) es.size ep)).get? a=some o:=Heap.get?_push_of_some _ ha
  have q6:∀ b ∈ [I,a],b=a∨s.heap.objs.size<=b:=by
   intro b hb
   simp only [List.mem_cons,List.not_mem_nil,or_false] at hb
   rcases hb with rfl | rfl
   ·exact .inr (by rw [hI]; exact aac _)
   ·exact .inl rfl
  cases hby:byText w with
  | true=>exact h I [I,a] _ ((pickOrder (w.params.setOrder a ep) es).toList.map (·.2)) _ s.drawn (fun A' hA=>qd hA haI hd hf hby) ⟨q1,q2⟩ hfp (by simp) haI q6 ((dO _ es).map _) (fun b ob e=>Heap.get?_push_of_some _ e)
  | false =>
   have hdr':(!t.plain && decide (es.size > 1))=false:=by
    rw [hby,Bool.not_false,Bool.true_and] at hdr
    exact Bool.eq_false_iff.mpr hdr
   have hr:Ris t.place:=by
    cases q:t.plain with
    | true=>exact hpl q
    | false =>
     rw [q,Bool.not_false,Bool.true_and] at hdr'
     have h1:¬ es.size > 1:=of_decide_eq_false hdr'
     have hsz:t.place.size=es.size:=by
      have hf':=hf
      simp only [SetTable.fits,Bool.and_eq_true,beq_iff_eq] at hf'
      exact hf'.1
     have hl:t.place.toList.length<=1:=by rw [Array.length_toList]; nofun
     unfold Ris
     match hq:t.place.toList,hl with
     | [],_=>exact .nil
     | [x],_=>exact List.pairwise_singleton _ _
   exact h I [I,a] _ (es.toList.map (·.2)) _ s.drawn (fun A' hA=>sI hA haI hd hf hby hdr' hr (by rw [hled,hby]; rfl)) ⟨⟨0,p7 hr,q1⟩,q2⟩ hfp (by simp) haI q6 (.refl _) (fun b ob e=>Heap.get?_push_of_some _ e)
end
section
variable          {t:SetTable}
theorem wP {Q:Bool->Shared->Prop} (hT:s.TypeIs (.ref a) "set") (h:Q false s):wpAny (model prog w) A (Builtin.List.listLengthHint (.ref a)) Q E s:=by
 unfold Builtin.List.listLengthHint
 refine aaa (wpAny_specialOf hT F.slot_set_len.lookup ?_)
 generalize hid:("set.__len__" : String)=id0
 wp_delta
 rw [show splitId id0=some ("set", "__len__") from by subst hid; decide +kernel]
 subst hid
 refine aaa (wpAny_isInstance (b:=true) hT sub_set_self ?_)
 rw [if_neg (by decide)]
 show wpAny _ _ (if _=true then _ else _) _ _ _
 rw [if_pos (by decide +kernel)]
 refine aaa (wpAny_typeOf hT ?_)
 exact aab h
theorem iu {Q:List Value->Shared->Prop}(hh:A.handled=none)(ha:s.heap.get? a=some o)(hex:o.ExactSet)(hd:o.data=.set es ep t)(hf:t.fits es.size=true)(hb:es.size < scanBound)(hled:t.led=!byText w)(hpl:t.plain=true->Ris t.place)
  (hQ:∀ (vs:List Value) (h':Heap) (d':Drawn) (tk:Nat),vs.Perm (es.toList.map (·.2))->s.heap.objs.size < h'.objs.size->(∀ b ob,s.heap.get? b=some ob->h'.get? b=some ob)->Q vs { s with heap:=h',drawn:=d',toks:=tk }) :
  wpAny (model prog w) A (collect (.ref a)) Q E s:=by
 have alt:a < s.heap.objs.size:=aaf ha
 unfold collect
 refine aaa (wpAny_runValue (codeAny_builtin F.entry_proto_collect ?_))
 rw [aaU F.plain_proto_collect _]
 show wpAny _ A.in1 (newList [] >>= fun l=>again (.builtin "list.__iadd__" ⟨[l,.ref a],[]⟩)) _ _ s
 refine aaa (aaF ?_)
 refine aab ⟨plainId_quiet F.plain_list_iadd _,codeAny_builtin F.entry_list_iadd ?_⟩
 rw [aaU F.plain_list_iadd _]
 generalize hL:({ cls:=.type "list", dict:=none,data:=.seq ([]:List Value).toArray }:Obj)=ol
 have g1:(s.heap.push ol).get? s.heap.objs.size=some ol:=Heap.get?_push_size s.heap (o:=ol) (by rw [← hL]; rfl)
 have ga:(s.heap.push ol).get? a=some o:=Heap.get?_push_of_some _ ha
 have hT:Shared.TypeIs { s with heap:=s.heap.push ol } (.ref a) "set" := ⟨o,ga,hex.1⟩
 show wpAny _ A.in1 (Builtin.List.listExtendWith (.ref s.heap.objs.size) (.ref a) (.ref s.heap.objs.size)) _ _ _
 unfold Builtin.List.listExtendWith
 refine aaa (wpAny_typeOf hT ?_)
 have h1:Builtin.List.listSameRef (.ref s.heap.objs.size) (.ref a)=false:=by
  simp only [Builtin.List.listSameRef,beq_eq_false_iff_ne]
  exact (aal alt).symm
 rw [if_neg (by rw [h1]; decide)]
 refine aaa (wO (s:={ s with heap:=s.heap.push ol }) ga hex hd hf hb hled hpl fun I fp St ord h2 d2 W st0 hfp hI haI hfq hord hk=>?_)
 refine aaa (aaB (wP ⟨o,hk a o ga,hex.1⟩ ?_))
 rw [if_pos (by decide)]
 refine aaa (wpAny_rule ?_)
 refine aaa ?_
 have g2:h2.get? s.heap.objs.size=some { cls:=.type "list", data:=.seq ([]:List Value).toArray }:=by rw [hL]; exact hk _ _ g1
 show wpAny _ A.in1 (updateSeq s.heap.objs.size (·.push .none) >>= fun _=>updateSeq s.heap.objs.size (·.pop)) _ _ _
 refine aaa (wpAny_updateSeq (s:={ s with heap:=h2,drawn:=d2 }) g2 rfl ?_)
 have g3:=Heap.get?_update_self (Obj.mapSeq (·.push Value.none)) g2 rfl
 refine wpAny_updateSeq g3 rfl ?_
 have g4:=Heap.get?_update_self (Obj.mapSeq (·.pop)) g3 rfl
 generalize hh3:(h2.update s.heap.objs.size (Obj.mapSeq (·.push Value.none))).update s.heap.objs.size (Obj.mapSeq (·.pop))=h3 at g4 ⊢
 have oth:∀ b ob,b≠s.heap.objs.size->h2.get? b=some ob->h3.get? b=some ob:=fun b ob hne e=>by
  rw [← hh3]
  exact (Heap.get?_update_other _ _ (abr hne)).trans ((Heap.get?_update_other _ _ (abr hne)).trans e)
 have hz:(s.heap.push ol).objs.size=s.heap.objs.size+1:=abh ..
 have hSf:s.heap.objs.size ∉ fp:=fun hm=>by
  rcases hfq _ hm with z | z
  ·exact absurd z (aal alt).symm
  ·have z:(s.heap.push ol).objs.size<=s.heap.objs.size:=z
   rw [hz] at z
   exact absurd z (Nat.not_succ_le_self _)
 have hIS:I≠s.heap.objs.size:=fun e=>hSf (e ▸ hI)
 have st1:=(W A.in1 hh).frame 0 _ h3 s.toks st0 (aac _) fun b hb ob e=>oth b ob (fun z=>hSf (z ▸ hb)) e
 have lt0:∀ b ob,s.heap.get? b=some ob->b≠s.heap.objs.size/\b≠I:=fun b ob e=>by
  refine ⟨aal (aaf e),fun z=>?_⟩
  rcases hfq _ hI with y | y
  ·exact haI y.symm
  ·have y:(s.heap.push ol).objs.size<=I:=y
   rw [hz,← z] at y
   exact absurd (aan (aaf e) (Nat.le_of_succ_le y)) (aaI _)
 refine aab ⟨plainId_quiet F.plain_extend_loop _,codeAny_extend_loopS (W A.in1 hh) (fits_of_scanBound hb) _ hSf _ es.size 0 _ _ _ rfl (aam _) st1 g4 (ItemsOf.nil _) fun s' acc c' hm gS hacc=>?_⟩
 show wpAny _ A (load s.heap.objs.size >>= _) _ _ s'
 refine aaa (wpAny_load gS ?_)
 refine aab ?_
 obtain ⟨h9,g9,d9,tk9,os9⟩:=s'
 have eg:g9=s.gens:=hm.gens.symm
 have ed:d9=d2:=hm.drawn
 have eo:os9=s.os:=hm.os
 subst eg ed eo
 have hl:ord.length=es.size:=by rw [hord.length_eq,List.length_map,Array.length_toList]
 have hv:acc.toList=ord:=by
  refine List.ext_getElem? fun j=>?_
  by_cases hj:j < acc.size
  ·have e1:acc[j]?=some acc[j]:=Array.getElem?_eq_getElem hj
   rw [Array.getElem?_toList,e1,hacc.2 j _ e1]
  ·have hj':es.size<=j:=by rw [hacc.1] at hj; nofun
   rw [Array.getElem?_toList,Array.getElem?_eq_none (by nofun),List.getElem?_eq_none (by nofun)]
 refine hQ _ h9 _ tk9 (by rw [hv]; exact hord) (aaf gS) fun b ob e=>?_
 obtain ⟨n1,n2⟩:=lt0 b ob e
 exact hm.heap b ob (by simp [n1,n2]) (oth b ob n1 (hk b ob (Heap.get?_push_of_some _ e)))
end
theorem fj {α:Type}[DecidableEq α]:∀ (σ ss:List α),σ.Nodup->(∀ k ∈ σ,k ∈ ss)->ss.length=σ.length->ss.Perm σ
 | [],ss,_,_,hl=>by
  have:ss=[]:=aar (by exists hl)
  subst this; exact .refl _
 | k::σ,ss,hn,hm,hl=>by
  have hk:k ∈ ss:=hm k (aad ..)
  have hp:=List.perm_cons_erase hk
  have hn':=List.nodup_cons.mp hn
  have hlen:(ss.erase k).length=σ.length:=by
   have:=hp.length_eq
   simp only [List.length_cons] at this hl
   nofun
  refine hp.trans (.cons k (fj σ (ss.erase k) hn'.2 (fun j hj=>?_) hlen))
  have hne:j≠k:=fun e=>hn'.1 (e ▸ hj)
  exact (List.mem_erase_of_ne hne).mpr (hm j (aag _ hj))
theorem wQ {x:Str}{v:Value}(h:Value.isStrOf x v=true):strOf v=x:=by
 obtain ⟨t,rfl⟩:=Value.isStrOf_shape h; rfl
theorem sorted_set {σ:List Str}(hh:A.handled=none)(hS:SetZ (PySem.strKind prog w) s.heap a σ (!byText w))(h64:σ.length < 64)
  (hQ:∀ (p:Addr) (out:List Value) (ss:List Str) (e:Nat) (h':Heap) (d':Drawn) (tk:Nat),s.heap.objs.size<=p->h'.get? p=some (seqObj "list" out.toArray e)->StrsAre out ss->ss.Perm σ->sortedS ss=true ->
   (∀ b o,s.heap.get? b=some o->h'.get? b=some o)->Q (.ref p) { s with heap:=h',drawn:=d',toks:=tk }) :
  wpAny (model prog w) A (call (.builtin "sorted") [.ref a]) Q E s:=by
 obtain ⟨o,es,ep,t,ho,hex,hd,hE,hmem,hb,hf,hsz,hnd,hled,hpl⟩:=hS
 refine abi kind_sorted plain_sorted entry_sorted (args_sorted1 _) ?_
 unfold Builtin.«sorted»
 refine aaa (m:=checkCount "sorted" 1 1 _) (aab ?_)
 refine aaa (iu (by exists hh) ho hex hd hf hb hled hpl fun vs h' d' tk hperm hlt hk=>?_)
 have hlen:vs.length=σ.length:=by rw [hperm.length_eq,List.length_map,Array.length_toList]; exact hsz
 refine aaa (wpAny_newList ?_ (hsz:=by rw [sizeLine_eq]; nofun))
 show wpAny _ _ _ _ _ { s with heap:=h'.push (seqObj "list" vs.toArray 0),drawn:=d',toks:=tk }
 have hoL:(h'.push (seqObj "list" vs.toArray 0)).get? h'.objs.size=some (seqObj "list" vs.toArray 0):=Heap.get?_push_size _ rfl
 have hstr:∀ v ∈ vs,∃ x t,v=.str x t:=fun v hv=>by
  have hv':=hperm.mem_iff.mp hv
  obtain ⟨e,he,rfl⟩:=List.mem_map.mp hv'
  obtain ⟨⟨k,hk,_⟩,_⟩:=hE e he
  obtain ⟨t,q⟩:=Value.isStrOf_shape hk
  exact ⟨k,t,q⟩
 have hSA:=strsAre_map vs hstr
 have hps:(vs.map strOf).Perm σ:=by
  refine fj σ _ hnd (fun k hk=>?_) (by rw [List.length_map,hlen])
  obtain ⟨e,he,hke⟩:=(hmem k).mp hk
  refine List.mem_map.mpr ⟨e.2,hperm.mem_iff.mpr (List.mem_map.mpr ⟨e,he,rfl⟩),wQ hke⟩
 have hle:s.heap.objs.size<=h'.objs.size:=Nat.le_of_lt hlt
 refine aaa (aaB (aaE slot_list_sort ⟨_,hoL,rfl⟩ entry_list_sort (list_sort_treeK strKind_oneLt hoL hSA.keysOf (fun v₁ v₂ rest e=>keyKind_strs (by rw [← e]; exact hSA)) (by rw [hlen]; exact h64) fun st' a1 a2=>⟨_,rfl,?_⟩) (args_list_sort _)))
 obtain ⟨ss',b1,b2,b3⟩:=sorted_out_str hSA a1 a2
 obtain ⟨e',he'⟩:=sortedHeap_at (out:=(arrOf st').map (·.2)) hoL
 refine aab ⟨_,rfl,hQ h'.objs.size ((arrOf st').map (·.2)).toList ss' e' _ d' tk hle (by rw [abe]; exact he') b1 (b2.trans hps) b3 fun b ob hb=>?_⟩
 have hbl:b < h'.objs.size:=aan (aaf hb) hle
 rw [sortedHeap_old (aal hbl) (by rw [size_push']; exact aaH hbl)]
 exact Heap.get?_push_of_some _ (hk b ob hb)
end KS
namespace L2
open PySem PySem.Spec PyProof.Rows
variable{ss zs:List Str}{X:Cx}{σ σ0:St}{H F F' H' Z F1:Hp}{s:Shared}{a p:Addr}{ty tv te ta tb:TE}{pos:Pos}{ixs T μ m:List Nat}{i n j no:Nat}{y z b:Str}{wi:TI}{tc u:TT}{ys:List (Key×V)}{Q:VK}{v:V}{xs vs:List V}{A B:List Addr}{ks:List Key}{t:TA}{gs:TGs}{k:Key}{w:World}{gV:Int->Int->V}
theorem dP {vs:List Value}(h:StrsAre vs ss):Vals (ss.map V.str) vs:=by
 induction h with
 | nil=>exact .nil
 | cons y t h ih=>exact .cons ⟨t,rfl⟩ ih
theorem dQ:∀ {ss:List Str} {vs:List Value},Vals (ss.map V.str) vs->StrsAre vs ss
 | [],_,.nil=>.nil
 | s::ss,_,.cons ⟨t,e⟩ r=>by subst e; exact .cons s t (dQ r)
theorem As:∀ {vs:List Value} {ss:List Str} {i:Nat} {v:Value},StrsAre vs ss->vs[i]?=some v->∃ t,v=.str (ss.getD i "") t
 | _,_,_,_,.nil,e=>by simp at e
 | _,_,0,_,.cons y t h,e=>by simp at e; exact ⟨t,by rw [← e]; rfl⟩
 | _,_,i+1,v,.cons y t h,e=>by
  obtain ⟨u,q⟩:=As (i:=i) (v:=v) h (by exists e)
  exact ⟨u,(by exists q)⟩
theorem StrsAre.len:∀ {vs:List Value} {ss:List Str},StrsAre vs ss->vs.length=ss.length
 | _,_,.nil=>rfl
 | _,_,.cons _ _ h=>by simp [StrsAre.len h]
def Gg (P:Program)(w:World)(q:Addr)(σ:List Str):HO:=.ext fun h=>KS.SetZ (PySem.strKind P w) h q σ (!KS.byText w)
theorem Inv.laidD {pins:List (Addr×Obj)}{h':Heap}{o:HO}{t':Nat}{d':Drawn}(I:Inv X pins σ H s)(k:∀ b u,s.heap.get? b=some u->h'.get? b=some u)(hp:s.heap.objs.size<=a)(new:ObjOk X.prog X.w (upd H a o) h' a o) :
  Inv X pins σ (upd H a o) { s with heap:=h',drawn:=d',toks:=t' } :=
 I.call (ch:=[]) (g':=s.gens) (Un.laid k hp (I.hok.fresh hp)) (I.hok.laid k hp new) I.bare (fun _ z=>nomatch z)
def Ih (P:Program)(w:World)(K:Frag):List V->Hp->VK->Prop:=fun xs H Q=>∃ (p:Addr) (zs:List Str),xs=[.ref p]/\SqL K H p (zs.map .str)/\zs.length+1 < scanBound /\
 ∀ q σ,H q=none->(∀ k,k ∈ σ↔k ∈ zs)->σ.Nodup->σ.length<=zs.length->Q (.ref q) (upd H q (Gg P w q σ))
theorem sJ (hc:X.calm=true):CallR X (.type "set") (Ih X.prog X.w X.K):=by
 intro pins s σ H xs us Q I r h
 obtain ⟨p,zs,rfl,hq,hz,q⟩:=h
 obtain ⟨u,rfl,rx⟩:=dH r
 cases rx
 obtain ⟨its,r',pl,hz'⟩:=I.list hq
 have hS:=dQ r'
 have hlen:=StrsAre.len hS
 refine KS.set_of_list (knd:=PySem.strKind X.prog X.w) (I.ok.hd hc) pl.isList (fun i=>zs.getD i "") (fun i v e=>?_) (by simp only [List.size_toArray]; nofun) fun h' tk hZ hk=>?_
 ·obtain ⟨t,rfl⟩:=As (i:=i) hS (by exists e)
  exact ⟨kX _ t,rfl⟩
 ·have hmem:∀ k,k ∈ KS.metZ (fun i=>zs.getD i "") its.toArray.size↔k ∈ zs:=fun k=>by
   rw [KS.metZ_mem]
   simp only [List.size_toArray,hlen]
   constructor
   ·rintro ⟨j,hj,rfl⟩
    rw [List.getD,List.getElem?_eq_getElem hj]; exact aaS hj
   ·intro hk
    obtain ⟨j,hj,e⟩:=List.getElem_of_mem hk
    exact ⟨j,hj,by rw [List.getD,List.getElem?_eq_getElem hj]; exact e⟩
  have hZ':=id hZ
  obtain ⟨o,es,ep,t,ho,_,_,_,_,_,_,_,hnd,_,_⟩:=hZ'
  refine ⟨.ref s.heap.objs.size,_,I.laid (t':=tk) (o:=Gg X.prog X.w s.heap.objs.size (KS.metZ (fun i=>zs.getD i "") its.toArray.size)) (fun b o e=>hk b o (aaf e) e) (aac _) ?_,rfl,q _ _ (I.hok.fresh (aac _)) hmem hnd ?_⟩
  ·exact ⟨hZ,⟨o,ho⟩,fun h1 h2 z k=>KS.SetZ.at z k⟩
  ·exact aaq (KS.metZ_len _ _) (by simp only [List.size_toArray]; nofun)
def sK (P:Program)(w:World)(K:Frag):List V->Hp->VK->Prop:=fun xs H Q=>∃ (p:Addr) (σ:List Str),xs=[.ref p]/\(H p=some (Gg P w p σ)∨SqL K H p (σ.map .str))/\σ.length < 64 /\
 ∀ q ss,H q=none->ss.Perm σ->sortedS ss=true->Q (.ref q) (upd H q (.lst (ss.map .str)))
theorem lH (hc:X.calm=true):CallR X (.builtin "sorted") (sK X.prog X.w X.K):=by
 intro pins s σ H xs us Q I r h
 obtain ⟨p,τ,rfl,hq,hz,q⟩:=h
 obtain ⟨u,rfl,rx⟩:=dH r
 cases rx
 rcases hq with hq | hq
 ·obtain ⟨hS,_,_⟩:=I.hok p _ hq
  refine KS.sorted_set (I.ok.hd hc) hS hz fun q' out ss e h' d' tk hle hg hSA hp hs hk=>?_
  have hl:ss.length < 64:=by rw [hp.length_eq]; exact hz
  refine ⟨.ref q',_,I.laidD (t':=tk) (d':=d') (o:=.lst (ss.map .str)) hk hle ⟨?_,out,e,dP hSA,hg⟩,rfl,q q' ss (I.hok.fresh hle) hp hs⟩
  rw [List.length_map,sizeLine_eq]; nofun
 ·obtain ⟨its,r',pl,hz'⟩:=I.list hq
  have hS:=dQ r'
  have hlen:=StrsAre.len hS
  refine sorted_strs pl.isList hS (by nofun) fun out ss h1 h2 h3=>?_
  obtain ⟨e,he⟩:=sortedAll_at s.heap its out
  have hl:ss.length < 64:=by rw [h2.length_eq]; exact hz
  refine ⟨.ref (s.heap.objs.size+1),_,I.laid (t':=s.toks) (o:=.lst (ss.map .str)) (fun b o e=>sortedAll_old e) (aa8 _) ⟨?_,out.toList,e,dP h1,by rw [abe]; exact he⟩,rfl,q _ ss (I.hok.fresh (aa8 _)) h2 h3⟩
  rw [List.length_map,sizeLine_eq]; nofun
theorem qe (hc:X.calm=true):CallR X (.type "list") (fun xs H Q=>∃ p kvs,xs=[.ref p]/\Rd H p (.dK kvs)/\∀ l,H l=none->Q (.ref l) (upd H l (.lst (kvs.map fun kv=>kV kv.1)))):=by
 intro pins s σ H xs us Q I r h
 obtain ⟨p,kvs,rfl,hq,q⟩:=h
 obtain ⟨u,rfl,rx⟩:=dH r
 cases rx
 obtain ⟨hz,hS,vs,rv,m⟩:kvs.length<=sizeLine/\(p == sysModules)=false/\∃ vs,KV kvs vs/\s.heap.DictOf (bt X.prog X.w) p vs:=hq.ok I.hok
 obtain ⟨ep,hat⟩:=m.dictAt
 have hl:kvs.length=vs.length:=abz rv
 refine PySem.W.kdl_call (PySem.W.kdl_dict (knd:=bt X.prog X.w) (kvs:=vs) (ep:=ep) hS) (I.ok.hd hc) hat (by rw [← hl]; exact hz) fun h' tk acc' c' hk hD hacc=>?_
 have hv:Vals (kvs.map fun kv=>kV kv.1) acc'.toList:=by
  have hal:acc'.toList.length=kvs.length:=by rw [Array.length_toList,hacc.1,hl]
  have hget:∀ j v,acc'.toList[j]?=some v->∃ k x,vs[j]?=some (k,x)/\kW k v=true:=fun j v e=>hacc.2 j v (by rw [← Array.getElem?_toList]; exact e)
  clear hacc hD
  generalize acc'.toList=us at hal hget
  clear hat m hl hz q hq I
  induction rv generalizing us with
  | nil=>cases us with | nil=>exact .nil | cons a b=>simp at hal
  | cons h1 h2 ih =>
   cases us with
   | nil=>simp at hal
   | cons a b =>
    refine .cons ?_ (ih b (by exists hal) fun j v e=>by simpa using hget (j+1) v (by exists e))
    obtain ⟨k,x,e1,e2⟩:=hget 0 a rfl
    simp only [List.getElem?_cons_zero,Option.some.injEq] at e1
    subst e1
    have e3:_=k:=h1.1
    show RelV (kV _) a
    rw [e3]
    rcases bg e2 with ⟨i,t,rfl,rfl⟩ | ⟨z,t,rfl,rfl⟩
    ·exact ⟨t,rfl⟩
    ·exact ⟨t,rfl⟩
 exact ⟨.ref s.heap.objs.size,_,I.laid (t':=tk) (o:=.lst (kvs.map fun kv=>kV kv.1)) hk (aac _) ⟨by rw [List.length_map]; exact hz,acc'.toList,c',hv,by rw [abe]; exact hD⟩,rfl,q _ (I.hok.fresh (aac _))⟩
def sL (K:Frag):List V->Hp->VK->Prop:=fun xs H Q=>(∃ p ys,xs=[.ref p]/\(SqL K H p ys∨SqT K H p ys)/\∀ l,H l=none->Q (.ref l) (upd H l (.lst ys)))∨∃ p kvs,xs=[.ref p]/\Rd H p (.dK kvs)/\∀ l,H l=none->Q (.ref l) (upd H l (.lst (kvs.map fun kv=>kV kv.1)))
def sM (K:Frag):List V->Hp->VK->Prop:=fun xs H Q=>∃ p ys,xs=[.ref p]/\((SqL K H p ys/\∀ l,H l=none->Q (.ref l) (upd H l (.tup ys)))∨(SqT K H p ys/\Q (.ref p) H))
theorem Cw (K:Frag)(hc:X.calm=true)(h:X.K=K):BCall X (.type "list") (sL K):=by subst h; exact ⟨ln.or (qe hc)⟩
theorem n4 (K:Frag)(h:X.K=K):BCall X (.type "tuple") (sM K):=by subst h; exact ⟨jY⟩
theorem Gh (P:Program)(w:World)(K:Frag)(hc:X.calm=true)(hP:X.prog=P)(hw:X.w=w)(h:X.K=K):BCall X (.type "set") (Ih P w K):=by subst h hP hw; exact ⟨sJ hc⟩
theorem Cy {o i value:Expr}{td:TE}{pos':Pos}(hu:X.A.units+1 < cLine)(ho:BE X o td)(hi:BE X i ty)(hv:BE X value tv)(hs:swapsWith value (some (.Subscript o i pos')) pos.line X.env=pure false) :
  BS X (.Assign [.Subscript o i pos'] value pos) (BH td ty tv):=⟨BJ hu ho.h hi.h hv.h hs⟩
theorem Cz {T F:List Str}{scope:Scope}{elt tg iter:Expr}{ifs:List Expr}{py spos:Pos}{g:TG}(hc:X.calm=true)(S:CompScope X T F ixs scope)(hi:BI X tg iter wi)
  (hg:∀ C s H fp,BG (aL X (T++F) scope (am X.env scope.names []) C s H fp) tg g) (ht:∀ C s H fp,BIf (aL X (T++F) scope (am X.env scope.names []) C s H fp) ifs tc) (he:∀ C s H fp,BE (aL X (T++F) scope (am X.env scope.names []) C s H fp) elt te)
  (hs:∀ x,foldedSetIterable iter X.env x=pure x) (hN:X.N.Nodup) (hix:X.N[i]?=some y) (hx:Loc X.env.scope y)
  (hsw:swapsWith (.ListComp elt [⟨tg,iter,ifs,0⟩] scope pos) (some (.Name y py)) spos.line X.env=pure true) (hf:X.fn y=true∨X.env.scope.names.lookup y=some .local) :
  BS X (.Assign [.Name y py] (.ListComp elt [⟨tg,iter,ifs,0⟩] scope pos) spos) (pO (eL T.length ixs wi g tc te) (fJ i)) :=
 ⟨BR hc S hi.h (fun C s H fp=>(hg C s H fp).h) (fun C s H fp=>(ht C s H fp).h) (fun C s H fp=>(he C s H fp).h) hs hN hix hx hsw hf⟩
theorem Jc {α:Type}{x:α}{r:List α}:atI (x::r) (0:Int)=some x:=di (j:=0) rfl
def Ii (K:Frag)(mg:Str->Option Value)(x:Str)(xs:List V):Prop:=∃ a,mg x=some (.ref a)/\∀ H,SqT K H a xs
theorem sN {K:Frag}{ys:List V}(h:SqL K H p ys)(q:∀ l,H l=none->Q (.ref l) (upd H l (.lst ys))):sL K [.ref p] H Q:=.inl ⟨p,ys,rfl,.inl h,q⟩
theorem sO {K:Frag}{ys:List V}(h:SqT K H p ys)(q:∀ l,H l=none->Q (.ref l) (upd H l (.lst ys))):sL K [.ref p] H Q:=.inl ⟨p,ys,rfl,.inr h,q⟩
theorem qf {K:Frag}{kvs:List (Key×V)}(h:Rd H p (.dK kvs))(q:∀ l,H l=none->Q (.ref l) (upd H l (.lst (kvs.map fun kv=>kV kv.1)))):sL K [.ref p] H Q:=.inr ⟨p,kvs,rfl,h,q⟩
theorem qg {K:Frag}{ys:List V}(h:SqL K H p ys)(q:∀ l,H l=none->Q (.ref l) (upd H l (.tup ys))):sM K [.ref p] H Q:=⟨p,ys,rfl,.inl ⟨h,q⟩⟩
theorem gC (h:zs.Nodup):(KS.dedup1 zs z).Nodup:=by
 unfold KS.dedup1
 split
 ·exact h
 ·rename_i hz; exact KS.nodup_snoc h hz
theorem jt :y ∈ KS.dedup1 zs z↔y ∈ zs∨y=z:=by
 unfold KS.dedup1
 split
 ·rename_i hz
  exact ⟨.inl,fun h=>h.elim id fun e=>e ▸ hz⟩
 ·simp
theorem ju (zs:List Str)(z:Str):zs.length<=(KS.dedup1 zs z).length/\(KS.dedup1 zs z).length<=zs.length+1/\1<=(KS.dedup1 zs z).length:=by
 unfold KS.dedup1
 split
 ·rename_i hz
  exact ⟨aac _,aa8 _,List.length_pos_of_mem hz⟩
 ·simp
inductive D where
 | non | bl (b:Bool) | int (i:Int) | str (x:Str) | lst (xs:List D) | tup (xs:List D) | dct (ks:List Key) (xs:List D) | ty (T:String) | opq (a:Addr) (n:Nat)
variable{d e:D}{ds as:List D}{gD:Int->Int->D}
def plKV:Key×V->Bool
 | (.inr z,.int i)=>decide (z.length<=20) && z.cps.toList.all (fun c=>decide (c < 16 ^ 8)) && decide (i.natAbs.log2 < 20) && decide ((PySem.PyData.shown (.int i)).length<=8)
 | _=>false
mutual
inductive Den (K:Frag)(F:Hp):V->D->Prop where
 | non:Den K F .non .non
 | bl (b:Bool):Den K F (.bl b) (.bl b)
 | int (i:Int):Den K F (.int i) (.int i)
 | str (x:Str):Den K F (.str x) (.str x)
 | ty (T:String):Den K F (.ty T) (.ty T)
 | lst {a:Addr} {xs:List V} {ds:List D}:SqL K F a xs->Dens K F xs ds->Den K F (.ref a) (.lst ds)
 | tup {a:Addr} {xs:List V} {ds:List D}:SqT K F a xs->Dens K F xs ds->Den K F (.ref a) (.tup ds)
 | dct {a:Addr} {ys:List (Key×V)} {ks:List Key} {ds:List D}:Rd F a (.dK ys)->ys.map (·.1)=ks->Dens K F (ys.map (·.2)) ds->Den K F (.ref a) (.dct ks ds)
 | opq {a:Addr} {ys:List (Key×V)} {n:Nat}:Rd F a (.dK ys)->ys.length=n->ys.all plKV=true->Den K F (.ref a) (.opq a n)
inductive Dens (K:Frag)(F:Hp):List V->List D->Prop where
 | nil:Dens K F [] []
 | cons {x:V} {d:D} {xs:List V} {ds:List D}:Den K F x d->Dens K F xs ds->Dens K F (x::xs) (d::ds)
end
theorem Same.rd {u:HO}(e:Same F F')(h:Rd F a u):Rd F' a u:=h.elim (fun h=>.inl (e _ _ h)) fun ⟨o,h⟩=>.inr ⟨o,e _ _ h⟩
theorem Den.mono {K:Frag}(e:Same F F')(h:Den K F v d):Den K F' v d :=
 Den.rec (motive_1:=fun v d _=>Den K F' v d) (motive_2:=fun v d _=>Dens K F' v d) .non .bl .int .str .ty (fun h _ t=>.lst (e.seq h) t) (fun h _ t=>.tup (h.same e) t) (fun h k _ t=>.dct (e.rd h) k t) (fun h k p=>.opq (e.rd h) k p) .nil (fun _ _ h t=>.cons h t) h
theorem Dens.mono {K:Frag}(e:Same F F'){v:List V}{d:List D}(h:Dens K F v d):Dens K F' v d :=
 Dens.rec (motive_1:=fun _ _ _=>True) (motive_2:=fun v d _=>Dens K F' v d) trivial (fun _=>trivial) (fun _=>trivial) (fun _=>trivial) (fun _=>trivial) (fun _ _ _=>trivial) (fun _ _ _=>trivial) (fun _ _ _ _=>trivial) (fun _ _ _=>trivial) .nil (fun h _ _ t=>.cons (h.mono e) t) h
section
variable {K:Frag} 
theorem Dens.length {xs:List V}{ds:List D}(h:Dens K F xs ds):xs.length=ds.length :=
 Dens.rec (motive_1:=fun _ _ _=>True) (motive_2:=fun xs ds _=>xs.length=ds.length) trivial (fun _=>trivial) (fun _=>trivial) (fun _=>trivial) (fun _=>trivial) (fun _ _ _=>trivial) (fun _ _ _=>trivial) (fun _ _ _ _=>trivial) (fun _ _ _=>trivial) rfl (fun _ _ _ t=>congrArg (·+1) t) h
theorem Dens.get:∀ {xs:List V} {ds:List D} {i:Nat} {d:D},Dens K F xs ds->ds[i]?=some d->∃ x,xs[i]?=some x/\Den K F x d
 | _,_,_,_,.nil,e=>by simp at e
 | _,_,0,_,.cons h _,e=>by simp at e; subst e; exact ⟨_,rfl,h⟩
 | _,_,i+1,d,.cons h t,e=>by
  obtain ⟨x,h1,h2⟩:=Dens.get (i:=i) (d:=d) t (by exists e)
  exact ⟨x,(by exists h1),h2⟩
theorem Dens.get':∀ {xs:List V} {ds:List D} {i:Nat} {x:V},Dens K F xs ds->xs[i]?=some x->∃ d,ds[i]?=some d/\Den K F x d
 | _,_,_,_,.nil,e=>by simp at e
 | _,_,0,_,.cons h _,e=>by simp at e; subst e; exact ⟨_,rfl,h⟩
 | _,_,i+1,d,.cons h t,e=>by
  obtain ⟨x,h1,h2⟩:=Dens.get' (i:=i) (x:=d) t (by exists e)
  exact ⟨x,(by exists h1),h2⟩
theorem Dens.append {ys:List V}{es:List D}(h:Dens K F xs ds)(s:Dens K F ys es):Dens K F (xs++ys) (ds++es) :=
 Dens.rec (motive_1:=fun _ _ _=>True) (motive_2:=fun xs ds _=>Dens K F (xs++ys) (ds++es)) trivial (fun _=>trivial) (fun _=>trivial) (fun _=>trivial) (fun _=>trivial) (fun _ _ _=>trivial) (fun _ _ _=>trivial) (fun _ _ _ _=>trivial) (fun _ _ _=>trivial) s (fun h _ _ t=>.cons h t) h
theorem Dens.take:∀ {xs:List V} {ds:List D} (n:Nat),Dens K F xs ds->Dens K F (xs.take n) (ds.take n)
 | _,_,0,_=>.nil
 | _,_,_+1,.nil=>.nil
 | _,_,n+1,.cons r t=>.cons r (Dens.take n t)
theorem Dens.drop:∀ {xs:List V} {ds:List D} (n:Nat),Dens K F xs ds->Dens K F (xs.drop n) (ds.drop n)
 | _,_,0,r=>r
 | _,_,_+1,.nil=>.nil
 | _,_,n+1,.cons r t=>Dens.drop n t
theorem Dens.set {x:V}{d:D}(r:Den K F x d):∀ {xs:List V} {ds:List D} (i:Nat),Dens K F xs ds->Dens K F (xs.set i x) (ds.set i d)
 | _,_,_,.nil=>.nil
 | _,_,0,.cons _ t=>.cons r t
 | _,_,i+1,.cons q t=>.cons q (Dens.set r i t)
theorem Dens.snoc {x:V}(h:Dens K F xs ds)(q:Den K F x d):Dens K F (xs++[x]) (ds++[d]):=h.append (.cons q .nil)
theorem Dens.reverse:∀ {xs:List V} {ds:List D},Dens K F xs ds->Dens K F xs.reverse ds.reverse
 | _,_,.nil=>.nil
 | _,_,.cons r t=>by rw [List.reverse_cons,List.reverse_cons]; exact (Dens.reverse t).snoc r
theorem Dens.strs:∀ (zs:List Str),Dens K F (zs.map V.str) (zs.map D.str)
 | []=>.nil
 | z::zs=>.cons (.str z) (Dens.strs zs)
theorem Dens.ints:∀ (zs:List Int),Dens K F (zs.map V.int) (zs.map D.int)
 | []=>.nil
 | z::zs=>.cons (.int z) (Dens.ints zs)
theorem Den.str_eq (h:Den K F v (.str z)):v=.str z:=by cases h; rfl
theorem Den.int_eq {z:Int}(h:Den K F v (.int z)):v=.int z:=by cases h; rfl
theorem Den.bl_eq {z:Bool}(h:Den K F v (.bl z)):v=.bl z:=by cases h; rfl
theorem Den.non_eq (h:Den K F v .non):v=.non:=by cases h; rfl
theorem Dens.strs_eq:∀ {zs:List Str} {xs:List V},Dens K F xs (zs.map D.str)->xs=zs.map V.str
 | [],_,.nil=>rfl
 | z::zs,_,.cons h t=>by rw [h.str_eq,Dens.strs_eq t]; rfl
theorem Dens.ints_eq:∀ {zs:List Int} {xs:List V},Dens K F xs (zs.map D.int)->xs=zs.map V.int
 | [],_,.nil=>rfl
 | z::zs,_,.cons h t=>by rw [h.int_eq,Dens.ints_eq t]; rfl
theorem Dens.bls_eq:∀ {zs:List Bool} {xs:List V},Dens K F xs (zs.map D.bl)->xs=zs.map V.bl
 | [],_,.nil=>rfl
 | z::zs,_,.cons h t=>by rw [h.bl_eq,Dens.bls_eq t]; rfl
end
mutual
def qh:D->DV
 | .non=>.non
 | .bl b=>.bl b
 | .int i=>.int i
 | .str x=>.str x
 | .lst xs=>.lst (toDVs xs)
 | .tup xs=>.tup (toDVs xs)
 | .dct _ _=>.non
 | .ty _=>.non
 | .opq _ _=>.non
def toDVs:List D->List DV
 | []=>[]
 | d::ds=>qh d::toDVs ds
end
mutual
def okD:D->Bool
 | .lst xs=>okDs xs
 | .tup xs=>okDs xs
 | .dct _ _=>false
 | .ty _=>false
 | .opq _ _=>false
 | _=>true
def okDs:List D->Bool
 | []=>true
 | d::ds=>okD d && okDs ds
end
theorem Den.deep {K:Frag}(h:Den K H v d):okD d=true->Deep K H v (qh d) :=
 Den.rec (motive_1:=fun v d _=>okD d=true->Deep K H v (qh d)) (motive_2:=fun v d _=>okDs d=true->Deeps K H v (toDVs d)) (fun _=>.non) (fun b _=>.bl b) (fun b _=>.int b) (fun b _=>.str b) (fun _ o=>nomatch o) (fun h _ t o=>.lst h (t o)) (fun h _ t o=>.tup h (t o)) (fun _ _ _ _ o=>nomatch o) (fun _ _ _ o=>nomatch o) (fun _=>.nil) (fun _ _ h t o=>.cons (h (Bool.and_eq_true_iff.mp o).1) (t (Bool.and_eq_true_iff.mp o).2)) h
def dEq (d e:D):Bool:=deq (qh d) (qh e)
inductive OV where
 | fz (d:D) | fl (ds:List D) | fd (ks:List Key) (ds:List D)
variable{o:OV}{P:OV->Prop}{f:D->D->(OV->Prop)->Prop}
inductive Ow (K:Frag)(F H:Hp):V->OV->List Addr->Prop where
 | fz {v:V} {d:D}:Den K F v d->Ow K F H v (.fz d) []
 | fl {a:Addr} {xs:List V} {ds:List D}:H a=some (.lst xs)->Dens K F xs ds->Ow K F H (.ref a) (.fl ds) [a]
 | fd {a:Addr} {ys:List (Key×V)} {ks:List Key} {ds:List D}:H a=some (.dK ys)->ys.map (·.1)=ks->Dens K F (ys.map (·.2)) ds->Ow K F H (.ref a) (.fd ks ds) [a]
inductive Ows (K:Frag)(F H:Hp):List V->List OV->List Addr->Prop where
 | nil:Ows K F H [] [] []
 | cons {x:V} {o:OV} {xs:List V} {os:List OV} {A B:List Addr}:Ow K F H x o A->Ows K F H xs os B->Ows K F H (x::xs) (o::os) (A++B)
theorem Ow.keep {K:Frag}(e:Same F F')(h:Ow K F H v o A)(k:∀ a u,a ∈ A->H a=some u->H' a=some u):Ow K F' H' v o A:=by
 cases h with
 | fz h=>exact .fz (h.mono e)
 | fl h t=>exact .fl (k _ _ (aad ..) h) (t.mono e)
 | fd h q t=>exact .fd (k _ _ (aad ..) h) q (t.mono e)
theorem Ow.live {K:Frag}(h:Ow K F H v o A):∀ a ∈ A,∃ u,H a=some u:=by
 cases h with
 | fz h=>exact fun _ z=>nomatch z
 | fl h t=>exact fun b z=>⟨_,List.mem_singleton.mp z ▸ h⟩
 | fd h q t=>exact fun b z=>⟨_,List.mem_singleton.mp z ▸ h⟩
def Au:OV->D
 | .fz d=>d
 | .fl ds=>.lst ds
 | .fd ks ds=>.dct ks ds
theorem Ow.freeze {K:Frag}(e:Same F F')(h:Ow K F H v o A)(k:∀ a u,a ∈ A->H a=some u->F' a=some u):Den K F' v (Au o):=by
 cases h with
 | fz h=>exact h.mono e
 | fl h t=>exact .lst (SqL.of (k _ _ (aad ..) h)) (t.mono e)
 | fd h q t=>exact .dct (.inl (k _ _ (aad ..) h)) q (t.mono e)
def flat:OV->Option D
 | .fz d=>some d
 | .fl ds=>some (.lst ds)
 | .fd ks ds=>some (.dct ks ds)
inductive Acc (K:Frag)(F H:Hp):V->D->Prop where
 | fz {v:V} {d:D}:Den K F v d->Acc K F H v d
 | lst {a:Addr} {xs:List V} {ds:List D}:H a=some (.lst xs)->Dens K F xs ds->Acc K F H (.ref a) (.lst ds)
 | dct {a:Addr} {ys:List (Key×V)} {ks:List Key} {ds:List D}:H a=some (.dK ys)->ys.map (·.1)=ks->Dens K F (ys.map (·.2)) ds->Acc K F H (.ref a) (.dct ks ds)
section
variable {K:Frag} 
theorem Ow.acc (h:Ow K F H v o A)(e:flat o=some d):Acc K F H v d:=by
 cases h with
 | fz h=>simp only [flat,Option.some.injEq] at e; subst e; exact .fz h
 | fl h t=>simp only [flat,Option.some.injEq] at e; subst e; exact .lst h t
 | fd h q t=>simp only [flat,Option.some.injEq] at e; subst e; exact .dct h q t
theorem Acc.den (e:Same F H)(h:Acc K F H v d):Den K H v d:=by
 cases h with
 | fz h=>exact h.mono e
 | lst h t=>exact .lst (SqL.of h) (t.mono e)
 | dct h k t=>exact .dct (.inl h) k (t.mono e)
theorem Acc.asL (e:Same F H)(h:Acc K F H v (.lst ds)):∃ a xs,v=.ref a/\SqL K H a xs/\Dens K F xs ds:=by
 cases h with
 | fz h=>cases h with | lst h t=>exact ⟨_,_,rfl,e.seq h,t⟩
 | lst h t=>exact ⟨_,_,rfl,SqL.of h,t⟩
theorem Acc.asT (e:Same F H)(h:Acc K F H v (.tup ds)):∃ a xs,v=.ref a/\SqT K H a xs/\Dens K F xs ds:=by
 cases h with
 | fz h=>cases h with | tup h t=>exact ⟨_,_,rfl,h.same e,t⟩
theorem Acc.asD (e:Same F H)(h:Acc K F H v (.dct ks ds)):∃ a ys,v=.ref a/\Rd H a (.dK ys)/\ys.map (·.1)=ks/\Dens K F (ys.map (·.2)) ds:=by
 cases h with
 | fz h=>cases h with | dct h k t=>exact ⟨_,_,rfl,e.rd h,k,t⟩
 | dct h k t=>exact ⟨_,_,rfl,.inl h,k,t⟩
theorem Acc.str_eq (h:Acc K F H v (.str z)):v=.str z:=by cases h with | fz h=>exact h.str_eq
theorem Acc.int_eq {z:Int}(h:Acc K F H v (.int z)):v=.int z:=by cases h with | fz h=>exact h.int_eq
theorem Acc.bl_eq {z:Bool}(h:Acc K F H v (.bl z)):v=.bl z:=by cases h with | fz h=>exact h.bl_eq
theorem Acc.non_eq (h:Acc K F H v .non):v=.non:=by cases h with | fz h=>exact h.non_eq
theorem Acc.ty_eq {T:String}(h:Acc K F H v (.ty T)):v=.ty T:=by cases h with | fz h=>cases h; rfl
end
abbrev FSt:=List (Option OV)
variable{ρ:FSt}
inductive Slots (K:Frag)(F H:Hp):St->FSt->List Addr->Prop where
 | nil:Slots K F H [] [] []
 | skip {x:Option V} {σ:St} {ρ:FSt} {A:List Addr}:Slots K F H σ ρ A->Slots K F H (x::σ) (none::ρ) A
 | has {v:V} {o:OV} {σ:St} {ρ:FSt} {A B:List Addr}:Ow K F H v o A->Slots K F H σ ρ B->Slots K F H (some v::σ) (some o::ρ) (A++B)
section
variable {K:Frag} 
theorem Slots.keep (e:Same F F')(h:Slots K F H σ ρ A)(k:∀ a u,a ∈ A->H a=some u->H' a=some u):Slots K F' H' σ ρ A:=by
 induction h with
 | nil=>exact .nil
 | skip t ih=>exact .skip (ih k)
 | has h t ih=>exact .has (h.keep e fun a u ha=>k a u (aaT _ ha)) (ih fun a u ha=>k a u (aao _ ha))
theorem Slots.live (h:Slots K F H σ ρ A):∀ a ∈ A,∃ u,H a=some u:=by
 induction h with
 | nil=>exact fun _ z=>nomatch z
 | skip t ih=>exact ih
 | has h t ih=>exact fun b z=>(List.mem_append.mp z).elim (h.live b) (ih b)
theorem Slots.len (h:Slots K F H σ ρ A):σ.length=ρ.length:=by
 induction h with
 | nil=>rfl
 | skip t ih=>exact congrArg (·+1) ih
 | has _ t ih=>exact congrArg (·+1) ih
theorem Slots.take (h:Slots K F H σ ρ A)(e:ρ[i]?=some (some o)):∃ v B A',σ[i]?=some (some v)/\Ow K F H v o B/\A.Perm (B++A')/\Slots K F H σ (ρ.set i none) A':=by
 induction h generalizing i with
 | nil=>cases e
 | skip t ih =>
  cases i with
  | zero=>cases e
  | succ i =>
   obtain ⟨v,B,A',h1,h2,h3,h4⟩:=ih (i:=i) e
   exact ⟨v,B,A',h1,h2,h3,.skip h4⟩
 | @has _ _ _ _ C _ h t ih =>
  cases i with
  | zero=>cases e; exact ⟨_,_,_,rfl,h,aaW _,.skip t⟩
  | succ i =>
   obtain ⟨v,B,A',h1,h2,h3,h4⟩:=ih (i:=i) e
   exact ⟨v,B,C++A',h1,h2,(abv C h3).trans (by rw [← List.append_assoc,← List.append_assoc]; exact List.Perm.append_right A' List.perm_append_comm),.has h h4⟩
theorem Slots.drop (i:Nat)(x:Option V)(h:Slots K F H σ ρ A):∃ A' B,A.Perm (B++A')/\Slots K F H (σ.set i x) (ρ.set i none) A':=by
 induction h generalizing i with
 | nil=>exact ⟨[],[],aaW _,.nil⟩
 | skip t ih =>
  cases i with
  | zero=>exact ⟨_,[],aaW _,.skip t⟩
  | succ i =>
   obtain ⟨A',B,h1,h2⟩:=ih i
   exact ⟨A',B,h1,.skip h2⟩
 | @has _ _ _ _ C _ h t ih =>
  cases i with
  | zero=>exact ⟨_,_,aaW _,.skip t⟩
  | succ i =>
   obtain ⟨A',B,h3,h4⟩:=ih i
   exact ⟨C++A',B,(abv C h3).trans (by rw [← List.append_assoc,← List.append_assoc]; exact List.Perm.append_right A' List.perm_append_comm),.has h h4⟩
theorem Slots.put (s:Slots K F H σ ρ A)(e:ρ[i]?=some none)(hv:σ[i]?=some (some v))(h:Ow K F H v o B):∃ A',A'.Perm (B++A)/\Slots K F H σ (ρ.set i (some o)) A':=by
 induction s generalizing i with
 | nil=>cases e
 | skip t ih =>
  cases i with
  | zero=>cases hv; exact ⟨_,aaW _,.has h t⟩
  | succ i =>
   obtain ⟨A',h1,h2⟩:=ih (i:=i) e hv
   exact ⟨A',h1,.skip h2⟩
 | @has _ _ _ _ C _ h' t ih =>
  cases i with
  | zero=>cases e
  | succ i =>
   obtain ⟨A',h1,h2⟩:=ih (i:=i) e hv
   exact ⟨C++A',(abv C h1).trans (by rw [← List.append_assoc,← List.append_assoc]; exact List.Perm.append_right _ List.perm_append_comm),.has h' h2⟩
end
inductive RV where
 | ov (o:OV) | br (i:Nat)
variable{r:RV}
structure Rel (K:Frag)(F Z H:Hp)(σ:St)(ρ:FSt)(A:List Addr):Prop where
 sl:Slots K F H σ ρ A
 nd:A.Nodup
 fr:∀ a ∈ A,F a=none/\Z a=none
 fh:Same F H
 zh:Same Z H
 dj:∀ a o,F a=some o->Z a=none
def RV1 (K:Frag)(F H:Hp)(σ:St)(v:V):RV->List Addr->Prop
 | .ov o,B=>Ow K F H v o B
 | .br i,B=>σ[i]?=some (some v)/\B=[]
structure Fresh (F Z:Hp)(A B:List Addr):Prop where
 nd:B.Nodup
 fr:∀ b ∈ B,F b=none/\Z b=none/\b ∉ A
theorem Fresh.nil :Fresh F Z A []:=⟨aaP,fun _ z=>nomatch z⟩
inductive RVL (K:Frag)(F H:Hp)(σ:St):List V->List RV->List Addr->Prop where
 | nil:RVL K F H σ [] [] []
 | cons {v:V} {r:RV} {vs:List V} {rs:List RV} {A B:List Addr}:RV1 K F H σ v r A->RVL K F H σ vs rs B->RVL K F H σ (v::vs) (r::rs) (A++B)
section
variable {K:Frag}    
theorem RV1.keep (h:RV1 K F H σ v r B)(e:Same F F')(k:∀ a u,a ∈ B->H a=some u->H' a=some u):RV1 K F' H' σ v r B:=by
 cases r with
 | ov o=>exact Ow.keep e h k
 | br i=>exact h
theorem RV1.live (h:RV1 K F H σ v r B):∀ b ∈ B,∃ u,H b=some u:=by
 cases r with
 | ov o=>exact Ow.live h
 | br i=>intro b hb; rw [h.2] at hb; cases hb
theorem RVL.keep (e:Same F F'){v:List V}{r:List RV}(h:RVL K F H σ v r B)(k:∀ a u,a ∈ B->H a=some u->H' a=some u):RVL K F' H' σ v r B:=by
 induction h with
 | nil=>exact .nil
 | cons h t ih=>exact .cons (h.keep e fun a u ha=>k a u (aaT _ ha)) (ih fun a u ha=>k a u (aao _ ha))
theorem mix (B:List Addr)(H Z:Hp):∃ G:Hp,(∀ b,b ∈ B->G b=H b)/\∀ b,b ∉ B->G b=Z b:=by
 classical
 exact ⟨fun b=>if b ∈ B then H b else Z b,fun b hb=>if_pos hb,fun b hb=>if_neg hb⟩
theorem Rel.hold (R:Rel K F Z H σ ρ A)(live:∀ b ∈ B,∃ u,H b=some u)(f:Fresh F Z A B):∃ Z',Same Z Z'/\Rel K F Z' H σ ρ A/\(∀ b ∈ B,∃ u,Z' b=some u) /\
  ∀ F2 H2 ρ2 A2,Same F F2->Rel K F2 Z' H2 σ ρ2 A2->Rel K F2 Z H2 σ ρ2 A2/\Fresh F2 Z A2 B/\∀ b u,b ∈ B->H b=some u->H2 b=some u:=by
 obtain ⟨Z',hin,hout⟩:=mix B H Z
 refine ⟨Z',fun b o h=>?_,⟨R.sl,R.nd,fun a ha=>⟨(R.fr a ha).1,?_⟩,R.fh,fun b o h=>?_,fun a o h=>?_⟩,fun b hb=>?_,fun F2 H2 ρ2 A2 e2 R2=>?_⟩
 ·rw [hout b fun hb=>by rw [(f.fr b hb).2.1] at h; cases h]; exact h
 ·rw [hout a fun hb=>(f.fr a hb).2.2 ha]; exact (R.fr a ha).2
 ·by_cases hb:b ∈ B
  ·rw [hin b hb] at h; exact h
  ·rw [hout b hb] at h; exact R.zh b o h
 ·rw [hout a fun hb=>by rw [(f.fr a hb).1] at h; cases h]; exact R.dj a o h
 ·obtain ⟨u,hu⟩:=live b hb
  exact ⟨u,by rw [hin b hb]; exact hu⟩
 ·have sz:Same Z Z':=fun b o h=>by
   rw [hout b fun hb=>by rw [(f.fr b hb).2.1] at h; cases h]; exact h
  refine ⟨⟨R2.sl,R2.nd,fun a ha=>⟨(R2.fr a ha).1,sz.free (R2.fr a ha).2⟩,R2.fh,sz.trans R2.zh,fun a o h=>sz.free (R2.dj a o h)⟩,⟨f.nd,fun b hb=>?_⟩,fun b u hb hu=>?_⟩
  ·obtain ⟨u,hu⟩:=live b hb
   refine ⟨?_,(f.fr b hb).2.1,fun h=>?_⟩
   ·cases q:F2 b with
    | none=>rfl
    | some w =>
     have:=R2.dj b w q
     rw [hin b hb,hu] at this; cases this
   ·have:=(R2.fr b h).2
    rw [hin b hb,hu] at this; cases this
  ·exact R2.zh b u (by rw [hin b hb]; exact hu)
structure Pure (F H F' H':Hp):Prop where
 ff:Same F F'
 hh:Same H H'
 fh:Same F' H'
 nw:∀ a o,F' a=some o->F a=none->H a=none
theorem Pure.refl (e:Same F H):Pure F H F H:=⟨Same.refl _,Same.refl _,e,fun a o h n=>by rw [n] at h; cases h⟩
theorem Pure.new {o:HO}(e:Same F H)(hp:H p=none):Pure F H F (upd H p o):=⟨Same.refl _,bn hp,e.trans (bn hp),fun a o h n=>by rw [n] at h; cases h⟩
theorem Pure.frz {p:Addr}{o:HO}(e:Same F H)(hp:H p=none):Pure F H (upd F p o) (upd H p o):=by
 have hf:F p=none:=e.free hp
 refine ⟨bn hf,bn hp,fun b u h=>?_,fun a u h n=>?_⟩
 ·by_cases hb:b=p
  ·subst hb; rw [ao] at h ⊢; exact h
  ·rw [aU hb] at h ⊢; exact e b u h
 ·by_cases hb:a=p
  ·subst hb; exact hp
  ·rw [aU hb,n] at h; cases h
theorem Pure.trans {F2 H1 H2:Hp}(a:Pure F H F1 H1)(b:Pure F1 H1 F2 H2):Pure F H F2 H2:=⟨a.ff.trans b.ff,a.hh.trans b.hh,b.fh,fun c o h n=>by
 cases q:F1 c with
 | none=>exact a.hh.free (b.nw c o h q)
 | some u=>exact a.nw c u q n⟩
theorem Rel.step (R:Rel K F Z H σ ρ A)(p:Pure F H F' H'):Rel K F' Z H' σ ρ A:=by
 refine ⟨R.sl.keep p.ff fun a u _ h=>p.hh a u h,R.nd,fun a ha=>⟨?_,(R.fr a ha).2⟩,p.fh,R.zh.trans p.hh,fun a o h=>?_⟩
 ·cases q:F' a with
  | none=>rfl
  | some o =>
   have:=p.nw a o q (R.fr a ha).1
   obtain ⟨u,hu⟩:=R.sl.live a ha
   rw [hu] at this; cases this
 ·cases q:F a with
  | none=>exact R.zh.free (p.nw a o h q)
  | some u=>exact R.dj a u q
structure New (H F':Hp)(B:List Addr):Prop where
 nd:B.Nodup
 fr:∀ b ∈ B,H b=none/\F' b=none
theorem New.nil:New H F' []:=⟨aaP,fun _ z=>nomatch z⟩
theorem New.one (h:H p=none)(f:F' p=none):New H F' [p]:=⟨by simp,fun b hb=>by
 have:b=p:=(by exists hb)
 rw [this]; exact ⟨h,f⟩⟩
theorem Rel.fresh (R:Rel K F Z H σ ρ A)(n:New H F' B):Fresh F' Z A B:=⟨n.nd,fun b hb=>⟨(n.fr b hb).2,R.zh.free (n.fr b hb).1,fun ha=>by
 obtain ⟨u,hu⟩:=R.sl.live b ha
 rw [(n.fr b hb).1] at hu; cases hu⟩⟩
def Gi:RV->FSt->Option (D×FSt)
 | .ov o,ρ=>some (Au o,ρ)
 | .br i,ρ=>match ρ[i]? with
  | some (some o)=>some (Au o,ρ.set i (some (.fz (Au o))))
  | _=>none
def fzR:RV->FSt->Option (D×FSt)
 | .ov (.fz d),ρ=>some (d,ρ)
 | .ov (.fl ds),ρ=>some (.lst ds,ρ)
 | .ov (.fd ks ds),ρ=>some (.dct ks ds,ρ)
 | .br i,ρ=>match ρ[i]? with
  | some (some (.fz d))=>some (d,ρ)
  | some (some (.fl ds))=>some (.lst ds,ρ.set i (some (.fz (.lst ds))))
  | some (some (.fd ks ds))=>some (.dct ks ds,ρ.set i (some (.fz (.dct ks ds))))
  | _=>none
theorem Gj {x:Option OV}(h:ρ[i]?=some x):ρ.set i x=ρ:=by
 apply List.ext_getElem?
 intro j
 by_cases hj:i=j
 ·subst hj
  rw [h,List.getElem?_set_self (List.getElem?_eq_some_iff.mp h).1]
 ·rw [List.getElem?_set_ne hj]
theorem Gk (r:RV)(ρ:FSt):fzR r ρ=Gi r ρ:=by
 cases r with
 | ov o=>cases o <;> simp [fzR,Gi,Au]
 | br i =>
  simp only [fzR,Gi]
  cases e:ρ[i]? with
  | none=>rfl
  | some x =>
   cases x with
   | none=>rfl
   | some o =>
    cases o with
    | fz d=>simp only [Au]; rw [Gj e]
    | fl ds=>simp [Au]
    | fd ks ds=>simp [Au]
def fzL:List RV->FSt->Option (List D×FSt)
 | [],ρ=>some ([],ρ)
 | r::rs,ρ=>match fzR r ρ with
  | some (d,ρ1)=>match fzL rs ρ1 with
   | some (ds,ρ2)=>some (d::ds,ρ2)
   | none=>none
  | none=>none
theorem Rel.grow (R:Rel K F Z H σ ρ A)(live:∀ b ∈ B,∃ u,H b=some u)(f:∀ b ∈ B,F b=none/\Z b=none/\b ∉ A):∃ F',Same F F'/\Rel K F' Z H σ ρ A/\(∀ a u,a ∈ B->H a=some u->F' a=some u)/\∀ a o,F' a=some o->F a=none->a ∈ B:=by
 obtain ⟨G,hin,hout⟩:=mix B H F
 have s:Same F G:=fun b o h=>by
  rw [hout b fun hb=>by rw [(f b hb).1] at h; cases h]; exact h
 refine ⟨G,s,⟨R.sl.keep s fun _ _ _ h=>h,R.nd,fun a ha=>⟨?_,(R.fr a ha).2⟩,fun b o h=>?_,R.zh,fun a o h=>?_⟩,fun a u ha h=>?_,fun a o h n=>?_⟩
 ·rw [hout a fun hb=>(f a hb).2.2 ha]; exact (R.fr a ha).1
 ·by_cases hb:b ∈ B
  ·rw [hin b hb] at h; exact h
  ·rw [hout b hb] at h; exact R.fh b o h
 ·by_cases hb:a ∈ B
  ·exact (f a hb).2.1
  ·rw [hout a hb] at h; exact R.dj a o h
 ·rw [hin a ha]; exact h
 ·by_cases hb:a ∈ B
  ·exact hb
  ·rw [hout a hb,n] at h; cases h
theorem cJ {C:List Addr}(h:A.Perm (B++C))(n:A.Nodup):B.Nodup/\C.Nodup/\(∀ b ∈ B,b ∉ C):=by
 have:=h.nodup_iff.mp n
 rw [abt] at this
 exact ⟨this.1,this.2.1,fun b hb hc=>this.2.2 b hb b hc rfl⟩
theorem Rel.takeI (R:Rel K F Z H σ ρ A)(e:ρ[i]?=some (some o)):∃ v B A',σ[i]?=some (some v)/\Ow K F H v o B/\Rel K F Z H σ (ρ.set i none) A'/\Fresh F Z A' B/\A.Perm (B++A'):=by
 obtain ⟨v,B,A',h1,h2,h3,h4⟩:=R.sl.take e
 obtain ⟨n1,n2,n3⟩:=cJ h3 R.nd
 have mA:∀ a ∈ A',a ∈ A:=fun a ha=>h3.mem_iff.mpr (List.mem_append.mpr (.inr ha))
 have mB:∀ a ∈ B,a ∈ A:=fun a ha=>h3.mem_iff.mpr (List.mem_append.mpr (.inl ha))
 exact ⟨v,B,A',h1,h2,⟨h4,n2,fun a ha=>R.fr a (mA a ha),R.fh,R.zh,R.dj⟩,⟨n1,fun b hb=>⟨(R.fr b (mB b hb)).1,(R.fr b (mB b hb)).2,n3 b hb⟩⟩,h3⟩
theorem j7 (e:ρ[i]?=some (some o)):(ρ.set i none)[i]?=some none:=by
 have hi:i < ρ.length:=(List.getElem?_eq_some_iff.mp e).1
 simp [hi]
theorem Rel.putI (R:Rel K F Z H σ ρ A)(e:ρ[i]?=some none)(hv:σ[i]?=some (some v))(h:Ow K F H v o B)(f:Fresh F Z A B):∃ A',Rel K F Z H σ (ρ.set i (some o)) A'/\A'.Perm (B++A):=by
 obtain ⟨A',h1,h2⟩:=R.sl.put e hv h
 refine ⟨A',⟨h2,h1.nodup_iff.mpr ?_,fun a ha=>?_,R.fh,R.zh,R.dj⟩,h1⟩
 ·exact List.nodup_append.mpr ⟨f.nd,R.nd,fun a ha b hb z=>(f.fr a ha).2.2 (z ▸ hb)⟩
 ·rcases List.mem_append.mp (h1.mem_iff.mp ha) with q | q
  ·exact ⟨(f.fr a q).1,(f.fr a q).2.1⟩
  ·exact R.fr a q
theorem Rel.frz {v:V}{r:RV}{B:List Addr}{d:D}{ρ':FSt}(R:Rel K F Z H σ ρ A)(h:RV1 K F H σ v r B)(f:Fresh F Z A B)(e:fzR r ρ=some (d,ρ')) :
  ∃ F' A',Same F F'/\Rel K F' Z H σ ρ' A'/\Den K F' v d/\(∀ a o,F' a=some o->F a=none->a ∈ A∨a ∈ B)/\∀ a ∈ A',a ∈ A:=by
 rw [Gk] at e
 cases r with
 | ov o =>
  simp only [Gi,Option.some.injEq,Prod.mk.injEq] at e
  obtain ⟨rfl,rfl⟩:=e
  obtain ⟨F',s,R',k,n⟩:=R.grow (Ow.live h) f.fr
  exact ⟨F',A,s,R',Ow.freeze s h k,fun a o h1 h2=>.inr (n a o h1 h2),fun _ z=>z⟩
 | br i =>
  simp only [Gi] at e
  split at e
  ·rename_i o ho
   simp only [Option.some.injEq,Prod.mk.injEq] at e
   obtain ⟨rfl,rfl⟩:=e
   obtain ⟨v',B',A',h1,h2,R',f',pm⟩:=R.takeI ho
   have hv:v'=v:=aaj (aaj (h1.symm.trans h.1))
   subst hv
   obtain ⟨F',s,R2,k,n⟩:=R'.grow (Ow.live h2) f'.fr
   have dn:=Ow.freeze s h2 k
   obtain ⟨A3,R3,p3⟩:=R2.putI (j7 ho) h1 (.fz dn) Fresh.nil
   rw [List.set_set] at R3
   refine ⟨F',A3,s,R3,dn,fun a o h1 h2=>.inl (pm.mem_iff.mpr (List.mem_append.mpr (.inl (n a o h1 h2)))),fun a ha=>?_⟩
   have:=p3.mem_iff.mp ha
   exact pm.mem_iff.mpr (List.mem_append.mpr (.inr (by exists this)))
  ·cases e
theorem Rel.frzL:∀ {rs:List RV} {vs:List V} {B:List Addr} {ds:List D} {ρ ρ':FSt} {F:Hp} {A:List Addr},Rel K F Z H σ ρ A->RVL K F H σ vs rs B->Fresh F Z A B->fzL rs ρ=some (ds,ρ') ->
  ∃ F' A',Same F F'/\Rel K F' Z H σ ρ' A'/\Dens K F' vs ds:=by
 intro rs
 induction rs with
 | nil =>
  intro vs B ds ρ ρ' F A R h f e
  simp only [fzL,Option.some.injEq,Prod.mk.injEq] at e
  obtain ⟨rfl,rfl⟩:=e
  cases h
  exact ⟨F,A,Same.refl _,R,.nil⟩
 | cons r rs ih =>
  intro vs B ds ρ ρ' F A R h f e
  cases h with
  | @cons v _ vs _ B1 B2 h t =>
   simp only [fzL] at e
   split at e
   ·rename_i d ρ1 e1
    split at e
    ·rename_i ds' ρ2 e2
     simp only [Option.some.injEq,Prod.mk.injEq] at e
     obtain ⟨rfl,rfl⟩:=e
     obtain ⟨n1,n2,n3⟩:=cJ (aaW (B1++B2)) f.nd
     obtain ⟨F1,A1,s1,R1,d1,w1,m1⟩:=R.frz h ⟨n1,fun b hb=>f.fr b (List.mem_append.mpr (.inl hb))⟩ e1
     obtain ⟨F2,A2,s2,R2,d2⟩:=ih R1 (t.keep s1 fun _ _ _ z=>z) ⟨n2,fun b hb=>by
      have fb:=f.fr b (List.mem_append.mpr (.inr hb))
      refine ⟨?_,fb.2.1,fun z=>fb.2.2 (m1 b z)⟩
      cases q:F1 b with
      | none=>rfl
      | some u =>
       rcases w1 b u q fb.1 with z | z
       ·exact absurd z fb.2.2
       ·exact absurd hb (n3 b z)⟩ e2
     exact ⟨F2,A2,s1.trans s2,R2,.cons (d1.mono s2) d2⟩
    ·cases e
   ·cases e
def look (ρ:FSt):RV->Option OV
 | .ov o=>some o
 | .br i=>match ρ[i]? with
  | some (some o)=>some o
  | _=>none
def jg (ρ:FSt):RV->Option D
 | .ov o=>flat o
 | .br i=>match ρ[i]? with
  | some (some o)=>flat o
  | _=>none
def jv (ρ:FSt):List RV->Option (List D)
 | []=>some []
 | r::rs=>match jg ρ r with
  | some d=>match jv ρ rs with
   | some ds=>some (d::ds)
   | none=>none
  | none=>none
theorem Rel.acc (R:Rel K F Z H σ ρ A)(h:RV1 K F H σ v r B)(e:jg ρ r=some d):Acc K F H v d:=by
 cases r with
 | ov o=>exact Ow.acc h e
 | br i =>
  simp only [jg] at e
  split at e
  ·rename_i o ho
   obtain ⟨v',B',A',h1,h2,_⟩:=R.takeI ho
   have hv:v'=v:=aaj (aaj (h1.symm.trans h.1))
   subst hv
   exact h2.acc e
  ·cases e
inductive Accs (K:Frag)(F H:Hp):List V->List D->Prop where
 | nil:Accs K F H [] []
 | cons {v:V} {d:D} {vs:List V} {ds:List D}:Acc K F H v d->Accs K F H vs ds->Accs K F H (v::vs) (d::ds)
theorem Rel.accs {rs:List RV}(R:Rel K F Z H σ ρ A)(h:RVL K F H σ vs rs B)(e:jv ρ rs=some ds):Accs K F H vs ds:=by
 induction h generalizing ds with
 | nil=>cases e; exact .nil
 | @cons v r vs rs A B h t ih =>
  unfold jv at e
  cases e1:jg ρ r with
  | none=>rw [e1] at e; cases e
  | some d =>
   cases e2:jv ρ rs with
   | none=>rw [e1,e2] at e; cases e
   | some ds' =>
    rw [e1,e2] at e
    cases e
    exact .cons (R.acc h e1) (ih e2)
end
abbrev FE:=FSt->(RV->FSt->Prop)->Prop
variable{fa fe fk:FE}
abbrev FT:=FSt->(Bool->FSt->Prop)->Prop
variable{fc ft:FT}
abbrev FA:=FSt->(List RV->FSt->Prop)->Prop
abbrev FO:=FSt->(Option Int->FSt->Prop)->Prop
def View (μ:List Nat)(τ σ:St):Prop:=∀ j i:Nat,μ[j]?=some i->τ[j]?=σ[i]?/\j < τ.length/\i < σ.length
theorem View.id (hn:σ.length=n):View (List.range n) σ σ:=fun j i h=>by
 rw [List.getElem?_eq_some_iff] at h
 obtain ⟨h1,h2⟩:=h
 rw [List.getElem_range] at h2
 rw [List.length_range] at h1
 subst h2
 exact ⟨rfl,by nofun,by nofun⟩
structure EF (K:Frag)(μ:List Nat)(t:TE)(f:FE):Prop where
 h:∀ {F Z H:Hp} {τ σ:St} {ρ:FSt} {A:List Addr} {Q:VK} {P:RV->FSt->Prop},View μ τ σ->Rel K F Z H σ ρ A->f ρ P ->
  (∀ r ρ' v F' H' A' B,P r ρ'->Same F F'->Rel K F' Z H' σ ρ' A'->RV1 K F' H' σ v r B->Fresh F' Z A' B->Q v H')->t τ H Q
structure TF (K:Frag)(μ:List Nat)(t:TT)(f:FT):Prop where
 h:∀ {F Z H:Hp} {τ σ:St} {ρ:FSt} {A:List Addr} {Q:Bool->Hp->Prop} {P:Bool->FSt->Prop},View μ τ σ->Rel K F Z H σ ρ A->f ρ P ->
  (∀ b ρ' F' H' A',P b ρ'->Same F F'->Rel K F' Z H' σ ρ' A'->Q b H')->t τ H Q
structure AF (K:Frag)(μ:List Nat)(t:TA)(f:FA):Prop where
 h:∀ {F Z H:Hp} {τ σ:St} {ρ:FSt} {A:List Addr} {Q:List V->Hp->Prop} {P:List RV->FSt->Prop},View μ τ σ->Rel K F Z H σ ρ A->f ρ P ->
  (∀ rs ρ' vs F' H' A' B,P rs ρ'->Same F F'->Rel K F' Z H' σ ρ' A'->RVL K F' H' σ vs rs B->Fresh F' Z A' B->Q vs H')->t τ H Q
structure OF (K:Frag)(μ:List Nat)(t:TO)(f:FO):Prop where
 h:∀ {F Z H:Hp} {τ σ:St} {ρ:FSt} {A:List Addr} {Q:Option Int->Hp->Prop} {P:Option Int->FSt->Prop},View μ τ σ->Rel K F Z H σ ρ A->f ρ P ->
  (∀ x ρ' F' H' A',P x ρ'->Same F F'->Rel K F' Z H' σ ρ' A'->Q x H')->t τ H Q
def Av (K:Frag)(F H:Hp)(P:OV->Prop)(Q:VK):Prop:=∀ o v F' H' B,P o->Pure F H F' H'->Ow K F' H' v o B->New H F' B->Q v H'
structure OpF (K:Frag)(r:R2)(f:D->D->(OV->Prop)->Prop):Prop where
 h:∀ {F H:Hp} {x y:V} {d e:D} {Q:VK} {P:OV->Prop},Same F H->Acc K F H x d->Acc K F H y e->f d e P->Av K F H P Q->r x y H Q
structure CallF (K:Frag)(r:List V->Hp->VK->Prop)(f:List D->(OV->Prop)->Prop):Prop where
 h:∀ {F H:Hp} {xs:List V} {ds:List D} {Q:VK} {P:OV->Prop},Same F H->Accs K F H xs ds->f ds P->Av K F H P Q->r xs H Q
structure SlF (K:Frag)(r:V->Option Int->Option Int->Hp->VK->Prop)(f:D->Option Int->Option Int->(OV->Prop)->Prop):Prop where
 h:∀ {F H:Hp} {x:V} {d:D} {lo hi:Option Int} {Q:VK} {P:OV->Prop},Same F H->Acc K F H x d->f d lo hi P->Av K F H P Q->r x lo hi H Q
@[irreducible] def br (b:Bool)(A B:Prop):Prop:=if b=true then A else B
theorem dM {A B:Prop}(h:A):br true A B:=by unfold br; exact h
theorem gX {A B:Prop}(h:B):br false A B:=by unfold br; exact h
theorem qX {A B:Prop}(h:br true A B):A:=by unfold br at h; exact h
theorem qY {A B:Prop}(h:br false A B):B:=by unfold br at h; exact h
theorem ah {b:Bool}{A B:Prop}(c:Prop)(e:b=true↔c)(h1:c->A)(h2:¬ c->B):br b A B:=by
 cases b with
 | true=>exact dM (h1 (e.mp rfl))
 | false=>exact gX (h2 fun z=>nomatch e.mpr z)
def ac (i:Nat):FE:=fun ρ Q=>match ρ[i]? with
 | some (some (.fz d))=>Q (.ov (.fz d)) ρ
 | some (some _)=>Q (.br i) ρ
 | _=>False
def fC (d:D):FE:=fun ρ Q=>Q (.ov (.fz d)) ρ
def on2 (ρ:FSt)(r s:RV)(k:D->D->Prop):Prop:=match jg ρ r with
 | some d=>match jg ρ s with
  | some e=>k d e
  | none=>False
 | none=>False
def on1 (ρ:FSt)(r:RV)(k:D->Prop):Prop:=match jg ρ r with
 | some d=>k d
 | none=>False
def onL (ρ:FSt)(rs:List RV)(k:List D->Prop):Prop:=match jv ρ rs with
 | some d=>k d
 | none=>False
def onB (d:D)(k:Bool->Prop):Prop:=match d with
 | .bl b=>k b
 | _=>False
def fOp (f:D->D->(OV->Prop)->Prop)(fa fb:FE):FE:=fun ρ Q=>fa ρ fun r ρ1=>fb ρ1 fun s ρ2=>on2 ρ2 r s fun d e=>f d e fun o=>Q (.ov o) ρ2
def gN (fa fb:FE):FE:=fun ρ Q=>fa ρ fun r ρ1=>on1 ρ1 r fun d=>onB d fun c=>br c (fb ρ1 Q) (Q (.ov (.fz (.bl false))) ρ1)
def Jd (fc:FT)(fa fb:FE):FE:=fun ρ Q=>fc ρ fun b ρ1=>br b (fa ρ1 Q) (fb ρ1 Q)
def jw (f f':D->D->(OV->Prop)->Prop)(fa fb fc:FE):FE:=fun ρ Q=>fa ρ fun r ρ1=>fb ρ1 fun s ρ2=>on2 ρ2 r s fun d e=>f d e fun o=>match o with
 | .fz (.bl k)=>br k (fc ρ2 fun t ρ3=>on2 ρ3 s t fun d' e'=>f' d' e' fun o=>Q (.ov o) ρ3) (Q (.ov (.fz (.bl false))) ρ2)
 | _=>False
def ax (fa:FE):FT:=fun ρ Q=>fa ρ fun r ρ1=>on1 ρ1 r fun d=>onB d fun c=>Q c ρ1
def fQ (ft:FT):FT:=fun ρ Q=>ft ρ fun c ρ1=>Q (!c) ρ1
def Aw (fa fb:FT):FT:=fun ρ Q=>fa ρ fun c ρ1=>br c (fb ρ1 Q) (Q false ρ1)
def fOr (fa fb:FT):FT:=fun ρ Q=>fa ρ fun c ρ1=>br c (Q true ρ1) (fb ρ1 Q)
def Ax:D->Option Bool
 | .non=>some false
 | .bl b=>some b
 | .int i=>some (i != 0)
 | .str y=>if y.length<=sizeLine then some ((y.length:Int) != 0) else none
 | .lst xs=>some (!xs.isEmpty)
 | .tup xs=>some (!xs.isEmpty)
 | .dct _ _=>none
 | .ty _=>none
 | .opq _ _=>none
def mG:FT:=fun ρ Q=>Q true ρ
def ag:FA:=fun ρ Q=>Q [] ρ
def aa (fa:FE)(fr:FA):FA:=fun ρ Q=>fa ρ fun r ρ1=>fr ρ1 fun rs ρ2=>Q (r::rs) ρ2
def fCB (f:List D->(OV->Prop)->Prop)(fa:FA):FE:=fun ρ Q=>fa ρ fun rs ρ1=>onL ρ1 rs fun ds=>f ds fun o=>Q (.ov o) ρ1
def fq (fa:FA):FE:=fun ρ Q=>fa ρ fun rs ρ1=>match fzL rs ρ1 with
 | some (ds,ρ2)=>ds.length<=sizeLine/\Q (.ov (.fl ds)) ρ2
 | none=>False
def qi (fa:FA):FE:=fun ρ Q=>fa ρ fun rs ρ1=>match fzL rs ρ1 with
 | some (ds,ρ2)=>ds.length<=sizeLine/\Q (.ov (.fz (.tup ds))) ρ2
 | none=>False
def au:FO:=fun ρ Q=>Q none ρ
def bh (fa:FE):FO:=fun ρ Q=>fa ρ fun r ρ1=>on1 ρ1 r fun d=>match d with
 | .int i=>Q (some i) ρ1
 | _=>False
def fSl (f:D->Option Int->Option Int->(OV->Prop)->Prop)(fe:FE)(fl fh:FO):FE:=fun ρ Q=>fe ρ fun r ρ1=>fl ρ1 fun lo ρ2=>fh ρ2 fun hi ρ3=>on1 ρ3 r fun d=>f d lo hi fun o=>Q (.ov o) ρ3
def Gm:FE:=fun ρ Q=>Q (.ov (.fd [] [])) ρ
section
variable {K:Frag} 
theorem bS {k:D->Prop}(h:on1 ρ r k):∃ d,jg ρ r=some d/\k d:=by
 unfold on1 at h
 split at h
 ·exact ⟨_,by assumption,h⟩
 ·exact h.elim
theorem sP {s:RV}{k:D->D->Prop}(h:on2 ρ r s k):∃ d e,jg ρ r=some d/\jg ρ s=some e/\k d e:=by
 unfold on2 at h
 split at h
 ·split at h
  ·exact ⟨_,_,by assumption,by assumption,h⟩
  ·exact h.elim
 ·exact h.elim
theorem sQ {r:List RV}{k:List D->Prop}(h:onL ρ r k):∃ d,jv ρ r=some d/\k d:=by
 unfold onL at h
 split at h
 ·exact ⟨_,by assumption,h⟩
 ·exact h.elim
theorem Ay {k:Bool->Prop}(h:onB d k):∃ b,d=.bl b/\k b:=by
 unfold onB at h
 split at h
 ·exact ⟨_,rfl,h⟩
 ·exact h.elim
theorem sR (hj:μ[j]?=some i):EF K μ (nE j) (ac i):=⟨by
 intro F Z H τ σ ρ A Q P vw R h q
 unfold ac at h
 generalize e:ρ[i]?=o at h
 cases o with
 | none=>exact False.elim h
 | some o =>
  cases o with
  | none=>exact False.elim h
  | some o =>
   obtain ⟨v,B,A',h1,h2,h3,h4,h5⟩:=R.takeI e
   refine ⟨v,(vw j i hj).1.trans h1,?_⟩
   cases o with
   | fz d =>
    cases h2 with
    | fz dn=>exact q _ _ v F H A [] h (Same.refl _) R (.fz dn) Fresh.nil
   | _=>exact q _ _ v F H A [] h (Same.refl _) R ⟨h1,rfl⟩ Fresh.nil⟩
theorem Gn (hd:∀ F,Den K F v d):EF K μ (tC v) (fC d):=⟨fun {F Z H τ σ ρ A Q P} vw R h q=>q _ _ v F H A [] h (Same.refl _) R (.fz (hd F)) Fresh.nil⟩
theorem Go {i:Int}:EF K μ (tC (.int i)) (fC (.int i)):=Gn fun _=>.int i
theorem iw {i:Str}:EF K μ (tC (.str i)) (fC (.str i)):=Gn fun _=>.str i
theorem Je {i:Bool}:EF K μ (tC (.bl i)) (fC (.bl i)):=Gn fun _=>.bl i
theorem lI:EF K μ (tC .non) (fC .non):=Gn fun _=>.non
theorem wR {T:String}:EF K μ (tC (.ty T)) (fC (.ty T)):=Gn fun _=>.ty T
theorem Rel.after (R:Rel K F Z H σ ρ A)(q:∀ o v F' H' B,P o->Same F F'->Rel K F' Z H' σ ρ A->Ow K F' H' v o B->Fresh F' Z A B->Q v H'):Av K F H P Q :=
 fun o v F' H' B p pu ow nw=>q o v F' H' B p pu.ff (R.step pu) ow (R.fresh nw)
theorem qj {r:R2}{fb:FE}(ho:OpF K r f)(ha:EF K μ ta fa)(hb:EF K μ tb fb):EF K μ (tOp r ta tb) (fOp f fa fb):=⟨by
 intro F Z H τ σ ρ A Q P vw R h q
 refine ha.h vw R h fun r1 ρ1 x F1 H1 A1 B1 h1 s1 R1 v1 f1=>?_
 obtain ⟨Z',sz,R1',zl,back⟩:=R1.hold v1.live f1
 refine hb.h vw R1' h1 fun r2 ρ2 y F2 H2 A2 B2 h2 s2 R2 v2 f2=>?_
 obtain ⟨R2',f1',k1⟩:=back _ _ _ _ s2 R2
 obtain ⟨d,e,e1,e2,h3⟩:=sP h2
 refine ho.h R2'.fh (R2'.acc (v1.keep s2 k1) e1) (R2'.acc v2 e2) h3 (R2'.after fun o v F3 H3 B p s3 R3 ow fr=>q _ _ _ _ _ _ _ p ((s1.trans s2).trans s3) R3 ow fr)⟩
theorem mX {fb:FE}(ha:EF K μ ta fa)(hb:EF K μ tb fb):EF K μ (Bg ta tb) (gN fa fb):=⟨by
 intro F Z H τ σ ρ A Q P vw R h q
 refine ha.h vw R h fun r1 ρ1 x F1 H1 A1 B1 h1 s1 R1 v1 f1=>?_
 obtain ⟨d,e1,h2⟩:=bS h1
 obtain ⟨c,rfl,h3⟩:=Ay h2
 refine ⟨c,(R1.acc v1 e1).bl_eq,?_⟩
 cases c with
 | true=>exact hb.h vw R1 (qX h3) fun r2 ρ2 y F2 H2 A2 B2 h2 s2=>q _ _ _ _ _ _ _ h2 (s1.trans s2)
 | false=>exact q _ _ _ _ _ _ _ (qY h3) s1 R1 (.fz (.bl false)) Fresh.nil⟩
theorem Gp {fb:FE}(hc:TF K μ tc fc)(ha:EF K μ ta fa)(hb:EF K μ tb fb):EF K μ (tIf tc ta tb) (Jd fc fa fb):=⟨by
 intro F Z H τ σ ρ A Q P vw R h q
 refine hc.h vw R h fun b ρ1 F1 H1 A1 h1 s1 R1=>?_
 cases b with
 | true=>exact ha.h vw R1 (qX h1) fun r2 ρ2 y F2 H2 A2 B2 h2 s2=>q _ _ _ _ _ _ _ h2 (s1.trans s2)
 | false=>exact hb.h vw R1 (qY h1) fun r2 ρ2 y F2 H2 A2 B2 h2 s2=>q _ _ _ _ _ _ _ h2 (s1.trans s2)⟩
theorem wS {r r':R2}{f':D->D->(OV->Prop)->Prop}{tc:TE}{fb fc:FE}(ho:OpF K r f)(ho':OpF K r' f')(ha:EF K μ ta fa)(hb:EF K μ tb fb)(hc:EF K μ tc fc):EF K μ (kZ r r' ta tb tc) (jw f f' fa fb fc):=⟨by
 intro F Z H τ σ ρ A Q P vw R h q
 refine ha.h vw R h fun r1 ρ1 x F1 H1 A1 B1 h1 s1 R1 v1 f1=>?_
 obtain ⟨Z',sz,R1',zl,back⟩:=R1.hold v1.live f1
 refine hb.h vw R1' h1 fun r2 ρ2 y F2 H2 A2 B2 h2 s2 R2 v2 f2=>?_
 obtain ⟨R2',f1',k1⟩:=back _ _ _ _ s2 R2
 obtain ⟨d,e,e1,e2,h3⟩:=sP h2
 have f2':Fresh F2 Z A2 B2:=⟨f2.nd,fun b hb=>⟨(f2.fr b hb).1,sz.free (f2.fr b hb).2.1,(f2.fr b hb).2.2⟩⟩
 refine ho.h R2'.fh (R2'.acc (v1.keep s2 k1) e1) (R2'.acc v2 e2) h3 fun o v F3 H3 B p pu ow nw=>?_
 have R3:=R2'.step pu
 have f3:Fresh F3 Z A2 B2:=⟨f2'.nd,fun b hb=>⟨(by
  cases z:F3 b with
  | none=>rfl
  | some u =>
   obtain ⟨w,hw⟩:=v2.live b hb
   rw [pu.nw b u z (f2'.fr b hb).1] at hw
   exact nomatch hw),(f2'.fr b hb).2⟩⟩
 have v3:=v2.keep pu.ff fun a u _ z=>pu.hh a u z
 split at p
 ·rename_i k
  cases ow with
  | fz dn =>
   refine ⟨k,dn.bl_eq,?_⟩
   cases k with
   | false=>exact q _ _ _ _ _ _ _ (qY p) ((s1.trans s2).trans pu.ff) R3 (.fz (.bl false)) Fresh.nil
   | true =>
    obtain ⟨Z2,sz2,R3',zl2,back2⟩:=R3.hold v3.live f3
    refine hc.h vw R3' (qX p) fun r4 ρ4 w F4 H4 A4 B4 h4 s4 R4 v4 f4=>?_
    obtain ⟨R4',f4',k4⟩:=back2 _ _ _ _ s4 R4
    obtain ⟨d',e',e1',e2',h5⟩:=sP h4
    exact ho'.h R4'.fh (R4'.acc (v3.keep s4 k4) e1') (R4'.acc v4 e2') h5 (R4'.after fun o v F5 H5 B p s5 R5 ow fr=>q _ _ _ _ _ _ _ p ((((s1.trans s2).trans pu.ff).trans s4).trans s5) R5 ow fr)
 ·exact p.elim⟩
theorem ix (ha:EF K μ ta fa):TF K μ (mL ta) (ax fa):=⟨by
 intro F Z H τ σ ρ A Q P vw R h q
 refine ha.h vw R h fun r1 ρ1 x F1 H1 A1 B1 h1 s1 R1 v1 f1=>?_
 obtain ⟨d,e1,h2⟩:=bS h1
 obtain ⟨c,rfl,h3⟩:=Ay h2
 exact ⟨c,(R1.acc v1 e1).bl_eq,q _ _ _ _ _ h3 s1 R1⟩⟩
theorem lJ {t:TT}{f:FT}(h:TF K μ t f):TF K μ (Iu t) (fQ f):=⟨fun {F Z H τ σ ρ A Q P} vw R p q=>h.h vw R p fun b ρ1 F1 H1 A1 h1=>q _ _ _ _ _ h1⟩
theorem Gq {t:TT}{f g:FT}(h:TF K μ t f)(h':TF K μ u g):TF K μ (Ir t u) (Aw f g):=⟨fun {F Z H τ σ ρ A Q P} vw R p q=>h.h vw R p fun b ρ1 F1 H1 A1 h1 s1 R1=>by
 cases b with
 | true=>exact h'.h vw R1 (qX h1) fun b ρ2 F2 H2 A2 h2 s2=>q _ _ _ _ _ h2 (s1.trans s2)
 | false=>exact q _ _ _ _ _ (qY h1) s1 R1⟩
theorem Jf {t:TT}{f g:FT}(h:TF K μ t f)(h':TF K μ u g):TF K μ (tOr t u) (fOr f g):=⟨fun {F Z H τ σ ρ A Q P} vw R p q=>h.h vw R p fun b ρ1 F1 H1 A1 h1 s1 R1=>by
 cases b with
 | false=>exact h'.h vw R1 (qY h1) fun b ρ2 F2 H2 A2 h2 s2=>q _ _ _ _ _ h2 (s1.trans s2)
 | true=>exact q _ _ _ _ _ (qX h1) s1 R1⟩
theorem Az:TF K μ IU mG:=⟨fun {F Z H τ σ ρ A Q P} vw R p q=>q _ _ _ _ _ p (Same.refl _) R⟩
theorem CA {x:V}{k:Bool}(e:Same F H)(h:Acc K F H x d)(hk:Ax d=some k):IK K x H k:=by
 cases d with
 | non=>rw [h.non_eq]; exact (aaj hk).symm
 | bl b=>rw [h.bl_eq]; exact (aaj hk).symm
 | int i=>rw [h.int_eq]; exact (aaj hk).symm
 | str y =>
  rw [h.str_eq]
  simp only [Ax] at hk
  split at hk
  ·exact ⟨by assumption,by simpa using hk.symm⟩
  ·cases hk
 | lst ds =>
  obtain ⟨a,xs,rfl,h1,h2⟩:=h.asL e
  have:=h2.length
  refine .inl ⟨xs,h1,?_⟩
  simp only [Ax,Option.some.injEq] at hk
  rw [← hk]
  cases xs <;> cases ds <;> simp at this ⊢
 | tup ds =>
  obtain ⟨a,xs,rfl,h1,h2⟩:=h.asT e
  have:=h2.length
  refine .inr (.inl ⟨xs,h1,?_⟩)
  simp only [Ax,Option.some.injEq] at hk
  rw [← hk]
  cases xs <;> cases ds <;> simp at this ⊢
 | dct ks ds =>
  simp [Ax] at hk
 | ty T=>simp [Ax] at hk
 | opq a n=>simp [Ax] at hk
theorem de:AF K μ la ag:=⟨fun {F Z H τ σ ρ A Q P} vw R p q=>q _ _ _ _ _ _ _ p (Same.refl _) R .nil Fresh.nil⟩
theorem bV {tr:TA}{fr:FA}(ha:EF K μ ta fa)(hr:AF K μ tr fr):AF K μ (dI ta tr) (aa fa fr):=⟨by
 intro F Z H τ σ ρ A Q P vw R h q
 refine ha.h vw R h fun r1 ρ1 x F1 H1 A1 B1 h1 s1 R1 v1 f1=>?_
 obtain ⟨Z',sz,R1',zl,back⟩:=R1.hold v1.live f1
 refine hr.h vw R1' h1 fun r2 ρ2 y F2 H2 A2 B2 h2 s2 R2 v2 f2=>?_
 obtain ⟨R2',f1',k1⟩:=back _ _ _ _ s2 R2
 refine q _ _ _ _ _ _ _ h2 (s1.trans s2) R2' (.cons (v1.keep s2 k1) v2) ⟨List.nodup_append.mpr ⟨f1'.nd,f2.nd,fun a ha b hb z=>?_⟩,fun b hb=>?_⟩
 ·obtain ⟨u,hu⟩:=zl a ha
  rw [z,(f2.fr b hb).2.1] at hu; cases hu
 ·rcases List.mem_append.mp hb with z | z
  ·exact f1'.fr b z
  ·exact ⟨(f2.fr b z).1,sz.free (f2.fr b z).2.1,(f2.fr b z).2.2⟩⟩
theorem sS {r:List V->Hp->VK->Prop}{f:List D->(OV->Prop)->Prop}{fa:FA}(hc:CallF K r f)(ha:AF K μ t fa):EF K μ (tCB r t) (fCB f fa):=⟨by
 intro F Z H τ σ ρ A Q P vw R h q
 refine ha.h vw R h fun rs ρ1 xs F1 H1 A1 B1 h1 s1 R1 v1 f1=>?_
 obtain ⟨ds,e1,h2⟩:=sQ h1
 exact hc.h R1.fh (R1.accs v1 e1) h2 (R1.after fun o v F3 H3 B p s3 R3 ow fr=>q _ _ _ _ _ _ _ p (s1.trans s3) R3 ow fr)⟩
theorem AA {fa:FA}(ha:AF K μ t fa):EF K μ (IL t) (fq fa):=⟨by
 intro F Z H τ σ ρ A Q P vw R h q
 refine ha.h vw R h fun rs ρ1 xs F1 H1 A1 B1 h1 s1 R1 v1 f1=>?_
 split at h1
 ·rename_i ds ρ2 e
  obtain ⟨F2,A2,s2,R2,dn⟩:=R1.frzL v1 f1 e
  refine ⟨by rw [dn.length]; exact h1.1,fun p hp=>?_⟩
  have hf:F2 p=none:=R2.fh.free hp
  exact R2.after (P:=fun o=>P (.ov o) ρ2) (fun o v F3 H3 B p s3 R3 ow fr=>q _ _ _ _ _ _ _ p ((s1.trans s2).trans s3) R3 ow fr) _ _ F2 _ [p] h1.2 (Pure.new R2.fh hp) (.fl ao dn) (New.one hp hf)
 ·exact h1.elim⟩
theorem AB {fa:FA}(ha:AF K μ t fa):EF K μ (Ia t) (qi fa):=⟨by
 intro F Z H τ σ ρ A Q P vw R h q
 refine ha.h vw R h fun rs ρ1 xs F1 H1 A1 B1 h1 s1 R1 v1 f1=>?_
 split at h1
 ·rename_i ds ρ2 e
  obtain ⟨F2,A2,s2,R2,dn⟩:=R1.frzL v1 f1 e
  refine ⟨by rw [dn.length]; exact h1.1,fun p hp=>?_⟩
  have hf:F2 p=none:=R2.fh.free hp
  refine R2.after (P:=fun o=>P (.ov o) ρ2) (fun o v F3 H3 B p s3 R3 ow fr=>q _ _ _ _ _ _ _ p ((s1.trans s2).trans s3) R3 ow fr) _ _ (upd F2 p (.tup xs)) _ [] h1.2 (Pure.frz R2.fh hp) (.fz (.tup (SqT.of ao) (dn.mono (bn hf)))) New.nil
 ·exact h1.elim⟩
theorem CB:EF K μ nK Gm:=⟨by
 intro F Z H τ σ ρ A Q P vw R h q p hp
 have hf:F p=none:=R.fh.free hp
 exact R.after (P:=fun o=>P (.ov o) ρ) (fun o v F3 H3 B p s3 R3 ow fr=>q _ _ _ _ _ _ _ p s3 R3 ow fr) _ _ F _ [p] h (Pure.new R.fh hp) (.fd ao rfl .nil) (New.one hp hf)⟩
theorem CC:OF K μ mM au:=⟨fun {F Z H τ σ ρ A Q P} vw R p q=>q _ _ _ _ _ p (Same.refl _) R⟩
theorem CD (ha:EF K μ ta fa):OF K μ (Bv ta) (bh fa):=⟨by
 intro F Z H τ σ ρ A Q P vw R h q
 refine ha.h vw R h fun r1 ρ1 x F1 H1 A1 B1 h1 s1 R1 v1 f1=>?_
 obtain ⟨d,e1,h2⟩:=bS h1
 split at h2
 ·rename_i i
  exact ⟨i,(R1.acc v1 e1).int_eq,q _ _ _ _ _ h2 s1 R1⟩
 ·exact h2.elim⟩
theorem Jg {r:V->Option Int->Option Int->Hp->VK->Prop}{f:D->Option Int->Option Int->(OV->Prop)->Prop}{tl th:TO}{fl fh:FO}(hr:SlF K r f)(he:EF K μ te fe)(hl:OF K μ tl fl)(hh:OF K μ th fh):EF K μ (tSl r te tl th) (fSl f fe fl fh):=⟨by
 intro F Z H τ σ ρ A Q P vw R h q
 refine he.h vw R h fun r1 ρ1 x F1 H1 A1 B1 h1 s1 R1 v1 f1=>?_
 obtain ⟨Z',sz,R1',zl,back⟩:=R1.hold v1.live f1
 refine hl.h vw R1' h1 fun lo ρ2 F2 H2 A2 h2 s2 R2=>?_
 refine hh.h vw R2 h2 fun hi ρ3 F3 H3 A3 h3 s3 R3=>?_
 obtain ⟨R3',f1',k1⟩:=back _ _ _ _ (s2.trans s3) R3
 obtain ⟨d,e1,h4⟩:=bS h3
 exact hr.h R3'.fh (R3'.acc (v1.keep (s2.trans s3) k1) e1) h4 (R3'.after fun o v F5 H5 B p s5 R5 ow fr=>q _ _ _ _ _ _ _ p (((s1.trans s2).trans s3).trans s5) R5 ow fr)⟩
end
abbrev Ct:=List OV->(OV->List OV->Prop)->Prop
variable{c:Ct}
def takeR:RV->FSt->Option (OV×FSt)
 | .ov o,ρ=>some (o,ρ)
 | .br i,ρ=>match ρ[i]? with
  | some (some o)=>some (o,ρ.set i none)
  | _=>none
def takeL:List RV->FSt->Option (List OV×FSt)
 | [],ρ=>some ([],ρ)
 | r::rs,ρ=>match takeR r ρ with
  | some (o,ρ1)=>match takeL rs ρ1 with
   | some (os,ρ2)=>some (o::os,ρ2)
   | none=>none
  | none=>none
def putL:List RV->List OV->FSt->FSt
 | .br i::rs,o::os,ρ=>putL rs os (ρ.set i (some o))
 | .ov _::rs,_::os,ρ=>putL rs os ρ
 | _,_,ρ=>ρ
def spM (K:Frag)(c:Ct):Sp:=fun vs H Q _=>∃ (F Z:Hp) (os:List OV) (C:List Addr) (P:OV->List OV->Prop),Same F H/\Same Z H/\(∀ a o,F a=some o->Z a=none)/\Ows K F H vs os C/\C.Nodup/\(∀ a ∈ C,F a=none/\Z a=none)/\c os P /\
 ∀ o os' v F' H' C' B,P o os'->Same F F'->Same F' H'->Same Z H'->(∀ a o,F' a=some o->Z a=none)->Ows K F' H' vs os' C'->Ow K F' H' v o B->(C'++B).Nodup->(∀ a ∈ C'++B,F' a=none/\Z a=none)->Q v H'
def ak (c:Ct)(fa:FA):FE:=fun ρ Q=>fa ρ fun rs ρ1=>match takeL rs ρ1 with
 | some (os,ρ2)=>c os fun o os'=>Q (.ov o) (putL rs os' ρ2)
 | none=>False
def fFz (fe:FE):FE:=fun ρ Q=>fe ρ fun r ρ1=>match fzR r ρ1 with
 | some (d,ρ2)=>Q (.ov (.fz d)) ρ2
 | none=>False
section
variable {K:Frag}     
theorem Rel.takeR {ρ':FSt}(R:Rel K F Z H σ ρ A)(h:RV1 K F H σ v r B)(f:Fresh F Z A B)(e:L2.takeR r ρ=some (o,ρ')) :
  ∃ C A',Rel K F Z H σ ρ' A'/\Ow K F H v o C/\Fresh F Z A' C/\(∀ a ∈ A',a ∈ A)/\∀ a ∈ C,a ∈ A∨a ∈ B:=by
 cases r with
 | ov o' =>
  simp only [L2.takeR,Option.some.injEq,Prod.mk.injEq] at e
  obtain ⟨rfl,rfl⟩:=e
  exact ⟨B,A,R,h,f,fun _ z=>z,fun _ z=>.inr z⟩
 | br i =>
  simp only [L2.takeR] at e
  split at e
  ·rename_i o' ho
   simp only [Option.some.injEq,Prod.mk.injEq] at e
   obtain ⟨rfl,rfl⟩:=e
   obtain ⟨v',B',A',h1,h2,R',f',pm⟩:=R.takeI ho
   have hv:v'=v:=aaj (aaj (h1.symm.trans h.1))
   subst hv
   exact ⟨B',A',R',h2,f',fun a ha=>pm.mem_iff.mpr (List.mem_append.mpr (.inr ha)),fun a ha=>.inl (pm.mem_iff.mpr (List.mem_append.mpr (.inl ha)))⟩
  ·cases e
theorem Rel.takeL:∀ {rs:List RV} {vs:List V} {B:List Addr} {os:List OV} {ρ ρ':FSt} {A:List Addr},Rel K F Z H σ ρ A->RVL K F H σ vs rs B->Fresh F Z A B->L2.takeL rs ρ=some (os,ρ') ->
  ∃ C A',Rel K F Z H σ ρ' A'/\Ows K F H vs os C/\Fresh F Z A' C/\(∀ a ∈ A',a ∈ A)/\∀ a ∈ C,a ∈ A∨a ∈ B:=by
 intro rs
 induction rs with
 | nil =>
  intro vs B os ρ ρ' A R h f e
  simp only [L2.takeL,Option.some.injEq,Prod.mk.injEq] at e
  obtain ⟨rfl,rfl⟩:=e
  cases h
  exact ⟨[],A,R,.nil,f,fun _ z=>z,fun _ z=>nomatch z⟩
 | cons r rs ih =>
  intro vs B os ρ ρ' A R h f e
  cases h with
  | @cons v _ vs _ B1 B2 h t =>
   simp only [L2.takeL] at e
   split at e
   ·rename_i o ρ1 e1
    split at e
    ·rename_i os' ρ2 e2
     simp only [Option.some.injEq,Prod.mk.injEq] at e
     obtain ⟨rfl,rfl⟩:=e
     obtain ⟨n1,n2,n3⟩:=cJ (aaW (B1++B2)) f.nd
     obtain ⟨C1,A1,R1,o1,f1,m1,c1⟩:=R.takeR h ⟨n1,fun b hb=>f.fr b (List.mem_append.mpr (.inl hb))⟩ e1
     obtain ⟨C2,A2,R2,o2,f2,m2,c2⟩:=ih R1 t ⟨n2,fun b hb=>by
      have fb:=f.fr b (List.mem_append.mpr (.inr hb))
      exact ⟨fb.1,fb.2.1,fun z=>fb.2.2 (m1 b z)⟩⟩ e2
     refine ⟨C1++C2,A2,R2,.cons o1 o2,⟨List.nodup_append.mpr ⟨f1.nd,f2.nd,fun a ha b hb z=>?_⟩,fun b hb=>?_⟩,fun a ha=>m1 a (m2 a ha),fun a ha=>?_⟩
     ·subst z
      rcases c2 a hb with z | z
      ·exact (f1.fr a ha).2.2 z
      ·rcases c1 a ha with y | y
       ·exact (f.fr a (List.mem_append.mpr (.inr z))).2.2 y
       ·exact n3 a y z
     ·rcases List.mem_append.mp hb with z | z
      ·exact ⟨(f1.fr b z).1,(f1.fr b z).2.1,fun y=>(f1.fr b z).2.2 (m2 b y)⟩
      ·exact f2.fr b z
     ·rcases List.mem_append.mp ha with z | z
      ·rcases c1 a z with y | y
       ·exact .inl y
       ·exact .inr (List.mem_append.mpr (.inl y))
      ·rcases c2 a z with y | y
       ·exact .inl (m1 a y)
       ·exact .inr (List.mem_append.mpr (.inr y))
    ·cases e
   ·cases e
theorem Rel.assign (R:Rel K F Z H σ ρ A)(h:Ow K F H v o B)(f:Fresh F Z A B):∃ A',Rel K F Z H (σ.set i (some v)) (ρ.set i (some o)) A'/\∀ a ∈ A',a ∈ A∨a ∈ B:=by
 obtain ⟨A1,C,pm,s1⟩:=R.sl.drop i (some v)
 obtain ⟨n1,n2,n3⟩:=cJ pm R.nd
 have mA:∀ a ∈ A1,a ∈ A:=fun a ha=>pm.mem_iff.mpr (List.mem_append.mpr (.inr ha))
 have R1:Rel K F Z H (σ.set i (some v)) (ρ.set i none) A1:=⟨s1,n2,fun a ha=>R.fr a (mA a ha),R.fh,R.zh,R.dj⟩
 by_cases hi:i < ρ.length
 ·have hl:=R.sl.len
  obtain ⟨A2,R2,p2⟩:=R1.putI (i:=i) (v:=v) (o:=o) (B:=B) (by simp [hi]) (by simp [hl,hi]) h ⟨f.nd,fun b hb=>⟨(f.fr b hb).1,(f.fr b hb).2.1,fun z=>(f.fr b hb).2.2 (mA b z)⟩⟩
  rw [List.set_set] at R2
  refine ⟨A2,R2,fun a ha=>?_⟩
  rcases List.mem_append.mp (p2.mem_iff.mp ha) with z | z
  ·exact .inr z
  ·exact .inl (mA a z)
 ·have hl:=R.sl.len
  rw [List.set_eq_of_length_le (by nofun)] at R1 ⊢
  rw [List.set_eq_of_length_le (by nofun)] at R1 ⊢
  exact ⟨A1,R1,fun a ha=>.inl (mA a ha)⟩
theorem Gr (h:σ[i]?=some (some v)):σ.set i (some v)=σ:=by
 apply List.ext_getElem?
 intro j
 by_cases hj:i=j
 ·subst hj
  have:=(List.getElem?_eq_some_iff.mp h).1
  rw [h,List.getElem?_set_self this]
 ·rw [List.getElem?_set_ne hj]
theorem Rel.putL:∀ {rs:List RV} {vs:List V} {os:List OV} {B C:List Addr} {ρ:FSt} {A:List Addr},Rel K F Z H σ ρ A->RVL K F' H' σ vs rs B->Ows K F H vs os C->Fresh F Z A C ->
  ∃ A',Rel K F Z H σ (L2.putL rs os ρ) A'/\∀ a ∈ A',a ∈ A∨a ∈ C:=by
 intro rs
 induction rs with
 | nil =>
  intro vs os B C ρ A R h hO f
  exact ⟨A,R,fun _ z=>.inl z⟩
 | cons r rs ih =>
  intro vs os B C ρ A R h hO f
  cases h with
  | @cons v _ vs _ B1 B2 h t =>
   cases hO with
   | @cons _ o _ os C1 C2 h1 t1 =>
    obtain ⟨n1,n2,n3⟩:=cJ (aaW (C1++C2)) f.nd
    have f1:Fresh F Z A C1:=⟨n1,fun b hb=>f.fr b (List.mem_append.mpr (.inl hb))⟩
    have f2:Fresh F Z A C2:=⟨n2,fun b hb=>f.fr b (List.mem_append.mpr (.inr hb))⟩
    cases r with
    | ov o' =>
     obtain ⟨A',R',m⟩:=ih R t t1 f2
     refine ⟨A',R',fun a ha=>(m a ha).elim .inl fun z=>.inr (List.mem_append.mpr (.inr z))⟩
    | br i =>
     obtain ⟨A1,R1,m1⟩:=R.assign (i:=i) h1 f1
     rw [Gr h.1] at R1
     obtain ⟨A',R',m⟩:=ih R1 t t1 ⟨n2,fun b hb=>⟨(f2.fr b hb).1,(f2.fr b hb).2.1,fun z=>(m1 b z).elim (f2.fr b hb).2.2 fun y=>n3 b y hb⟩⟩
     refine ⟨A',R',fun a ha=>?_⟩
     rcases m a ha with z | z
     ·exact (m1 a z).elim .inl fun y=>.inr (List.mem_append.mpr (.inl y))
     ·exact .inr (List.mem_append.mpr (.inr z))
theorem gl {fa:FA}{E:XK}(ha:AF K μ t fa):EF K μ (jc (spM K c) [] E t) (ak c fa):=⟨by
 intro F Z H τ σ ρ A Q P vw R h q
 refine ha.h vw R h fun rs ρ1 vs F1 H1 A1 B1 h1 s1 R1 v1 f1=>?_
 rw [aaJ]
 split at h1
 ·rename_i os ρ2 e
  obtain ⟨C,A2,R2,o2,f2,m2,c2⟩:=R1.takeL v1 f1 e
  -- what is not handed over is held
  obtain ⟨Z',hin,hout⟩:=mix A2 H1 Z
  have hz:∀ a,a ∈ A2->Z a=none:=fun a ha=>(R2.fr a ha).2
  have sz:Same Z Z':=fun a o z=>by rw [hout a fun y=>by rw [hz a y] at z; cases z]; exact z
  refine ⟨F1,Z',os,C,_,R2.fh,fun a o z=>?_,fun a o z=>?_,o2,f2.nd,fun a ha=>⟨(f2.fr a ha).1,by rw [hout a (f2.fr a ha).2.2]; exact (f2.fr a ha).2.1⟩,h1,fun o os' v F3 H3 C3 B p s3 fh zh dj w3 w4 nd fr=>?_⟩
  ·by_cases y:a ∈ A2
   ·rw [hin a y] at z; exact z
   ·rw [hout a y] at z; exact R2.zh a o z
  ·rw [hout a fun y=>by rw [(R2.fr a y).1] at z; cases z]; exact R2.dj a o z
  ·have nA:∀ a ∈ A2,∃ u,Z' a=some u:=fun a ha=>by
    obtain ⟨u,hu⟩:=R2.sl.live a ha
    exact ⟨u,by rw [hin a ha]; exact hu⟩
   have R3:Rel K F3 Z H3 σ ρ2 A2:=⟨R2.sl.keep s3 fun a u ha hu=>zh a u (by rw [hin a ha]; exact hu),R2.nd,fun a ha=>⟨(by
    cases z:F3 a with
    | none=>rfl
    | some u =>
     have:=dj a u z
     obtain ⟨w,hw⟩:=nA a ha
     rw [hw] at this
     exact nomatch this),(R2.fr a ha).2⟩,fh,sz.trans zh,fun a o z=>sz.free (dj a o z)⟩
   have nC:∀ a ∈ C3++B,a ∉ A2:=fun a ha y=>by
    obtain ⟨w,hw⟩:=nA a y
    rw [(fr a ha).2] at hw; cases hw
   obtain ⟨n1,n2,n3⟩:=cJ (aaW (C3++B)) nd
   have fC:Fresh F3 Z A2 C3:=⟨n1,fun b hb=>by
    have:=fr b (List.mem_append.mpr (.inl hb))
    exact ⟨this.1,sz.free this.2,nC b (List.mem_append.mpr (.inl hb))⟩⟩
   obtain ⟨A4,R4,m4⟩:=R3.putL v1 w3 fC
   refine q _ _ _ _ _ _ _ p (s1.trans s3) R4 w4 ⟨n2,fun b hb=>?_⟩
   have:=fr b (List.mem_append.mpr (.inr hb))
   exact ⟨this.1,sz.free this.2,fun z=>(m4 b z).elim (nC b (List.mem_append.mpr (.inr hb))) fun y=>n3 b y hb⟩
 ·exact h1.elim⟩
theorem qk (he:EF K μ te fe):EF K μ te (fFz fe):=⟨by
 intro F Z H τ σ ρ A Q P vw R h q
 refine he.h vw R h fun r ρ1 v F1 H1 A1 B1 h1 s1 R1 v1 f1=>?_
 split at h1
 ·rename_i d ρ2 e
  obtain ⟨F2,A2,s2,R2,dn,_,_⟩:=R1.frz v1 f1 e
  exact q _ _ _ _ _ _ _ h1 (s1.trans s2) R2 (.fz dn) Fresh.nil
 ·exact h1.elim⟩
end
theorem n5:∀ {l:List Nat} {j k i:Nat},l.Nodup->l[j]?=some i->l[k]?=some i->j=k
 | [],_,_,_,_,h,_=>by simp at h
 | a::l,0,0,_,_,_,_=>rfl
 | a::l,0,k+1,i,n,h,h'=>by
  simp at h h'
  subst h
  exact absurd (List.mem_of_getElem? h') (List.nodup_cons.mp n).1
 | a::l,j+1,0,i,n,h,h'=>by
  simp at h h'
  subst h'
  exact absurd (List.mem_of_getElem? h) (List.nodup_cons.mp n).1
 | a::l,j+1,k+1,i,n,h,h'=>by
  simp at h h'
  rw [n5 (List.nodup_cons.mp n).2 h h']
abbrev FG:=D->FSt->(FSt->Prop)->Prop
variable{fg:FG}
abbrev FGs:=List D->FSt->(FSt->Prop)->Prop
structure GF (K:Frag)(μ:List Nat)(T:List Nat)(g:TG)(f:FG):Prop where
 h:∀ {F Z H:Hp} {τ σ:St} {ρ:FSt} {A:List Addr} {v:V} {d:D} {Q:St->Hp->Prop} {P:FSt->Prop},View μ τ σ->Rel K F Z H σ ρ A->Den K F v d->f d ρ P ->
  (∀ τ' σ' ρ' A',P ρ'->View μ τ' σ'->Rel K F Z H σ' ρ' A'->(∀ i,i ∉ T->σ'[i]?=σ[i]?)->σ'.length=σ.length->((∀ j i:Nat,μ[j]?=some i->i=j)->τ=σ->τ'=σ')->(∀ a ∈ A',a ∈ A)->Q τ' H)->g v τ H Q
structure GsF (K:Frag)(μ:List Nat)(T:List Nat)(g:TGs)(f:FGs):Prop where
 h:∀ {F Z H:Hp} {τ σ:St} {ρ:FSt} {A:List Addr} {v:List V} {d:List D} {Q:St->Hp->Prop} {P:FSt->Prop},View μ τ σ->Rel K F Z H σ ρ A->Dens K F v d->f d ρ P ->
  (∀ τ' σ' ρ' A',P ρ'->View μ τ' σ'->Rel K F Z H σ' ρ' A'->(∀ i,i ∉ T->σ'[i]?=σ[i]?)->σ'.length=σ.length->((∀ j i:Nat,μ[j]?=some i->i=j)->τ=σ->τ'=σ')->(∀ a ∈ A',a ∈ A)->Q τ' H)->g v τ H Q
def ad (i:Nat):FG:=fun d ρ P=>P (ρ.set i (some (.fz d)))
def ql:FGs:=fun ds ρ P=>match ds with
 | []=>P ρ
 | _=>False
def cN (f:FG)(fs:FGs):FGs:=fun ds ρ P=>match ds with
 | d::ds=>f d ρ fun ρ1=>fs ds ρ1 P
 | _=>False
def qm (n:Nat)(f:FGs):FG:=fun d ρ P=>match d with
 | .tup ds=>ds.length=n/\f ds ρ P
 | _=>False
section
variable {K:Frag} 
theorem mY (hj:μ[j]?=some i)(hn:μ.Nodup):GF K μ [i] (fJ j) (ad i):=⟨by
 intro F Z H τ σ ρ A v d Q P vw R dn h q
 obtain ⟨A',R',m⟩:=R.assign (i:=i) (.fz dn) Fresh.nil
 refine q _ (σ.set i (some v)) _ _ h (fun j' i' h'=>⟨?_,by rw [aaD]; exact (vw j' i' h').2.1,by rw [aaD]; exact (vw j' i' h').2.2⟩) R' (fun i' hi'=>?_) (aaD ..) (fun hid e=>?_) fun a ha=>(m a ha).elim id fun z=>nomatch z
 ·by_cases hjj:j=j'
  ·subst hjj
   rw [hj] at h'; cases h'
   have:=vw j i hj
   rw [List.getElem?_set_self this.2.1,List.getElem?_set_self this.2.2]
  ·have hii:i≠i':=fun z=>by
    subst z
    exact hjj (n5 hn hj h')
   rw [List.getElem?_set_ne hjj,List.getElem?_set_ne hii]
   exact (vw j' i' h').1
 ·rw [List.getElem?_set_ne fun z=>hi' (by simp [z])]
 ·rw [hid j i hj,e]⟩
theorem mZ:GsF K μ [] Iy ql:=⟨by
 intro F Z H τ σ ρ A v d Q P vw R dn h q
 cases dn with
 | nil=>exact ⟨rfl,q _ _ _ _ h vw R (fun _ _=>rfl) rfl (fun _ e=>e) fun _ z=>z⟩
 | cons _ _=>exact h.elim⟩
theorem dw {T':List Nat}{g:TG}{f:FG}{fs:FGs}(h1:GF K μ T g f)(h2:GsF K μ T' gs fs):GsF K μ (T++T') (Bl g gs) (cN f fs):=⟨by
 intro F Z H τ σ ρ A v d Q P vw R dn h q
 cases dn with
 | nil=>exact h.elim
 | cons d1 d2 =>
  refine ⟨_,_,rfl,h1.h vw R d1 h fun τ' σ' ρ' A' p vw' R' k kl id' m=>h2.h vw' R' d2 p fun τ2 σ2 ρ2 A2 p2 vw2 R2 k2 kl2 id2 m2=>q _ _ _ _ p2 vw2 R2 (fun i hi=>?_) (kl2.trans kl) (fun a b=>id2 a (id' a b)) fun a ha=>m a (m2 a ha)⟩
  rw [List.mem_append,not_or] at hi
  rw [k2 i hi.2,k i hi.1]⟩
theorem sT {fs:FGs}(h2:GsF K μ T gs fs):GF K μ T (HW K n gs) (qm n fs):=⟨by
 intro F Z H τ σ ρ A v d Q P vw R dn h q
 cases dn with
 | tup hs t=>exact ⟨_,_,rfl,hs.same R.fh,t.length.trans h.1,h2.h vw R t h.2 q⟩
 | _=>exact h.elim⟩
end
structure Walk (K:Frag)(F:Hp)(J:It)(ds:List D):Prop where
 go:∀ H i,Same F H->i < ds.length->J.go i H
 yld:∀ H i x H',Same F H->i < ds.length->J.yld i H x H'->H'=H/\∃ d,ds[i]?=some d/\Den K F x d
 stop:∀ H,Same F H->J.stop ds.length H
abbrev FI:=FSt->(List D->FSt->Prop)->Prop
variable{fi:FI}
structure ITF (K:Frag)(μ:List Nat)(t:TI)(f:FI):Prop where
 h:∀ {F Z H:Hp} {τ σ:St} {ρ:FSt} {A:List Addr} {Q:It->Hp->Prop} {P:List D->FSt->Prop},View μ τ σ->Rel K F Z H σ ρ A->f ρ P ->
  (∀ ds ρ' J F' H' A',P ds ρ'->Same F F'->Rel K F' Z H' σ ρ' A'->Walk K F' J ds->Q J H')->t τ H Q
def lK (fe:FE):FI:=fun ρ Q=>fe ρ fun r ρ1=>match fzR r ρ1 with
 | some (.lst ds,ρ2)=>Q ds ρ2
 | _=>False
def wT (fe:FE):FI:=fun ρ Q=>fe ρ fun r ρ1=>match fzR r ρ1 with
 | some (.tup ds,ρ2)=>Q ds ρ2
 | _=>False
def dR (z:Str):List D:=z.cps.toList.map fun c=>.str ⟨#[c]⟩
def qo (fe:FE):FI:=fun ρ Q=>fe ρ fun r ρ1=>match fzR r ρ1 with
 | some (.str z,ρ2)=>Q (dR z) ρ2
 | _=>False
def cf (lo:Int)(n:Nat):List D:=(List.range n).map fun (k:Nat)=>.int (lo+(k:Int))
def dS (fa:FA):FI:=fun ρ Q=>fa ρ fun rs ρ1=>onL ρ1 rs fun ds=>match ds with
 | [.int j]=>(-(2 ^ 62)<=j/\j < 2 ^ 62)/\Q (cf 0 j.toNat) ρ1
 | _=>False
def sU (fa:FA):FI:=fun ρ Q=>fa ρ fun rs ρ1=>onL ρ1 rs fun ds=>match ds with
 | [.int i,.int j]=>(-(2 ^ 62)<=i/\i < 2 ^ 62/\-(2 ^ 62)<=j/\j < 2 ^ 62)/\Q (cf i (j - i).toNat) ρ1
 | _=>False
section
variable {K:Frag}  
theorem sV (h:SqL K F a xs)(t:Dens K F xs ds):Walk K F (Itl K a) ds :=
 ⟨fun H i s hi=>by
  obtain ⟨x,h1,h2⟩:=t.get (List.getElem?_eq_getElem hi)
  exact ⟨xs,x,s.seq h,h1⟩,fun H i x H' s hi y=>by
  obtain ⟨rfl,y⟩:=y
  obtain ⟨d,h1,h2⟩:=t.get' (y xs (s.seq h))
  exact ⟨rfl,d,h1,h2⟩,fun H s=>⟨xs,s.seq h,by rw [t.length]; exact aac _⟩⟩
theorem wU (h:SqT K F a xs)(t:Dens K F xs ds):Walk K F (Itt K a) ds :=
 ⟨fun H i s hi=>by
  obtain ⟨x,h1,h2⟩:=t.get (List.getElem?_eq_getElem hi)
  exact ⟨xs,x,h.same s,h1⟩,fun H i x H' s hi y=>by
  obtain ⟨rfl,y⟩:=y
  obtain ⟨d,h1,h2⟩:=t.get' (y xs (h.same s))
  exact ⟨rfl,d,h1,h2⟩,fun H s=>⟨xs,h.same s,by rw [t.length]; exact aac _⟩⟩
theorem wV :Walk K F (Its z) (dR z) :=
 ⟨fun H i s hi=>by (have hi:i < z.cps.size:=by simpa [dR] using hi); exact hi,fun H i x H' s hi y=>by
  obtain ⟨rfl,c,h1,rfl⟩:=y
  exact ⟨rfl,.str ⟨#[c]⟩,by rw [dR,List.getElem?_map,h1]; rfl,.str _⟩,fun H s=>by
  show (dR z).length=z.cps.size
  simp [dR]⟩
theorem n6 {lo:Int}:Walk K F (Itr lo n) (cf lo n) :=
 ⟨fun H i s hi=>by (have hi:i < n:=by simpa [cf] using hi); exact hi,fun H i x H' s hi y=>by
  obtain ⟨rfl,rfl⟩:=y
  have hi:i < n:=by simpa [cf] using hi
  exact ⟨rfl,.int (lo+i),by simp [cf,hi],.int _⟩,fun H s=>by
  show n<=(cf lo n).length
  simp [cf]⟩
theorem n8 (he:EF K μ te fe):ITF K μ (mK K te) (lK fe):=⟨by
 intro F Z H τ σ ρ A Q P vw R h q
 refine he.h vw R h fun r ρ1 v F1 H1 A1 B1 h1 s1 R1 v1 f1=>?_
 generalize e:fzR r ρ1=o at h1
 obtain _ | ⟨d,ρ2⟩:=o
 ·exact False.elim h1
 cases d
 case lst ds =>
  obtain ⟨F2,A2,s2,R2,dn,_,_⟩:=R1.frz v1 f1 e
  cases dn with
  | lst hs t=>exact ⟨_,rfl,⟨_,R2.fh.seq hs⟩,q _ _ _ _ _ _ h1 (s1.trans s2) R2 (sV hs t)⟩
 all_goals exact False.elim h1⟩
theorem CF (he:EF K μ te fe):ITF K μ (HX K te) (wT fe):=⟨by
 intro F Z H τ σ ρ A Q P vw R h q
 refine he.h vw R h fun r ρ1 v F1 H1 A1 B1 h1 s1 R1 v1 f1=>?_
 generalize e:fzR r ρ1=o at h1
 obtain _ | ⟨d,ρ2⟩:=o
 ·exact False.elim h1
 cases d
 case tup ds =>
  obtain ⟨F2,A2,s2,R2,dn,_,_⟩:=R1.frz v1 f1 e
  cases dn with
  | tup hs t=>exact ⟨_,rfl,⟨_,hs.same R2.fh⟩,q _ _ _ _ _ _ h1 (s1.trans s2) R2 (wU hs t)⟩
 all_goals exact False.elim h1⟩
theorem CG (he:EF K μ te fe):ITF K μ (IV te) (qo fe):=⟨by
 intro F Z H τ σ ρ A Q P vw R h q
 refine he.h vw R h fun r ρ1 v F1 H1 A1 B1 h1 s1 R1 v1 f1=>?_
 split at h1
 ·rename_i z ρ2 e
  obtain ⟨F2,A2,s2,R2,dn,_,_⟩:=R1.frz v1 f1 e
  exact ⟨z,dn.str_eq,q _ _ _ _ _ _ h1 (s1.trans s2) R2 wV⟩
 ·exact h1.elim⟩
theorem cE (h:Accs K F H xs [d]):∃ x,xs=[x]/\Acc K F H x d:=by
 cases h with | cons a t=>cases t; exact ⟨_,rfl,a⟩
theorem n9 (h:Accs K F H xs [d,e]):∃ x y,xs=[x,y]/\Acc K F H x d/\Acc K F H y e:=by
 cases h with | cons a t=>obtain ⟨y,rfl,b⟩:=cE t; exact ⟨_,_,rfl,a,b⟩
theorem wW {fa:FA}(ha:AF K μ t fa):ITF K μ (Bo t) (dS fa):=⟨by
 intro F Z H τ σ ρ A Q P vw R h q
 refine ha.h vw R h fun rs ρ1 xs F1 H1 A1 B1 h1 s1 R1 v1 f1=>?_
 obtain ⟨ds,e1,h2⟩:=sQ h1
 obtain _ | ⟨d,r⟩:=ds
 ·exact False.elim h2
 cases d
 case int j =>
  cases r with
  | cons=>exact False.elim h2
  | nil =>
   obtain ⟨x,rfl,a⟩:=cE (R1.accs v1 e1)
   exact ⟨j,by rw [a.int_eq],h2.1.1,h2.1.2,q _ _ _ _ _ _ h2.2 s1 R1 n6⟩
 all_goals exact False.elim h2⟩
theorem wX {fa:FA}(ha:AF K μ t fa):ITF K μ (Bp t) (sU fa):=⟨by
 intro F Z H τ σ ρ A Q P vw R h q
 refine ha.h vw R h fun rs ρ1 xs F1 H1 A1 B1 h1 s1 R1 v1 f1=>?_
 obtain ⟨ds,e1,h2⟩:=sQ h1
 split at h2
 ·rename_i i j
  obtain ⟨x,y,rfl,a,b⟩:=n9 (R1.accs v1 e1)
  exact ⟨i,j,by rw [a.int_eq,b.int_eq],h2.1,q _ _ _ _ _ _ h2.2 s1 R1 n6⟩
 ·exact h2.elim⟩
end
structure FEnds where
 nx:FSt->Prop
 rt:OV->FSt->Prop
 bk:FSt->Prop:=fun _=>False
 ct:FSt->Prop:=fun _=>False
variable{E:FEnds}
abbrev FS:=FEnds->FSt->Prop
variable{fb:FS}
def Pin (n:Nat)(m:List Nat)(σ0 σ:St):Prop:=σ.length=n/\∀ i ∈ m,σ[i]?=σ0[i]?
structure EndsOk (K:Frag)(n:Nat)(m:List Nat)(F Z:Hp)(σ0:St)(D:Ends)(fD:FEnds):Prop where
 nx:∀ F' H' σ' ρ' A',Same F F'->Rel K F' Z H' σ' ρ' A'->Pin n m σ0 σ'->fD.nx ρ'->D.nx σ' H'
 rt:∀ F' H' σ' ρ' A' v o B,Same F F'->Rel K F' Z H' σ' ρ' A'->Pin n m σ0 σ'->Ow K F' H' v o B->Fresh F' Z A' B->fD.rt o ρ'->D.rt v H'
 bk:∀ F' H' σ' ρ' A',Same F F'->Rel K F' Z H' σ' ρ' A'->Pin n m σ0 σ'->fD.bk ρ'->D.bk σ' H'
 ct:∀ F' H' σ' ρ' A',Same F F'->Rel K F' Z H' σ' ρ' A'->Pin n m σ0 σ'->fD.ct ρ'->D.ct σ' H'
theorem EndsOk.mono {K:Frag}{D:Ends}{fD:FEnds}(E:EndsOk K n m F Z σ0 D fD)(e:Same F F1):EndsOk K n m F1 Z σ0 D fD :=
 ⟨fun F' H' σ' ρ' A' s=>E.nx F' H' σ' ρ' A' (e.trans s),fun F' H' σ' ρ' A' v o B s=>E.rt F' H' σ' ρ' A' v o B (e.trans s),fun F' H' σ' ρ' A' s=>E.bk F' H' σ' ρ' A' (e.trans s),fun F' H' σ' ρ' A' s=>E.ct F' H' σ' ρ' A' (e.trans s)⟩
structure SF (K:Frag)(n:Nat)(m:List Nat)(t:TS)(f:FS):Prop where
 h:∀ {F Z H:Hp} {σ0 σ:St} {ρ:FSt} {A:List Addr} {D:Ends} {fD:FEnds},Rel K F Z H σ ρ A->Pin n m σ0 σ->EndsOk K n m F Z σ0 D fD->f fD ρ->t D σ H
def az:FS:=fun D ρ=>D.nx ρ
def jh:FSt->(FSt->Prop)->Prop
 | [],k=>k []
 | a::l,k=>jh l fun l'=>k (a::l')
theorem cF:∀ (ρ:FSt) (k:FSt->Prop),jh ρ k↔k ρ
 | [],k=>Iff.rfl
 | a::l,k=>by rw [jh,cF l]
def ap (f g:FS):FS:=fun D ρ=>f { D with nx:=fun ρ'=>jh ρ' (g D) } ρ
@[irreducible] def fIf (c:FT)(f g:FS)(E:FEnds)(ρ:FSt):Prop:=c ρ fun b ρ1=>br b (f E ρ1) (g E ρ1)
theorem bd {c:FT}{f g:FS}(h:c ρ fun b ρ1=>br b (f E ρ1) (g E ρ1)):fIf c f g E ρ:=by unfold fIf; exact h
theorem bo {c:FT}{f:FS}(p:Prop)(rest:p->E.nx ρ)(h:(p->E.nx ρ)->c ρ fun b ρ1=>br b (f E ρ1) (E.nx ρ1)):fIf c f az E ρ:=bd (h rest)
def bp (fe:FE):FS:=fun D ρ=>fe ρ fun r ρ1=>match takeR r ρ1 with
 | some (o,ρ2)=>D.rt o ρ2
 | none=>False
def sW (fe:FE):FS:=fun D ρ=>fe ρ fun _ ρ1=>D.nx ρ1
def bB (fe:FE)(fg:FG):FS:=fun D ρ=>fe ρ fun r ρ1=>match fzR r ρ1 with
 | some (d,ρ2)=>fg d ρ2 D.nx
 | none=>False
def gO (i:Nat)(fe:FE):FS:=fun D ρ=>fe ρ fun r ρ1=>match r with
 | .ov o=>D.nx (ρ1.set i (some o))
 | .br _=>False
def oa (fg:FG)(fb:FS)(E:FEnds):List D->FSt->Prop
 | [],ρ=>E.nx ρ
 | d::ds,ρ=>fg d ρ fun ρ1=>fb { nx:=oa fg fb E ds,ct:=oa fg fb E ds,bk:=E.nx,rt:=E.rt } ρ1
@[irreducible] def dz (fg:FG)(fb:FS)(E:FEnds)(ds:List D)(ρ:FSt):Prop:=oa fg fb E ds ρ
theorem j8 (fg:FG)(fb:FS)(E:FEnds)(ds:List D):dz fg fb E ds=oa fg fb E ds:=by funext ρ; unfold dz; rfl
theorem lL (fg:FG)(fb:FS)(E:FEnds)(ρ:FSt):dz fg fb E [] ρ=E.nx ρ:=by rw [j8]; rfl
theorem lM (fg:FG)(fb:FS)(E:FEnds)(d:D)(ds:List D)(ρ:FSt):dz fg fb E (d::ds) ρ=fg d ρ fun ρ1=>fb { nx:=dz fg fb E ds,ct:=dz fg fb E ds,bk:=E.nx,rt:=E.rt } ρ1:=by rw [j8,j8]; rfl
def wY (fi:FI)(fg:FG)(fb:FS):FS:=fun D ρ=>fi ρ fun ds ρ1=>jh ρ1 (dz fg fb D ds)
def j9 (fc:FT)(fb:FS)(E:FEnds):Nat->FSt->Prop
 | 0,_=>False
 | n+1,ρ=>fc ρ fun b ρ1=>br b (fb { nx:=j9 fc fb E n,ct:=j9 fc fb E n,bk:=E.nx,rt:=E.rt } ρ1) (E.nx ρ1)
@[irreducible] def cn (fc:FT)(fb:FS)(E:FEnds)(n:Nat)(ρ:FSt):Prop:=j9 fc fb E n ρ
theorem iy (fc:FT)(fb:FS)(E:FEnds)(n:Nat):cn fc fb E n=j9 fc fb E n:=by funext ρ; unfold cn; rfl
theorem qp (fc:FT)(fb:FS)(E:FEnds)(ρ:FSt):cn fc fb E 0 ρ=False:=by rw [iy]; rfl
theorem jx (fc:FT)(fb:FS)(E:FEnds)(n:Nat)(ρ:FSt):cn fc fb E (n+1) ρ=fc ρ fun b ρ1=>br b (fb { nx:=cn fc fb E n,ct:=cn fc fb E n,bk:=E.nx,rt:=E.rt } ρ1) (E.nx ρ1):=by rw [iy,iy]; rfl
theorem sX (h:E.nx ρ):dz fg fb E [] ρ:=by rw [lL]; exact h
theorem qq (h:fg d ρ fun ρ1=>fb { nx:=dz fg fb E ds,ct:=dz fg fb E ds,bk:=E.nx,rt:=E.rt } ρ1):dz fg fb E (d::ds) ρ:=by rw [lM]; exact h
theorem m3 (h:fc ρ fun b ρ1=>br b (fb { nx:=cn fc fb E n,ct:=cn fc fb E n,bk:=E.nx,rt:=E.rt } ρ1) (E.nx ρ1)):cn fc fb E (n+1) ρ:=by rw [jx]; exact h
def sZ (fc:FT)(fb:FS):FS:=fun D ρ=>∃ n,cn fc fb D n ρ
section
variable {K:Frag}  
theorem Pin.refl {σ:St}(h:σ.length=n):Pin n m σ σ:=⟨h,fun _ _=>rfl⟩
theorem Pin.set {x:Option V}(p:Pin n m σ0 σ)(hi:i ∉ m):Pin n m σ0 (σ.set i x):=⟨by rw [aaD]; exact p.1,fun j hj=>by
 rw [List.getElem?_set_ne fun z=>hi (by rw [z]; exact hj)]; exact p.2 j hj⟩
theorem fu:SF K n m rc az:=⟨fun {F Z H σ0 σ ρ A D fD} R p E h=>E.nx _ _ _ _ _ (Same.refl _) R p h⟩
theorem jy {t u:TS}{f g:FS}(h1:SF K n m t f)(h2:SF K n m u g):SF K n m (EK t u) (ap f g):=⟨fun {F Z H σ0 σ ρ A D fD} R p E h =>
 h1.h (fD:={ fD with nx:=fun ρ'=>jh ρ' (g fD) }) R p ⟨fun F' H' σ' ρ' A' s R' p' q=>h2.h R' p' (E.mono s) ((cF ρ' (g fD)).mp q),E.rt,E.bk,E.ct⟩ h⟩
theorem CH {c:TT}{t u:TS}{f g:FS}(hc:TF K (List.range n) c fc)(h1:SF K n m t f)(h2:SF K n m u g):SF K n m (EM c t u) (fIf fc f g):=⟨fun {F Z H σ0 σ ρ A D fD} R p E h =>
 hc.h (P:=fun b ρ1=>br b (f fD ρ1) (g fD ρ1)) (View.id p.1) R (by unfold fIf at h; exact h) fun b ρ1 F1 H1 A1 q s R1=>by
  cases b with
  | true=>exact h1.h R1 p (E.mono s) (qX q)
  | false=>exact h2.h R1 p (E.mono s) (qY q)⟩
theorem lN (he:EF K (List.range n) te fe):SF K n m (EL te) (bp fe):=⟨by
 intro F Z H σ0 σ ρ A D fD R p E h
 refine he.h (View.id p.1) R h fun r ρ1 v F1 H1 A1 B1 h1 s1 R1 v1 f1=>?_
 split at h1
 ·rename_i o ρ2 e
  obtain ⟨C,A2,R2,o2,f2,_,_⟩:=R1.takeR v1 f1 e
  exact E.rt _ _ _ _ _ _ _ _ s1 R2 p o2 f2 h1
 ·exact h1.elim⟩
theorem CI (he:EF K (List.range n) te fe):SF K n m (Bi te) (sW fe):=⟨fun {F Z H σ0 σ ρ A D fD} R p E h =>
 he.h (View.id p.1) R h fun r ρ1 v F1 H1 A1 B1 h1 s1 R1 v1 f1=>E.nx _ _ _ _ _ s1 R1 p h1⟩
theorem ka (n:Nat):∀ j i:Nat,(List.range n)[j]?=some i->i=j:=fun j i h=>by
 obtain ⟨h1,h2⟩:=List.getElem?_eq_some_iff.mp h
 rw [List.getElem_range] at h2; exact h2.symm
theorem gE {g:TG}(he:EF K (List.range n) te fe)(hg:GF K (List.range n) T g fg)(hT:∀ i ∈ m,i ∉ T):SF K n m (pO te g) (bB fe fg):=⟨by
 intro F Z H σ0 σ ρ A D fD R p E h
 refine he.h (View.id p.1) R h fun r ρ1 v F1 H1 A1 B1 h1 s1 R1 v1 f1=>?_
 split at h1
 ·rename_i d ρ2 e
  obtain ⟨F2,A2,s2,R2,dn,_,_⟩:=R1.frz v1 f1 e
  refine hg.h (View.id p.1) R2 dn h1 fun τ' σ' ρ' A' q _ R' k kl id' _=>?_
  rw [id' (ka n) rfl]
  exact E.nx _ _ _ _ _ (s1.trans s2) R' ⟨kl.trans p.1,fun i hi=>by rw [k i (hT i hi)]; exact p.2 i hi⟩ q
 ·exact h1.elim⟩
theorem CJ (he:EF K (List.range n) te fe)(hi:i ∉ m):SF K n m (pO te (fJ i)) (gO i fe):=⟨by
 intro F Z H σ0 σ ρ A D fD R p E h
 refine he.h (View.id p.1) R h fun r ρ1 v F1 H1 A1 B1 h1 s1 R1 v1 f1=>?_
 cases r with
 | ov o =>
  obtain ⟨A2,R2,_⟩:=R1.assign (i:=i) v1 f1
  exact E.nx _ _ _ _ _ s1 R2 (p.set hi) h1
 | br j=>exact h1.elim⟩
theorem Gs {g:TG}{tb:TS}(hi:ITF K (List.range n) wi fi)(hg:GF K (List.range n) T g fg)(hT:∀ i ∈ m,i ∉ T)(hb:SF K n m tb fb):SF K n m (IA wi g tb) (wY fi fg fb):=⟨by
 intro F Z H σ0 σ ρ A D fD R p E h
 refine hi.h (View.id p.1) R h fun ds ρ1 J F1 H1 A1 h1 s1 R1 wk=>?_
 rw [cF] at h1
 refine ⟨fun i k σ' H'=>k=ds.length - i/\i<=ds.length/\∃ F' ρ' A',Same F1 F'/\Rel K F' Z H' σ' ρ' A'/\Pin n m σ0 σ'/\dz fg fb fD (ds.drop i) ρ',⟨_,rfl,aam _,F1,ρ1,A1,Same.refl _,R1,p,by rw [aaA]; exact h1⟩,?_⟩
 rintro i k σ' H' ⟨rfl,hle,F',ρ',A',s',R',p',h'⟩
 by_cases hlt:i < ds.length
 ·rw [aaw hlt,lM] at h'
  refine .inr ⟨wk.go H' i (s'.trans R'.fh) hlt,fun σ2 H2=>∃ F2 ρ2 A2,Same F1 F2/\Rel K F2 Z H2 σ2 ρ2 A2/\Pin n m σ0 σ2/\dz fg fb fD (ds.drop (i+1)) ρ2,fun σ2 H2 q=>⟨_,by nofun,rfl,hlt,q⟩,fun x H2 y=>?_⟩
  obtain ⟨rfl,d,hd,dn⟩:=wk.yld H' i x H2 (s'.trans R'.fh) hlt y
  rw [List.getElem?_eq_getElem hlt] at hd
  cases hd
  refine hg.h (View.id p'.1) R' (dn.mono s') h' fun τ' σ2 ρ2 A2 q _ R2 k kl id' _=>?_
  rw [id' (ka n) rfl]
  have nxt:∀ F3 H3 σ3 ρ3 A3,Same F' F3->Rel K F3 Z H3 σ3 ρ3 A3->Pin n m σ0 σ3->dz fg fb fD (ds.drop (i+1)) ρ3->∃ F2 ρ2 A2,Same F1 F2/\Rel K F2 Z H3 σ3 ρ2 A2/\Pin n m σ0 σ3/\dz fg fb fD (ds.drop (i+1)) ρ2 :=
   fun F3 H3 σ3 ρ3 A3 s3 R3 p3 q3=>⟨F3,ρ3,A3,s'.trans s3,R3,p3,q3⟩
  refine hb.h (fD:={ nx:=dz fg fb fD (ds.drop (i+1)),ct:=dz fg fb fD (ds.drop (i+1)),bk:=fD.nx,rt:=fD.rt }) R2 ⟨kl.trans p'.1,fun i hi=>by rw [k i (hT i hi)]; exact p'.2 i hi⟩ ⟨nxt,fun F3 H3 σ3 ρ3 A3 v o B s3=>E.rt F3 H3 σ3 ρ3 A3 v o B (s1.trans (s'.trans s3)),fun F3 H3 σ3 ρ3 A3 s3=>E.nx F3 H3 σ3 ρ3 A3 (s1.trans (s'.trans s3)),nxt⟩ q
 ·have e:i=ds.length:=by nofun
  subst e
  rw [aa2,lL] at h'
  exact .inl ⟨wk.stop H' (s'.trans R'.fh),E.nx _ _ _ _ _ (s1.trans s') R' p' h'⟩⟩
theorem wZ {c:TT}{tb:TS}(hc:TF K (List.range n) c fc)(hb:SF K n m tb fb):SF K n m (rf c tb) (sZ fc fb):=⟨by
 intro F Z H σ0 σ ρ A D fD R p E h
 obtain ⟨N,h⟩:=h
 refine ⟨fun k σ' H'=>∃ F' ρ' A',Same F F'/\Rel K F' Z H' σ' ρ' A'/\Pin n m σ0 σ'/\cn fc fb fD k ρ',⟨N,F,ρ,A,Same.refl _,R,p,h⟩,?_⟩
 rintro k σ' H' ⟨F',ρ',A',s',R',p',h'⟩
 cases k with
 | zero=>rw [qp] at h'; exact h'.elim
 | succ k =>
  rw [jx] at h'
  refine hc.h (View.id p'.1) R' h' fun b ρ1 F1 H1 A1 q s1 R1=>?_
  cases b with
  | false=>exact E.nx _ _ _ _ _ (s'.trans s1) R1 p' (qY q)
  | true =>
   replace q:=qX q
   rw [if_pos rfl]
   have nxt:∀ F3 H3 σ3 ρ3 A3,Same F1 F3->Rel K F3 Z H3 σ3 ρ3 A3->Pin n m σ0 σ3->cn fc fb fD k ρ3->∃ F2 ρ2 A2,Same F F2/\Rel K F2 Z H3 σ3 ρ2 A2/\Pin n m σ0 σ3/\cn fc fb fD k ρ2 :=
    fun F3 H3 σ3 ρ3 A3 s3 R3 p3 q3=>⟨F3,ρ3,A3,(s'.trans s1).trans s3,R3,p3,q3⟩
   exact ⟨fun σ2 H2=>∃ F2 ρ2 A2,Same F F2/\Rel K F2 Z H2 σ2 ρ2 A2/\Pin n m σ0 σ2/\cn fc fb fD k ρ2,fun σ2 H2 q=>⟨k,aaR k,q⟩,
    hb.h (fD:={ nx:=cn fc fb fD k,ct:=cn fc fb fD k,bk:=fD.nx,rt:=fD.rt }) R1 p' ⟨nxt,fun F3 H3 σ3 ρ3 A3 v o B s3=>E.rt F3 H3 σ3 ρ3 A3 v o B ((s'.trans s1).trans s3),fun F3 H3 σ3 ρ3 A3 s3=>E.nx F3 H3 σ3 ρ3 A3 ((s'.trans s1).trans s3),nxt⟩ q⟩⟩
end
def og (fg:FG)(ft:FT)(fe:FE)(P:List D->FSt->Prop):List D->List D->FSt->Prop
 | [],as,ρ=>P as ρ
 | d::ds,as,ρ=>fg d ρ fun ρ1=>ft ρ1 fun b ρ2=>br b (fe ρ2 fun r ρ3=>match fzR r ρ3 with
  | some (y,ρ4)=>as.length < sizeLine/\og fg ft fe P ds (as++[y]) ρ4
  | none=>False) (og fg ft fe P ds as ρ2)
@[irreducible] def fR (fg:FG)(ft:FT)(fe:FE)(P:List D->FSt->Prop)(ds as:List D)(ρ:FSt):Prop:=og fg ft fe P ds as ρ
theorem kb (fg:FG)(ft:FT)(fe:FE)(P:List D->FSt->Prop)(ds:List D):fR fg ft fe P ds=og fg ft fe P ds:=by funext as ρ; unfold fR; rfl
theorem iz (fg:FG)(ft:FT)(fe:FE)(P:List D->FSt->Prop)(as:List D)(ρ:FSt):fR fg ft fe P [] as ρ=P as ρ:=by rw [kb]; rfl
theorem iA (fg:FG)(ft:FT)(fe:FE)(P:List D->FSt->Prop)(d:D)(ds as:List D)(ρ:FSt):fR fg ft fe P (d::ds) as ρ=(fg d ρ fun ρ1=>ft ρ1 fun b ρ2=>br b (fe ρ2 fun r ρ3=>match fzR r ρ3 with
  | some (y,ρ4)=>as.length < sizeLine/\fR fg ft fe P ds (as++[y]) ρ4
  | none=>False) (fR fg ft fe P ds as ρ2)):=by rw [kb,kb]; rfl
theorem tf {P:List D->FSt->Prop}(h:P as ρ):fR fg ft fe P [] as ρ:=by rw [iz]; exact h
theorem qr {P:List D->FSt->Prop}(h:fg d ρ fun ρ1=>ft ρ1 fun b ρ2=>br b (fe ρ2 fun r ρ3=>match fzR r ρ3 with
  | some (y,ρ4)=>as.length < sizeLine/\fR fg ft fe P ds (as++[y]) ρ4
  | none=>False) (fR fg ft fe P ds as ρ2)):fR fg ft fe P (d::ds) as ρ:=by rw [iA]; exact h
def qt (no:Nat)(fi:FI)(fg:FG)(ft:FT)(fe:FE):FE:=fun ρ Q=>fi ρ fun ds ρ1=>jh (List.replicate no none++ρ1) (fR fg ft fe (fun as ρ'=>Q (.ov (.fl as)) (ρ'.drop no)) ds [])
def muC (no:Nat)(ixs μ:List Nat):List Nat:=List.range no++ixs.map fun j=>no+μ.getD j 0
section
variable {K:Frag}     
theorem Slots.none_app {K:Frag}{F H:Hp}{σ:St}{ρ:FSt}{A:List Addr}(h:Slots K F H σ ρ A):∀ n,Slots K F H (List.replicate n none++σ) (List.replicate n none++ρ) A
 | 0=>h
 | n+1=>.skip (Slots.none_app h n)
theorem Slots.dropN {K:Frag}(n:Nat)(h:Slots K F H σ ρ A):∃ A' B,A=B++A'/\Slots K F H (σ.drop n) (ρ.drop n) A':=by
 induction h generalizing n with
 | nil=>cases n <;> exact ⟨[],[],rfl,.nil⟩
 | skip t ih =>
  cases n with
  | zero=>exact ⟨_,[],rfl,.skip t⟩
  | succ n=>exact ih n
 | @has _ _ _ _ C _ h t ih =>
  cases n with
  | zero=>exact ⟨_,[],rfl,.has h t⟩
  | succ n =>
   obtain ⟨A',B,rfl,h2⟩:=ih n
   exact ⟨A',C++B,by rw [List.append_assoc],h2⟩
theorem Rel.write {o:HO}(R:Rel K F Z H σ ρ A)(hA:a ∉ A)(hF:F a=none)(hZ:Z a=none):Rel K F Z (upd H a o) σ ρ A:=by
 have e:∀ b u,b≠a->H b=some u->upd H a o b=some u:=fun b u h q=>by rw [aU h]; exact q
 exact ⟨R.sl.keep (Same.refl _) fun b u hb q=>e b u (fun z=>hA (z ▸ hb)) q,R.nd,R.fr,fun b u q=>e b u (fun z=>by rw [z,hF] at q; cases q) (R.fh b u q),fun b u q=>e b u (fun z=>by rw [z,hZ] at q; cases q) (R.zh b u q),R.dj⟩
theorem iB {τ:St}(vw:View μ τ σ)(hix:∀ j ∈ ixs,j < μ.length):View (muC no ixs μ) (List.replicate no none++lw τ ixs) (List.replicate no none++σ):=by
 intro j i h
 unfold muC at h
 by_cases hj:j < no
 ·rw [List.getElem?_append_left (by exists hj)] at h
  have:=ka no j i h
  subst this
  rw [List.getElem?_append_left (by exists hj),List.getElem?_append_left (by exists hj)]
  refine ⟨rfl,?_,?_⟩ <;> simp <;> nofun
 ·rw [List.getElem?_append_right (by exists hj)] at h
  rw [List.length_range,List.getElem?_map,Option.map_eq_some_iff] at h
  obtain ⟨j0,h1,h2⟩:=h
  have hj0:=hix j0 (List.mem_of_getElem? h1)
  obtain ⟨v1,v2,v3⟩:=vw j0 (μ.getD j0 0) (by rw [List.getD_eq_getElem?_getD,List.getElem?_eq_getElem hj0]; rfl)
  have hk:j - no < ixs.length:=(List.getElem?_eq_some_iff.mp h1).1
  refine ⟨?_,?_,?_⟩
  ·rw [List.getElem?_append_right (by exists hj),aay,← h2,List.getElem?_append_right (by simp),aay,aaM,← v1]
   unfold lw
   rw [List.getElem?_map,h1]
   show some ((τ[j0]?).getD none)=τ[j0]?
   rw [List.getElem?_eq_getElem v2]; rfl
  ·unfold lw; simp; nofun
  ·simp; nofun
abbrev w6 (K:Frag)(fg:FG)(fc:FT)(fe:FE)(P:RV->FSt->Prop)(no:Nat)(m:List Nat)(F1 Z:Hp)(σ:St)(a:Addr)(rest:List D)(acc:List V)(τ':St)(H':Hp):Prop :=
 ∃ F' ρ' A' σ' as,Same F1 F'/\Rel K F' Z H' σ' ρ' A'/\View m τ' σ'/\(∀ i,no<=i->σ'[i]?=(List.replicate no none++σ)[i]?)/\H' a=some (.lst acc)/\F' a=none/\a ∉ A'/\Dens K F' acc as /\
   fR fg fc fe (fun as ρ'=>P (.ov (.fl as)) (ρ'.drop no)) rest as ρ'
theorem CK {g:TG}(hi:ITF K μ wi fi)(hix:∀ j ∈ ixs,j < μ.length)(hg:GF K (muC no ixs μ) T g fg)(hT:∀ i ∈ T,i < no)
  (hc:TF K (muC no ixs μ) tc fc) (he:EF K (muC no ixs μ) te fe):EF K μ (eL no ixs wi g tc te) (qt no fi fg fc fe):=⟨by
 intro F Z H τ σ ρ A Q P vw R h q
 refine hi.h vw R h fun ds ρ1 J F1 H1 A1 h1 s1 R1 wk=>?_
 rw [cF] at h1
 intro a ha
 have hF1:F1 a=none:=R1.fh.free ha
 have hZ1:Z a=none:=R1.zh.free ha
 have hA1:a ∉ A1:=fun z=>by
  obtain ⟨u,hu⟩:=R1.sl.live a z
  rw [ha] at hu; cases hu
 have R1':Rel K F1 Z (upd H1 a (.lst [])) (List.replicate no none++σ) (List.replicate no none++ρ1) A1:=by
  have:=R1.write (o:=.lst []) hA1 hF1 hZ1
  exact ⟨this.sl.none_app no,this.nd,this.fr,this.fh,this.zh,this.dj⟩
 have hfin:∀ F' H' σ' ρ' A' acc as,Same F1 F'->Rel K F' Z H' σ' ρ' A'->(∀ i,no<=i->σ'[i]?=(List.replicate no none++σ)[i]?)->H' a=some (.lst acc)->F' a=none->a ∉ A'->Dens K F' acc as->P (.ov (.fl as)) (ρ'.drop no)->Q (.ref a) H':=by
  intro F' H' σ' ρ' A' acc as s' R' k ha' hF' hA' dn p
  obtain ⟨A2,B2,e2,sl2⟩:=R'.sl.dropN no
  have es:σ'.drop no=σ:=by
   apply List.ext_getElem?
   intro i
   rw [List.getElem?_drop,k (no+i) (by omega),List.getElem?_append_right (by simp),aay,aaM]
  rw [es] at sl2
  have m2:∀ b ∈ A2,b ∈ A':=fun b hb=>by rw [e2]; exact List.mem_append.mpr (.inr hb)
  have R2:Rel K F' Z H' σ (ρ'.drop no) A2:=⟨sl2,by have:=R'.nd; rw [e2,abt] at this; exact this.2.1,fun b hb=>R'.fr b (m2 b hb),R'.fh,R'.zh,R'.dj⟩
  exact q _ _ _ _ _ _ [a] p (s1.trans s') R2 (.fl ha' dn) ⟨by simp,fun b hb=>by
   have:b=a:=(by exists hb)
   subst this
   exact ⟨hF',hZ1,fun z=>hA' (m2 _ z)⟩⟩
 refine ⟨fun i k acc τ' H'=>k=ds.length - i/\i<=ds.length/\w6 K fg fc fe P no (muC no ixs μ) F1 Z σ a (ds.drop i) acc τ' H',
  ⟨_,rfl,aam _,F1,_,A1,_,[],Same.refl _,R1',iB vw hix,fun _ _=>rfl,ao,hF1,hA1,.nil,by rw [aaA]; exact h1⟩,?_⟩
 rintro i k acc τ' H' ⟨rfl,hle,F',ρ',A',σ',as,s',R',vw',kp,hD,hFD,hAD,dn,h'⟩
 by_cases hlt:i < ds.length
 ·rw [aaw hlt,iA] at h'
  refine .inr ⟨wk.go H' i (s'.trans R'.fh) hlt,fun acc τ' H'=>w6 K fg fc fe P no (muC no ixs μ) F1 Z σ a (ds.drop (i+1)) acc τ' H',fun acc' σ2 H2 z=>⟨_,by omega,rfl,hlt,z⟩,fun x H2 y=>?_⟩
  obtain ⟨rfl,d,hd,dx⟩:=wk.yld H' i x H2 (s'.trans R'.fh) hlt y
  rw [List.getElem?_eq_getElem hlt] at hd
  cases hd
  refine hg.h vw' R' (dx.mono s') h' fun τ2 σ2 ρ2 A2 p2 vw2 R2 k2 kl2 _ m2=>?_
  have kp2:∀ i,no<=i->σ2[i]?=(List.replicate no none++σ)[i]?:=fun i hi=>by
   rw [k2 i fun z=>by have:=hT i z; omega]; exact kp i hi
  have fD:Fresh F' Z A2 [a]:=⟨by simp,fun b hb=>by
   have:b=a:=(by exists hb)
   subst this
   exact ⟨hFD,hZ1,fun z=>hAD (m2 _ z)⟩⟩
  obtain ⟨Z',sz,R2',zl,back⟩:=R2.hold (B:=[a]) (fun b hb=>by
   have:b=a:=(by exists hb)
   subst this
   exact ⟨_,hD⟩) fD
  refine hc.h vw2 R2' p2 fun b ρ3 F3 H3 A3 p3 s3 R3=>?_
  cases b with
  | false =>
   replace p3:=qY p3
   rw [if_neg Bool.false_ne_true]
   obtain ⟨R3',f3,k3⟩:=back _ _ _ _ s3 R3
   have fa:=f3.fr a (by simp)
   exact ⟨F3,ρ3,A3,σ2,as,s'.trans s3,R3',vw2,kp2,k3 a _ (by simp) hD,fa.1,fa.2.2,dn.mono s3,p3⟩
  | true =>
   replace p3:=qX p3
   rw [if_pos rfl]
   refine he.h vw2 R3 p3 fun r ρ4 v F4 H4 A4 B4 p4 s4 R4 v4 f4=>?_
   split at p4
   ·rename_i y ρ5 e5
    obtain ⟨F5,A5,s5,R5,dy,_,_⟩:=R4.frz v4 f4 e5
    obtain ⟨R5',f5,k5⟩:=back _ _ _ _ ((s3.trans s4).trans s5) R5
    have fa:=f5.fr a (by simp)
    refine ⟨k5 a _ (by simp) hD,by rw [dn.length]; exact p4.1,F5,ρ5,A5,σ2,as++[y],((s'.trans s3).trans s4).trans s5,R5'.write fa.2.2 fa.1 hZ1,vw2,kp2,ao,fa.1,fa.2.2,(dn.mono ((s3.trans s4).trans s5)).snoc dy,p4.2⟩
   ·exact p4.elim
 ·have e:i=ds.length:=by omega
  subst e
  rw [aa2,iz] at h'
  exact .inl ⟨wk.stop H' (s'.trans R'.fh),hfin _ _ _ _ _ _ _ s' R' kp hD hFD hAD dn h'⟩⟩
def unL (ρ:FSt)(i:Nat):Option (List D):=match ρ[i]? with
 | some (some (.fl ds))=>some ds
 | _=>none
def unD (ρ:FSt)(i:Nat):Option (List Key×List D):=match ρ[i]? with
 | some (some (.fd ks ds))=>some (ks,ds)
 | _=>none
theorem Gu (h:unL ρ i=some ds):ρ[i]?=some (some (.fl ds)):=by
 unfold unL at h
 split at h
 ·rename_i os e
  cases h; exact e
 ·cases h
theorem Gv (h:unD ρ i=some (ks,ds)):ρ[i]?=some (some (.fd ks ds)):=by
 unfold unD at h
 split at h
 ·rename_i ks' os e
  cases h; exact e
 ·cases h
theorem Rel.mutL (R:Rel K F Z H σ ρ A)(h:unL ρ i=some ds):∃ a xs,σ[i]?=some (some (.ref a))/\H a=some (.lst xs)/\Dens K F xs ds /\
  ∀ xs' ds',Dens K F xs' ds'->∃ A',Rel K F Z (upd H a (.lst xs')) σ (ρ.set i (some (.fl ds'))) A':=by
 have e:=Gu h
 obtain ⟨v,B,A',h1,h2,R',f',pm⟩:=R.takeI e
 cases h2 with
 | @fl a xs os hl dn =>
  have fa:=f'.fr a (by simp)
  refine ⟨a,xs,h1,hl,dn,fun xs' ds' dn'=>?_⟩
  have R2:=R'.write (o:=.lst xs') fa.2.2 fa.1 fa.2.1
  obtain ⟨A3,R3,_⟩:=R2.putI (j7 e) h1 (.fl ao dn') f'
  rw [List.set_set] at R3
  exact ⟨A3,R3⟩
theorem Rel.mutD (R:Rel K F Z H σ ρ A)(h:unD ρ i=some (ks,ds)):∃ a ys,σ[i]?=some (some (.ref a))/\H a=some (.dK ys)/\ys.map (·.1)=ks/\Dens K F (ys.map (·.2)) ds /\
  ∀ ys' ks' ds',ys'.map (·.1)=ks'->Dens K F (ys'.map (·.2)) ds'->∃ A',Rel K F Z (upd H a (.dK ys')) σ (ρ.set i (some (.fd ks' ds'))) A':=by
 have e:=Gv h
 obtain ⟨v,B,A',h1,h2,R',f',pm⟩:=R.takeI e
 cases h2 with
 | @fd a ys ks os hl hk dn =>
  have fa:=f'.fr a (by simp)
  refine ⟨a,ys,h1,hl,hk,dn,fun ys' ks' ds' hk' dn'=>?_⟩
  have R2:=R'.write (o:=.dK ys') fa.2.2 fa.1 fa.2.1
  obtain ⟨A3,R3,_⟩:=R2.putI (j7 e) h1 (.fd ao hk' dn') f'
  rw [List.set_set] at R3
  exact ⟨A3,R3⟩
def EO (i:Nat)(fe:FE):FE:=fun ρ Q=>(unL ρ i).isSome=true/\fe ρ fun r ρ1=>match fzR r ρ1 with
 | some (d,ρ2)=>(match unL ρ2 i with
  | some ds=>ds.length < sizeLine/\Q (.ov (.fz .non)) (ρ2.set i (some (.fl (ds++[d]))))
  | none=>False)
 | none=>False
theorem Gw (hj:μ[j]?=some i)(he:EF K μ te fe):EF K μ (tBM K "list" jZ (nE j) (dI te la)) (EO i fe):=⟨by
 intro F Z H τ σ ρ A Q P vw R h q
 obtain ⟨h0,h⟩:=h
 obtain ⟨ds0,e0⟩:=Option.isSome_iff_exists.mp h0
 obtain ⟨a,xs,h1,h2,h3,_⟩:=R.mutL e0
 refine ⟨.ref a,(vw j i hj).1.trans h1,.inl ⟨rfl,xs,SqL.of h2⟩,?_⟩
 refine he.h vw R h fun r ρ1 v F1 H1 A1 B1 p1 s1 R1 v1 f1=>?_
 split at p1
 ·rename_i d ρ2 e2
  obtain ⟨F2,A2,s2,R2,dy,_,_⟩:=R1.frz v1 f1 e2
  split at p1
  ·rename_i ds e3
   obtain ⟨a',xs',h1',h2',h3',mt⟩:=R2.mutL e3
   rw [h1] at h1'
   cases h1'
   obtain ⟨A3,R3⟩:=mt (xs'++[v]) (ds++[d]) (h3'.snoc dy)
   exact ⟨a,xs',v,rfl,rfl,h2',by rw [h3'.length]; exact p1.1,q _ _ _ _ _ _ _ p1.2 (s1.trans s2) R3 (.fz .non) Fresh.nil⟩
  ·exact p1.elim
 ·exact p1.elim⟩
def iC (i:Nat)(fe fk:FE):FS:=fun E ρ=>fe ρ fun r ρ1=>match fzR r ρ1 with
 | some (d,ρ2)=>(unL ρ2 i).isSome=true/\fk ρ2 fun s ρ3=>on1 ρ3 s fun dk=>(match dk,unL ρ3 i with
  | .int k,some ds=>(match ixN ds.length k with
   | some x=>E.nx (ρ3.set i (some (.fl (ds.set x d))))
   | none=>False)
  | _,_=>False)
 | none=>False
def v5:D->Option Key
 | .int i=>some (.inl i)
 | .str z=>some (.inr z)
 | _=>none
def AC (ks:List Key)(ds:List D)(k:Key)(d:D):List Key×List D :=
 if (ks.any fun x=>decide (x=k))=true then (ks,(ks.zip ds).map fun kd=>if kd.1=k then d else kd.2) else (ks++[k],ds++[d])
def Gx (i:Nat)(fe fk:FE):FS:=fun E ρ=>fe ρ fun r ρ1=>match fzR r ρ1 with
 | some (d,ρ2)=>(unD ρ2 i).isSome=true/\fk ρ2 fun s ρ3=>on1 ρ3 s fun dk=>(match v5 dk,unD ρ3 i with
  | some k,some (ks,ds)=>ks.length < sizeLine/\E.nx (ρ3.set i (some (.fd (AC ks ds k d).1 (AC ks ds k d).2)))
  | _,_=>False)
 | none=>False
theorem m5 (h:Acc K F H v d)(e:v5 d=some k):v=kV k:=by
 cases d with
 | int i=>simp only [v5,Option.some.injEq] at e; subst e; exact h.int_eq
 | str z=>simp only [v5,Option.some.injEq] at e; subst e; exact h.str_eq
 | _=>simp [v5] at e
theorem w8 (hk:ys.map (·.1)=ks)(dn:Dens K F (ys.map (·.2)) ds)(dv:Den K F v d):(kT ys k v).map (·.1)=(AC ks ds k d).1/\Dens K F ((kT ys k v).map (·.2)) (AC ks ds k d).2:=by
 have hl:ys.length=ds.length:=by have:=dn.length; simpa using this
 unfold AC kT
 have hq:(ks.any fun x=>decide (x=k))=(ys.any fun kv=>decide (kv.1=k)):=by rw [← hk,List.any_map]; rfl
 by_cases hm:(ks.any fun x=>decide (x=k))=true
 ·have hany:(ys.any fun kv=>decide (kv.1=k))=true:=hq ▸ hm
  rw [if_pos hany,if_pos hm]
  constructor
  ·rw [aaZ,← hk]
   refine abl fun kv _=>?_
   show (if kv.1=k then (kv.1,v) else kv).1=kv.1
   split <;> rfl
  ·subst hk
   clear hm hany hl hq
   induction ys generalizing ds with
   | nil=>cases dn; exact .nil
   | cons y ys ih =>
    cases dn with
    | cons d1 d2 =>
     refine .cons ?_ (ih d2)
     show Den K F (if y.1=k then (y.1,v) else y).2 (if y.1=k then d else _)
     split
     ·exact dv
     ·exact d1
 ·have hany:¬ (ys.any fun kv=>decide (kv.1=k))=true:=hq ▸ hm
  rw [if_neg hany,if_neg hm]
  refine ⟨by rw [aae,hk]; rfl,?_⟩
  rw [aae]
  exact dn.snoc dv
theorem w9 {ti:TE}(hin:i < n)(he:EF K (List.range n) te fe)(hk:EF K (List.range n) ti fk):SF K n m (pO te (Iz (nE i) ti BC)) (iC i fe fk):=⟨by
 intro F Z H σ0 σ ρ A D fD R p E h
 refine he.h (View.id p.1) R h fun r ρ1 v F1 H1 A1 B1 p1 s1 R1 v1 f1=>?_
 split at p1
 ·rename_i d ρ2 e2
  obtain ⟨F2,A2,s2,R2,dy,_,_⟩:=R1.frz v1 f1 e2
  obtain ⟨h0,p1⟩:=p1
  obtain ⟨ds0,e0⟩:=Option.isSome_iff_exists.mp h0
  obtain ⟨a,xs,h1,h2,h3,_⟩:=R2.mutL e0
  refine ⟨.ref a,h1,?_⟩
  refine hk.h (View.id p.1) R2 p1 fun s ρ3 w F3 H3 A3 B3 p3 s3 R3 v3 f3=>?_
  obtain ⟨dk,ek,p4⟩:=bS p3
  split at p4
  ·rename_i k ds e3
   split at p4
   ·rename_i x ex
    obtain ⟨a',xs',h1',h2',h3',mt⟩:=R3.mutL e3
    rw [h1] at h1'
    cases h1'
    obtain ⟨A4,R4⟩:=mt (xs'.set x v) (ds.set x d) (h3'.set (dy.mono s3) x)
    exact ⟨a,xs',k,x,rfl,(R3.acc v3 ek).int_eq,h2',by rw [h3'.length]; exact ex,E.nx _ _ _ _ _ ((s1.trans s2).trans s3) R4 p p4⟩
   ·exact p4.elim
  ·exact p4.elim
 ·exact p1.elim⟩
theorem CL (he:EF K (List.range n) tv fe)(hk:EF K (List.range n) ty fk):SF K n m (BH (nE i) ty tv) (Gx i fe fk):=⟨by
 intro F Z H σ0 σ ρ A D fD R p E h
 refine he.h (View.id p.1) R h fun r ρ1 v F1 H1 A1 B1 p1 s1 R1 v1 f1=>?_
 generalize e2:fzR r ρ1=o at p1
 obtain _ | ⟨d,ρ2⟩:=o
 ·exact False.elim p1
 ·obtain ⟨F2,A2,s2,R2,dy,_,_⟩:=R1.frz v1 f1 e2
  obtain ⟨h0,p1⟩:=p1
  obtain ⟨⟨ks0,ds0⟩,e0⟩:=Option.isSome_iff_exists.mp h0
  obtain ⟨a,xs,h1,h2,h3,_⟩:=R2.mutD e0
  refine ⟨.ref a,h1,?_⟩
  refine hk.h (View.id p.1) R2 p1 fun s ρ3 w F3 H3 A3 B3 p3 s3 R3 v3 f3=>?_
  obtain ⟨dk,ek,p4⟩:=bS p3
  generalize e4:v5 dk=o at p4
  generalize e3:unD ρ3 i=o' at p4
  obtain _ | k:=o
  ·exact False.elim p4
  obtain _ | ⟨ks,ds⟩:=o'
  ·exact False.elim p4
  ·obtain ⟨a',ys,h1',h2',hk',h3',mt⟩:=R3.mutD e3
   rw [h1] at h1'
   cases h1'
   obtain ⟨q1,q2⟩:=w8 (k:=k) hk' h3' (dy.mono s3)
   obtain ⟨A4,R4⟩:=mt (kT ys k v) _ _ q1 q2
   have hl:ys.length=ks.length:=by rw [← hk',List.length_map]
   exact ⟨a,_,rfl,.inl ⟨ys,k,h2',m5 (R3.acc v3 ek) e4,by rw [hl]; exact p4.1,rfl⟩,E.nx _ _ _ _ _ ((s1.trans s2).trans s3) R4 p p4.2⟩⟩
end
def outs (m:List Nat):Nat->List OV->FSt->Option (List OV)
 | _,[],_=>some []
 | i,o::os,ρ=>if m.contains i=true then (match ρ[i]? with
   | some (some o')=>(outs m (i+1) os (ρ.set i none)).map (o'::·)
   | _=>none) else (outs m (i+1) os ρ).map (o::·)
def v6:OV->Bool
 | .fz _=>true
 | _=>false
def fin (m:List Nat)(os:List OV)(P:OV->List OV->Prop)(o:OV)(ρ:FSt):Prop:=match outs m 0 os ρ with
 | some os'=>P o os'
 | none=>False
def aw (n:Nat)(os:List OV):FSt:=os.map some++List.replicate (n - os.length) none
section
variable {K:Frag}
theorem Ows.length {F H:Hp}{vs:List V}{os:List OV}{A:List Addr}(h:Ows K F H vs os A):vs.length=os.length:=by
 induction h with
 | nil=>rfl
 | cons _ t ih=>exact congrArg (·+1) ih
theorem Slots.nones (k:Nat):Slots K F H (List.replicate k none) (List.replicate k none) []:=by
 induction k with
 | zero=>exact .nil
 | succ k ih=>exact .skip ih
theorem Slots.of_ows (k:Nat){os:List OV}(h:Ows K F H vs os A):Slots K F H (vs.map some++List.replicate k none) (os.map some++List.replicate k none) A:=by
 induction h with
 | nil=>exact Slots.nones k
 | cons h t ih=>exact .has h ih
theorem Rel.outs :∀ {vs:List V} {os:List OV} {C:List Addr} {i:Nat} {ρ:FSt} {A:List Addr} {os':List OV},Ows K F H vs os C->Same F F'->(∀ j o,os[j]?=some o->i+j ∉ m->v6 o=true) ->
  (∀ j v,vs[j]?=some v->i+j ∈ m->σ[i+j]?=some (some v))->Rel K F' Z H' σ ρ A->L2.outs m i os ρ=some os'->∃ C' A':List Addr,Ows K F' H' vs os' C'/\Rel K F' Z H' σ ρ A/\C'.Nodup/\(∀ a,a ∈ C'->a ∈ A/\a ∉ A')/\(∀ a,a ∈ A'->a ∈ A):=by
 intro vs
 induction vs with
 | nil =>
  intro os C i ρ A os' h s hz hp R e
  cases h
  simp only [L2.outs,Option.some.injEq] at e
  subst e
  exact ⟨[],A,.nil,R,aaP,fun _ z=>(nomatch z),fun _ z=>z⟩
 | cons v vs ih =>
  intro os C i ρ A os' h s hz hp R e
  cases h with
  | @cons _ o _ os C1 C2 h t =>
   simp only [L2.outs] at e
   have hz':∀ j o,os[j]?=some o->i+1+j ∉ m->v6 o=true:=fun j o q n=>hz (j+1) o (by exists q) (by rw [show i+(j+1)=i+1+j by nofun]; exact n)
   have hp':∀ j v,vs[j]?=some v->i+1+j ∈ m->σ[i+1+j]?=some (some v):=fun j v q n=>by
    have:=hp (j+1) v (by exists q) (by rw [show i+(j+1)=i+1+j by nofun]; exact n)
    rw [show i+1+j=i+(j+1) by nofun]; exact this
   split at e
   ·rename_i hm
    have hm:i ∈ m:=(by exists hm)
    split at e
    ·rename_i o' ho
     rw [Option.map_eq_some_iff] at e
     obtain ⟨os2,e2,rfl⟩:=e
     obtain ⟨v',B',A',h1,h2,R',f',pm⟩:=R.takeI ho
     have hv:=hp 0 v rfl (by exists hm)
     rw [Nat.add_zero] at hv
     have:v'=v:=by rw [hv] at h1; simpa using h1.symm
     subst this
     obtain ⟨C',A2,w1,_,n1,m1,m2⟩:=ih t s hz' hp' R' e2
     refine ⟨B'++C',A2,.cons h2 w1,R,List.nodup_append.mpr ⟨f'.nd,n1,fun a ha b hb z=>(f'.fr a ha).2.2 (by rw [z]; exact (m1 b hb).1)⟩,fun a ha=>?_,fun a ha=>pm.mem_iff.mpr (List.mem_append.mpr (.inr (m2 a ha)))⟩
     rcases List.mem_append.mp ha with z | z
     ·exact ⟨pm.mem_iff.mpr (List.mem_append.mpr (.inl z)),fun y=>(f'.fr a z).2.2 (m2 a y)⟩
     ·exact ⟨pm.mem_iff.mpr (List.mem_append.mpr (.inr (m1 a z).1)),(m1 a z).2⟩
    ·cases e
   ·rename_i hm
    rw [Option.map_eq_some_iff] at e
    obtain ⟨os2,e2,rfl⟩:=e
    have hm:i ∉ m:=(by exists hm)
    have hf:=hz 0 o rfl (by exists hm)
    obtain ⟨C',A2,w1,_,n1,m1,m2⟩:=ih t s hz' hp' R e2
    cases h with
    | fz dn=>exact ⟨C',A2,.cons (.fz (dn.mono s)) w1,R,n1,m1,m2⟩
    | _=>simp [v6] at hf
theorem Fun.okF {P:Program}{mg:Str->Option Value}{base:Heap}{x qual:Str}{st:Stmt}{f:Addr}{fd:FuncData}{N ps:List Str}{k:Nat}{fs:FS}(F:Fun K x qual st f fd)(S:FnScope N ps (aj st))
  (hN:ps.length<=N.length) (hlen:∀ os P,c os P->os.length=ps.length/\∀ j o,os[j]?=some o->j ∉ m->v6 o=true) (hm:∀ i ∈ m,i < ps.length)
  (hbody:∀ (cdv:Value) (A:Around) (outer:List Env) (s:Shared) (H:Hp) (E:XK),Room k (A.deeper (envOfC qual (aj st) s.heap.objs.size f cdv)) ->
   ∃ t,BSs (dL CX0 P w K mg base N qual (aj st) f cdv A outer s H E).nox (bT st) t/\SF K N.length m t fs)
  (hc:∀ os P,c os P->fs { nx:=fin m os P (.fz .non),rt:=fin m os P } (aw N.length os)):FnOk P w K mg base CX0 (k+1) f fd ps (spM K c):=by
 refine F.okB S (fun vs H Q E h=>?_) (fun cdv A outer s H vs Q E hr h=>?_)
 ·obtain ⟨F1,Z,os,C,Pq,_,_,_,ho,_,_,hcc,_⟩:=h
  rw [ho.length]; exact (hlen os Pq hcc).1
 ·obtain ⟨F1,Z,os,C,Pq,sf,sz,dj,ho,nd,fr,hcc,q⟩:=h
  obtain ⟨t,ht,hs⟩:=hbody cdv A outer s H E hr
  refine ⟨t,ht,?_⟩
  have hl:=(hlen os Pq hcc).1
  have hvl:=ho.length
  have R:Rel K F1 Z H (dh N vs) (aw N.length os) C:=by
   refine ⟨?_,nd,fr,sf,sz,dj⟩
   unfold dh aw
   rw [hvl]
   exact Slots.of_ows _ ho
  have hn:(dh N vs).length=N.length:=by unfold dh; simp; nofun
  have fin_ok:∀ F' H' σ' ρ' A' v o B,Same F1 F'->Rel K F' Z H' σ' ρ' A'->Pin N.length m (dh N vs) σ'->Ow K F' H' v o B->Fresh F' Z A' B->fin m os Pq o ρ'->Q v H':=by
   intro F' H' σ' ρ' A' v o B s' R' p' ow f' h'
   unfold fin at h'
   split at h'
   ·rename_i os' e
    obtain ⟨C',A2,w1,_,n1,m1,m2⟩:=Rel.outs (i:=0) ho s' (fun j o q n=>(hlen os Pq hcc).2 j o q (by exists n)) (fun j v q n=>by
     have hj:j < vs.length:=(List.getElem?_eq_some_iff.mp q).1
     rw [abu] at n ⊢
     rw [p'.2 j n]
     unfold dh
     rw [List.getElem?_append_left (by exists hj),List.getElem?_map,q]; rfl) R' e
    refine q o os' v F' H' C' B h' s' R'.fh R'.zh R'.dj w1 ow (List.nodup_append.mpr ⟨n1,f'.nd,fun a ha b hb z=>(f'.fr b hb).2.2 (by rw [← z]; exact (m1 a ha).1)⟩) fun a ha=>?_
    rcases List.mem_append.mp ha with z | z
    ·exact R'.fr a (m1 a z).1
    ·exact ⟨(f'.fr a z).1,(f'.fr a z).2.1⟩
   ·exact h'.elim
  exact hs.h (fD:={ nx:=fin m os Pq (.fz .non),rt:=fin m os Pq }) R (Pin.refl hn) ⟨fun F' H' σ' ρ' A' s' R' p' h'=>fin_ok F' H' σ' ρ' A' .non (.fz .non) [] s' R' p' (.fz .non) Fresh.nil h',
   fin_ok,fun _ _ _ _ _ _ _ _ z=>z.elim,fun _ _ _ _ _ _ _ _ z=>z.elim⟩ (hc os Pq hcc)
end
def J3:R2:=fun x y H Q=>∃ a v,x=.ref a/\DGet H a y (some v)/\Q v H
theorem CM (hu:X.A.units+1 < cLine):IxR X J3:=by
 intro value slice pins s σ H x y v u Q I rx ry h hs
 obtain ⟨a,z,rfl,g,q⟩:=h
 cases rx
 exact tail_any (mS I g) PySem.F.slot_dict_getitem.lookup (rM hu I g ry fun w' s3 I3 rw'=>⟨z,H,I3,rw',q⟩) hs
def Ka (K:Frag):R2:=fun x y H Q=>rIx K x y H Q∨J3 x y H Q
def Kb:R2:=fun x y H Q=>∃ a o,y=.ref a/\DGet H a x o/\Q (.bl o.isSome) H
def tj:R2:=fun x y H Q=>∃ a o,y=.ref a/\DGet H a x o/\Q (.bl (!o.isSome)) H
theorem Gy (hu:X.A.units+1 < cLine):OpR X (compareOp .In) Kb:=by
 intro pins s σ H x y v u Q I rx ry h
 obtain ⟨a,o,rfl,g,q⟩:=h
 cases ry
 exact d_in hu I g rx fun s3 I3=>⟨.bl o.isSome,H,I3,rfl,q⟩
theorem tm (hu:X.A.units+1 < cLine):OpR X (compareOp .NotIn) tj:=by
 intro pins s σ H x y v u Q I rx ry h
 obtain ⟨a,o,rfl,g,q⟩:=h
 cases ry
 exact BF hu I g rx fun s3 I3=>⟨.bl (!o.isSome),H,I3,rfl,q⟩
def Jh (K:Frag):R2:=fun x y H Q=>JZ K x y H Q∨Kb x y H Q
def tq (K:Frag):R2:=fun x y H Q=>r8 K x y H Q∨tj x y H Q
theorem CN (K:Frag)(hu:X.A.units+64 < cLine)(h:X.K=K):BOp X (compareOp .In) (Jh K):=by subst h; exact ⟨OpR.or FQ (Gy (by nofun))⟩
theorem qu (K:Frag)(hu:X.A.units+64 < cLine)(h:X.K=K):BOp X (compareOp .NotIn) (tq K):=by subst h; exact ⟨OpR.or r9 (tm (by nofun))⟩
theorem Gz {a b:Expr}(K:Frag)(hu:X.A.units+64 < cLine)(ha:BE X a ta)(hb:BE X b tb)(hs:∀ o i,subscripted b false o i=operate [o,i] (getItem o i))(hK:X.K=K):BE X (.Subscript a b pos) (tOp (Ka K) ta tb):=by
 subst hK; exact ⟨IM (IxR.or Fv (CM (by nofun))) ha.h hb.h hs⟩
def GA (pI:Int->Int->Bool)(pS:Str->Str->Bool):R2:=fun x y H Q=>(∃ i j,x=.int i/\y=.int j/\Q (.bl (pI i j)) H)∨∃ i j,x=.str i/\y=.str j/\Q (.bl (pS i j)) H
def aQ (x y:Str):Bool:=decide (x.cps.toList < y.cps.toList)
theorem GB:OpR X (compareOp .Lt) (fun x y H Q=>∃ i j,x=.str i/\y=.str j/\Q (.bl (aQ i j)) H):=by
 intro pins s σ H x y v u Q I rx ry h
 obtain ⟨i,j,rfl,rfl,q⟩:=h
 obtain ⟨t,rfl⟩:=rx
 obtain ⟨t',rfl⟩:=ry
 exact PyProof.Rows.lt_str ⟨.bl _,H,I,rfl,q⟩
theorem GC:OpR X (compareOp .LtE) (fun x y H Q=>∃ i j,x=.str i/\y=.str j/\Q (.bl (!aQ j i)) H):=by
 intro pins s σ H x y v u Q I rx ry h
 obtain ⟨i,j,rfl,rfl,q⟩:=h
 obtain ⟨t,rfl⟩:=rx
 obtain ⟨t',rfl⟩:=ry
 refine PySem.P.le_str ⟨.bl _,H,I,rfl,?_⟩
 have e:decide (¬ (j.cps.toList < i.cps.toList))=!aQ j i:=by unfold aQ; rw [decide_not]
 first | exact q | (rw [← e] at q; exact q) | (simpa [aQ] using q)
theorem GD:OpR X (compareOp .Gt) (fun x y H Q=>∃ i j,x=.str i/\y=.str j/\Q (.bl (aQ j i)) H):=by
 intro pins s σ H x y v u Q I rx ry h
 obtain ⟨i,j,rfl,rfl,q⟩:=h
 obtain ⟨t,rfl⟩:=rx
 obtain ⟨t',rfl⟩:=ry
 exact PySem.P.gt_str ⟨.bl _,H,I,rfl,q⟩
theorem GE:OpR X (compareOp .GtE) (fun x y H Q=>∃ i j,x=.str i/\y=.str j/\Q (.bl (!aQ i j)) H):=by
 intro pins s σ H x y v u Q I rx ry h
 obtain ⟨i,j,rfl,rfl,q⟩:=h
 obtain ⟨t,rfl⟩:=rx
 obtain ⟨t',rfl⟩:=ry
 refine PySem.P.ge_str ⟨.bl _,H,I,rfl,?_⟩
 have e:decide (¬ (i.cps.toList < j.cps.toList))=!aQ i j:=by unfold aQ; rw [decide_not]
 first | exact q | (rw [← e] at q; exact q) | (simpa [aQ] using q)
theorem CO:BOp X (compareOp .Lt) (GA (fun i j=>decide (i < j)) aQ):=⟨OpR.or IG GB⟩
theorem CP:BOp X (compareOp .LtE) (GA (fun i j=>decide (i<=j)) fun i j=>!aQ j i):=⟨OpR.or IH GC⟩
theorem CQ:BOp X (compareOp .Gt) (GA (fun i j=>decide (j < i)) fun i j=>aQ j i):=⟨OpR.or II GD⟩
theorem CS:BOp X (compareOp .GtE) (GA (fun i j=>decide (j<=i)) fun i j=>!aQ i j):=⟨OpR.or IJ GE⟩
def tyD:D->String
 | .non => "NoneType"
 | .bl _ => "bool"
 | .int _ => "int"
 | .str _ => "str"
 | .lst _ => "list"
 | .tup _ => "tuple"
 | .dct _ _ => "dict"
 | .ty _ => "type"
 | .opq _ _ => "dict"
def AD (T:String):Bool:=T == "str" || T == "int" || T == "bool" || T == "list" || T == "tuple" || T == "dict" || T == "NoneType"
theorem tt {T:String}(h:AD T=true):okT T:=by
 simp only [AD,Bool.or_eq_true,beq_iff_eq] at h
 unfold okT
 rcases h with (((((h | h) | h) | h) | h) | h) | h <;> simp [h]
def Ji (K:Frag):List V->Hp->VK->Prop:=fun xs H Q=>∃ x d T,xs=[x,.ty T]/\Den K H x d/\AD (tyD d)=true/\AD T=true/\Q (.bl (isT (tyD d) T)) H
theorem xc:CallR X (.builtin "isinstance") (Ji X.K):=by
 intro pins s σ H xs us Q I r h
 obtain ⟨x,d,T,rfl,dn,o1,o2,q⟩:=h
 obtain ⟨u,u',rfl,ru,ru'⟩:=rB r
 cases (show u'=Value.type T from ru')
 have e:=FJ (K:=X.K) (tt o1) (tt o2)
 have fin:∀ tk,EP X pins σ Q (.bool (isT (tyD d) T)) { s with toks:=tk }:=fun tk=>⟨.bl _,H,I.tok tk,rfl,q⟩
 cases dn with
 | non=>exact fK I ru .non e fin
 | bl b=>exact fK I ru (.bl b) e fin
 | int i=>exact fK I ru (.int i) e fin
 | str z=>exact fK I ru (.str z) e fin
 | ty T'=>simp [tyD,AD] at o1
 | @lst a ys ds hs t =>
  cases (show u=Value.ref a from ru)
  obtain ⟨its,_,⟨o,n,h1,h2,_⟩,_⟩:=I.list hs
  exact aax PySem.W.kitx_list I.kIn ⟨_,h1,h2⟩ e (fun z=>nomatch z) fin
 | @tup a ys ds hs t =>
  cases (show u=Value.ref a from ru)
  obtain ⟨its,_,⟨o,h1,h2,_⟩,_⟩:=I.tuple hs
  exact aax PySem.W.kitx_tuple I.kIn ⟨o,h1,h2⟩ e (fun z=>nomatch z) fin
 | @dct a ys ks ds hs hk t =>
  cases (show u=Value.ref a from ru)
  obtain ⟨_,_,vs,_,p⟩:=(show ObjOk X.prog X.w H s.heap a (.dK ys) from hs.ok I.hok)
  obtain ⟨o,es,ep,h1,h2,_⟩:=p
  exact aax PySem.W.kitx_dict I.kIn ⟨o,h1,h2.1⟩ e (fun z=>nomatch z) fin
 | @opq a ys n hs hn hpl =>
  cases (show u=Value.ref a from ru)
  obtain ⟨_,_,vs,_,p⟩:=(show ObjOk X.prog X.w H s.heap a (.dK ys) from hs.ok I.hok)
  obtain ⟨o,es,ep,h1,h2,_⟩:=p
  exact aax PySem.W.kitx_dict I.kIn ⟨o,h1,h2.1⟩ e (fun z=>nomatch z) fin
theorem oh (K:Frag)(h:X.K=K):BCall X (.builtin "isinstance") (Ji K):=by subst h; exact ⟨xc⟩
def GG (K:Frag):R2:=fun x y H Q=>∃ l b xs zs,x=.ref l/\y=.ref b/\SqL K H l xs/\SqL K H b zs/\xs.length+zs.length<=sizeLine/\∀ p,H p=none->Q (.ref p) (upd H p (.lst (xs++zs)))
theorem CT:OpR X (binaryOp .Add) (GG X.K):=by
 intro pins s σ H x y v u Q I rx ry h
 obtain ⟨l,b,xs,zs,rfl,rfl,hH,hB,hz,q⟩:=h
 cases rx
 cases ry
 obtain ⟨its,r,⟨⟨cls,dd,data,sl⟩,n,ho,hc,hdd,hd⟩,_⟩:=I.list hH
 obtain ⟨its2,r2,⟨⟨cls2,dd2,data2,sl2⟩,n2,ho2,hc2,hdd2,hd2⟩,_⟩:=I.list hB
 dsimp only at hc hd hc2 hd2 hdd hdd2
 subst hc hd hc2 hd2 hdd hdd2
 have hl:=r.length
 have hl2:=r2.length
 refine concat_meets ⟨_,ho,rfl⟩ ⟨_,ho2,rfl⟩ noFill_list_add seq_list_add PySem.F.slot_list_add PySem.F.entry_list_add (PySem.F.args_list_add_2 _ _) (list_addW l b its.toArray its2.toArray n n2 none none sl sl2 (by simp; nofun)) ⟨ho,ho2,?_⟩
 have ea:its.toArray++its2.toArray=(its++its2).toArray:=by simp
 rw [ea]
 exact ⟨.ref _,_,I.lnew (t':=s.toks) (r.append r2) (by rw [List.length_append]; nofun),rfl,q _ I.fresh⟩
def CU (K:Frag):R2:=fun x y H Q=>(∃ i j,x=.int i/\y=.int j/\Q (.int (i+j)) H)∨(∃ i j,x=.str i/\y=.str j/\i.length+j.length<=sizeLine/\Q (.str (i++j)) H)∨GG K x y H Q∨Fs K x y H Q
theorem oi (K:Frag)(h:X.K=K):BOp X (binaryOp .Add) (CU K):=by subst h; exact ⟨Fd.or (pT.or (CT.or By))⟩
theorem tw:CallR X (.builtin "ord") (fun xs H Q=>∃ c:Nat,xs=[.str ⟨#[c]⟩]/\Q (.int c) H):=by
 intro pins s σ H xs us Q I r h
 obtain ⟨c,rfl,q⟩:=h
 obtain ⟨u,rfl,ru⟩:=dH r
 obtain ⟨t,rfl⟩:=ru
 exact PySem.P.ord_of_char ⟨.int c,H,I.tok _,⟨_,rfl⟩,q⟩
def Kc:List V->Hp->VK->Prop:=fun xs H Q=>∃ c:Nat,xs=[.str ⟨#[c]⟩]/\Q (.int c) H
theorem GH:BCall X (.builtin "ord") Kc:=⟨tw⟩
def tGU (K:Frag)(xs:List V):TE:=fun _ H Q=>∀ a,(∀ H',SqT K H' a xs)->Q (.ref a) H
theorem CV {K:Frag} {x:Str}   (h:Ii K X.mg x xs) (hg:X.env.kindOf x=some .globalImplicit) (hd:autoParam ((x == ("__debug__" : Str))=false) L2.aD._auto_1):BE X (.Name x pos) (tGU K xs):=by
 obtain ⟨a,e,hs⟩:=h
 exact ⟨fun pins s σ H Q I q=>Al (v:=.ref a) ⟨_,e,rfl⟩ hg hd pins s σ H Q I (q a hs)⟩
section
variable {K:Frag} 
theorem ay (e:Same F H)(n:Av K F H P Q)(h:Den K F v d)(p:P (.fz d)):Q v H:=n _ v F H [] p (Pure.refl e) (.fz h) New.nil
theorem cm (e:Same F H)(n:Av K F H P Q)(h:Dens K F xs ds)(p:P (.fl ds)):∀ q,H q=none->Q (.ref q) (upd H q (.lst xs)):=fun q hq =>
 n _ (.ref q) F _ [q] p (Pure.new e hq) (.fl ao h) (New.one hq (e.free hq))
theorem gY (e:Same F H)(n:Av K F H P Q)(h:Dens K F xs ds)(p:P (.fz (.tup ds))):∀ q,H q=none->Q (.ref q) (upd H q (.tup xs)):=fun q hq =>
 n _ (.ref q) (upd F q (.tup xs)) _ [] p (Pure.frz e hq) (.fz (.tup (SqT.of ao) (h.mono (bn (e.free hq))))) New.nil
theorem Jj (hd:∀ F,Dens K F xs ds):EF K μ (tGU K xs) (fC (.tup ds)):=⟨fun {F Z H τ σ ρ A Q P} vw R h q a ha=>q _ _ _ F H A [] h (Same.refl _) R (.fz (.tup (ha F) (hd F))) Fresh.nil⟩
def aI0 (g:Int->Int->D):D->D->(OV->Prop)->Prop
 | .int i,.int j,P=>P (.fz (g i j))
 | _,_,_=>False
def aIC (C:Int->Int->Prop)(g:Int->Int->D):D->D->(OV->Prop)->Prop
 | .int i,.int j,P=>C i j/\P (.fz (g i j))
 | _,_,_=>False
theorem GI (h:∀ F i j,Den K F (gV i j) (gD i j)):OpF K (rI0 gV) (aI0 gD):=⟨by
 intro F H x y d e Q P s hx hy f n
 cases d with
 | int i =>
  cases e with
  | int j =>
   exact ⟨_,_,hx.int_eq,hy.int_eq,ay s n (h F _ _) f⟩
  | _=>exact False.elim f
 | _=>exact False.elim f⟩
theorem lO {C:Int->Int->Prop}(h:∀ F i j,Den K F (gV i j) (gD i j)):OpF K (rI C gV) (aIC C gD):=⟨by
 intro F H x y d e Q P s hx hy f n
 cases d with
 | int i =>
  cases e with
  | int j =>
   exact ⟨_,_,hx.int_eq,hy.int_eq,f.1,ay s n (h F _ _) f.2⟩
  | _=>exact False.elim f
 | _=>exact False.elim f⟩
theorem CW:OpF K (rI0 fun i j=>.int (i - j)) (aI0 fun i j=>.int (i - j)):=GI fun _ _ _=>.int _
theorem CY:OpF K (rI CMul fun i j=>.int (i * j)) (aIC CMul fun i j=>.int (i * j)):=lO fun _ _ _=>.int _
theorem xf:OpF K (rI rm fun i j=>.int (i / j)) (aIC rm fun i j=>.int (i / j)):=lO fun _ _ _=>.int _
theorem CZ:OpF K (rI (fun _ j=>0 < j) fun i j=>.int (i % j)) (aIC (fun _ j=>0 < j) fun i j=>.int (i % j)):=lO fun _ _ _=>.int _
theorem C0:OpF K (rI Fc fun i j=>.int (i ^ j.toNat)) (aIC Fc fun i j=>.int (i ^ j.toNat)):=lO fun _ _ _=>.int _
theorem xg:OpF K (rI pY fun i j=>.int (i ^ j.toNat)) (aIC pY fun i j=>.int (i ^ j.toNat)):=lO fun _ _ _=>.int _
def fI (pI:Int->Int->Bool)(pS:Str->Str->Bool):D->D->(OV->Prop)->Prop
 | .int i,.int j,P=>P (.fz (.bl (pI i j)))
 | .str i,.str j,P=>P (.fz (.bl (pS i j)))
 | _,_,_=>False
theorem C4 {pI:Int->Int->Bool}{pS:Str->Str->Bool}:OpF K (GA pI pS) (fI pI pS):=⟨by
 intro F H x y d e Q P s hx hy f n
 cases d with
 | int i =>
  cases e with
  | int j =>
   exact .inl ⟨_,_,hx.int_eq,hy.int_eq,ay s n (.bl _) f⟩
  | _=>exact False.elim f
 | str i =>
  cases e with
  | str j =>
   exact .inr ⟨_,_,hx.str_eq,hy.str_eq,ay s n (.bl _) f⟩
  | _=>exact False.elim f
 | _=>exact False.elim f⟩
def ja:D->D->(OV->Prop)->Prop
 | .int i,.int j,P=>P (.fz (.int (i+j)))
 | .str i,.str j,P=>i.length+j.length<=sizeLine/\P (.fz (.str (i++j)))
 | .lst xs,.lst ys,P=>xs.length+ys.length<=sizeLine/\P (.fl (xs++ys))
 | .tup xs,.tup ys,P=>xs≠[]/\xs.length+ys.length<=sizeLine/\P (.fz (.tup (xs++ys)))
 | _,_,_=>False
theorem iD:OpF K (CU K) ja:=⟨by
 intro F H x y d e Q P s hx hy f n
 cases d with
 | int i =>
  cases e with
  | int j =>
   exact .inl ⟨_,_,hx.int_eq,hy.int_eq,ay s n (.int _) f⟩
  | _=>exact False.elim f
 | str i =>
  cases e with
  | str j =>
   exact .inr (.inl ⟨_,_,hx.str_eq,hy.str_eq,f.1,ay s n (.str _) f.2⟩)
  | _=>exact False.elim f
 | lst ds =>
  cases e with
  | lst es =>
   obtain ⟨a,xs,rfl,h1,h2⟩:=hx.asL s
   obtain ⟨b,ys,rfl,h3,h4⟩:=hy.asL s
   exact .inr (.inr (.inl ⟨a,b,xs,ys,rfl,rfl,h1,h3,by rw [h2.length,h4.length]; exact f.1,cm s n (h2.append h4) f.2⟩))
  | _=>exact False.elim f
 | tup ds =>
  cases e with
  | tup es =>
   have hy':=hy
   obtain ⟨a,xs,rfl,h1,h2⟩:=hx.asT s
   obtain ⟨b,ys,rfl,h3,h4⟩:=hy.asT s
   refine .inr (.inr (.inr ⟨a,b,xs,ys,rfl,rfl,h1,h3,fun z=>f.1 ?_,by rw [h2.length,h4.length]; exact f.2.1,fun z=>?_,fun z=>gY s n (h2.append h4) f.2.2⟩))
   ·have:=h2.length; rw [z] at this; exact aar this.symm
   ·subst z
    cases h4
    have f2:=f.2.2
    rw [aaJ] at f2
    cases hx with
    | fz hd=>exact ay s n hd f2
  | _=>exact False.elim f
 | _=>exact False.elim f⟩
end
def da (a b:Str):Bool:=!aQ b a
theorem dU {a:Str}:da a b=true↔¬ (b.cps.toList < a.cps.toList):=by unfold da aQ; simp
theorem iE (a b c:Str)(h1:da a b=true)(h2:da b c=true):da a c=true:=by
 rw [dU] at *
 exact List.not_lt.mpr (List.le_trans (List.not_lt.mp h1) (List.not_lt.mp h2))
theorem m6 (a b:Str):(da a b || da b a)=true:=by
 rw [Bool.or_eq_true,dU,dU]
 rcases List.le_total a.cps.toList b.cps.toList with h | h
 ·exact .inl (List.not_lt.mpr h)
 ·exact .inr (List.not_lt.mpr h)
theorem jz {a:Str}(h1:da a b=true)(h2:da b a=true):a=b:=by
 rw [dU] at *
 exact eX (List.le_antisymm (List.not_lt.mp h1) (List.not_lt.mp h2))
def ji (zs:List Str):List Str:=zs.mergeSort da
theorem cK (zs:List Str):(ji zs).Perm zs:=List.mergeSort_perm zs _
theorem dW (zs:List Str):(ji zs).Pairwise fun a b=>da a b=true:=List.pairwise_mergeSort iE m6 zs
theorem dX:∀ (p:Str) (l:List Str),risingS p l=true->(p::l).Pairwise fun a b=>da a b=true
 | p,[],_=>List.pairwise_singleton _ _
 | p,x::r,h=>by
  simp only [risingS,Bool.and_eq_true] at h
  have ih:=dX x r h.2
  have hpx:da p x=true:=by
   unfold da aQ
   rw [← ltCps_eq]; exact h.1
  refine List.pairwise_cons.mpr ⟨fun y hy=>?_,ih⟩
  rcases List.mem_cons.mp hy with rfl | hy
  ·exact hpx
  ·exact iE _ _ _ hpx (List.rel_of_pairwise_cons ih hy)
theorem cz:∀ (l:List Str),sortedS l=true->l.Pairwise fun a b=>da a b=true
 | [],_=>.nil
 | x::r,h=>dX x r h
theorem gF (hp:ss.Perm zs)(hs:sortedS ss=true):ss=ji zs :=
 List.Perm.eq_of_pairwise (le:=fun a b=>da a b=true) (fun a b _ _ h1 h2=>jz h1 h2) (cz ss hs) (dW zs) (hp.trans (cK zs).symm)
theorem iF (hp:ss.Perm zs)(hs:ss.Pairwise fun a b=>da a b=true):ss=ji zs :=
 List.Perm.eq_of_pairwise (le:=fun a b=>da a b=true) (fun a b _ _ h1 h2=>jz h1 h2) hs (dW zs) (hp.trans (cK zs).symm)
section
open PySem.Calls
variable {prog:Program}  {A:Around} {E:Value->Shared->Prop}  {T:String} {r d:Addr}  {P:Nat->Value->Prop} {OK:Heap->Prop}
theorem GJ {R:List Value->Shared->Prop}(S:PySem.W.KdlSrc prog w T r d n P OK)(calm:A.handled=none)(ok:OK s.heap)(few:n<=sizeLine)
  (go:∀ (g:Heap) (tk:Nat) (acc:Array Value),(∀ b o,s.heap.get? b=some o->g.get? b=some o)->s.heap.objs.size < g.objs.size->ItemsOf P acc n->R acc.toList { s with heap:=g,toks:=tk }) :
  wpAny (model prog w) A (collect (.ref r)) R E s:=by
 obtain ⟨l1,l2⟩:=S.there _ ok
 unfold collect
 refine aaa (wpAny_runValue (codeAny_builtin entry_proto_collect' ?_)); rw [aaU PySem.F.plain_proto_collect _]
 show wpAny _ A.in1 (newList [] >>= fun x=>again (.builtin "list.__iadd__" ⟨[x,.ref r],[]⟩)) _ _ s
 refine aaa (aaF (aab ⟨plainId_quiet PySem.F.plain_list_iadd _,codeAny_builtin entry_list_iadd' ?_⟩)); rw [aaU PySem.F.plain_list_iadd _]
 have top:(s.heap.push { cls:=.type "list", data:=.seq ([]:List Value).toArray }).get? s.heap.objs.size=some { cls:=.type "list", data:=.seq #[] }:=Heap.get?_push_size _ rfl
 show wpAny _ A.in1 (Builtin.List.listExtendWith (.ref s.heap.objs.size) (.ref r) (.ref s.heap.objs.size)) _ _ _
 have main:=PySem.W.kdl_extend (A:=A) (s:={ s with heap:=s.heap.push { cls:=.type "list", data:=.seq ([]:List Value).toArray } })
  (R:=fun (q:Result) (s':Shared)=>∃ (g:Heap) (tk:Nat) (acc:Array Value) (c:Nat),q=.ok (.ret (.ref s.heap.objs.size))/\s'={ s with heap:=g,toks:=tk } /\
   (∀ b o,s.heap.get? b=some o->g.get? b=some o)/\g.get? s.heap.objs.size=some { cls:=.type "list", dict:=none,data:=.seq acc c,slots:=#[] }/\ItemsOf P acc n)
  S calm (S.keep _ _ ok fun b _ o e=>Heap.get?_push_of_some _ e) s.heap.objs.size (Nat.ne_of_gt l1) (Nat.ne_of_gt l2) (.ref s.heap.objs.size) 0 top
  (fun g tk acc c hk hS hacc=>⟨g,tk,acc,c,rfl,rfl,fun b o e=>hk b o (aal (aaf e)) (Heap.get?_push_of_some _ e),hS,hacc⟩) few
 refine aaG main (fun z s' x=>?_) fun e s' x=>?_
 ·cases z with
  | done f =>
   obtain ⟨g,tk,acc,c,e,rfl,hk,hS,hacc⟩:=x
   cases e
   exact aaa (wpAny_load hS (aab (go g tk acc hk (aaf hS) hacc)))
  | again c₁ =>
   refine ⟨x.1,codeAny_mono x.2 fun q s₂ y=>?_⟩
   obtain ⟨g,tk,acc,c,rfl,rfl,hk,hS,hacc⟩:=y
   exact aaa (wpAny_load hS (aab (go g tk acc hk (aaf hS) hacc)))
 ·obtain ⟨_,_,_,_,e',_⟩:=x
  cases e'
end
theorem lP (hc:X.calm=true):CallR X (.builtin "sorted") (fun xs H Q=>∃ p kvs zs,xs=[.ref p]/\Rd H p (.dK kvs)/\kvs.map (·.1)=zs.map Sum.inr/\kvs.length < 64/\∀ q ss,H q=none->ss.Perm zs->sortedS ss=true->Q (.ref q) (upd H q (.lst (ss.map .str)))):=by
 intro pins s σ H xs us Q I r h
 obtain ⟨p,kvs,zs,rfl,hq,hz,h64,q⟩:=h
 obtain ⟨u,rfl,rx⟩:=dH r
 cases rx
 obtain ⟨hsz,hS,vs,rv,m⟩:kvs.length<=sizeLine/\(p == sysModules)=false/\∃ vs,KV kvs vs/\s.heap.DictOf (bt X.prog X.w) p vs:=hq.ok I.hok
 obtain ⟨ep,hat⟩:=m.dictAt
 have hl:kvs.length=vs.length:=abz rv
 refine abi kind_sorted plain_sorted entry_sorted (args_sorted1 _) ?_
 unfold Builtin.«sorted»
 refine aaa (m:=checkCount "sorted" 1 1 _) (aab ?_)
 refine aaa (GJ (PySem.W.kdl_dict (knd:=bt X.prog X.w) (kvs:=vs) (ep:=ep) hS) (by simpa using I.ok.hd hc) hat (by rw [← hl]; exact hsz) fun h' tk acc hk hgr hacc=>?_)
 have hal:acc.toList.length=kvs.length:=by rw [Array.length_toList,hacc.1,hl]
 have hSA:StrsAre acc.toList zs:=by
  have hget:∀ (j:Nat) v,acc.toList[j]?=some v->∃ k x,vs[j]?=some (k,x)/\kW k v=true:=fun j v e=>hacc.2 j v (by rw [← Array.getElem?_toList]; exact e)
  clear hacc hk q hq m hat
  generalize acc.toList=us at hal hget
  clear hsz hl h64 I r
  induction rv generalizing us zs with
  | nil =>
   cases zs with
   | nil=>cases us with | nil=>exact .nil | cons a b=>simp at hal
   | cons z zs=>simp at hz
  | cons h1 h2 ih =>
   cases zs with
   | nil=>simp at hz
   | cons z zs =>
    cases us with
    | nil=>simp at hal
    | cons a b =>
     simp only [List.map_cons,List.cons.injEq] at hz
     obtain ⟨k,x,e1,e2⟩:=hget 0 a rfl
     simp only [List.getElem?_cons_zero,Option.some.injEq] at e1
     subst e1
     have e3:_=k:=h1.1
     rw [← e3,hz.1] at e2
     rcases bg e2 with ⟨i,t,q,_⟩ | ⟨z',t,q,rfl⟩
     ·cases q
     ·cases q
      exact .cons _ t (ih zs hz.2 b (by exists hal) fun j v e=>by simpa using hget (j+1) v (by exists e))
 refine aaa (wpAny_newList ?_ (hsz:=by rw [hal]; exact hsz))
 have hoL:(h'.push (seqObj "list" acc.toList.toArray 0)).get? h'.objs.size=some (seqObj "list" acc.toList.toArray 0):=Heap.get?_push_size _ rfl
 have hle:s.heap.objs.size<=h'.objs.size:=Nat.le_of_lt hgr
 refine aaa (aaB (aaE slot_list_sort ⟨_,hoL,rfl⟩ entry_list_sort (list_sort_treeK strKind_oneLt hoL hSA.keysOf (fun v₁ v₂ rest e=>keyKind_strs (by rw [← e]; exact hSA)) (by rw [hal]; exact h64) fun st' a1 a2=>⟨_,rfl,?_⟩) (args_list_sort _)))
 obtain ⟨ss',b1,b2,b3⟩:=sorted_out_str hSA a1 a2
 obtain ⟨e',he'⟩:=sortedHeap_at (out:=(arrOf st').map (·.2)) hoL
 have hlz:ss'.length=kvs.length:=by rw [b2.length_eq]; have:=congrArg List.length hz; simpa using this.symm
 refine aab ⟨_,rfl,.ref h'.objs.size,_,I.laid (t':=tk) (o:=.lst (ss'.map .str)) (fun b ob hb=>?_) hle ⟨by rw [List.length_map,hlz]; exact hsz,((arrOf st').map (·.2)).toList,e',dP b1,by rw [abe]; exact he'⟩,rfl,q h'.objs.size ss' (I.hok.fresh hle) b2 b3⟩
 have hbl:b < h'.objs.size:=aan (aaf hb) hle
 rw [sortedHeap_old (aal hbl) (by rw [size_push']; exact aaH hbl)]
 exact Heap.get?_push_of_some _ (hk b ob hb)
section
variable {K:Frag} 
def EQ (d e:D):Prop:=okD d=true/\okD e=true/\dep (qh d)<=40
def aEq:D->D->(OV->Prop)->Prop:=fun d e P=>EQ d e/\P (.fz (.bl (dEq d e)))
def aNe:D->D->(OV->Prop)->Prop:=fun d e P=>EQ d e/\P (.fz (.bl (!dEq d e)))
theorem oj:OpF K (Ie K) aEq:=⟨fun {F H x y d e Q P} s hx hy f n=>.inr ⟨_,_,(hx.den s).deep f.1.1,(hy.den s).deep f.1.2.1,f.1.2.2,ay s n (.bl _) f.2⟩⟩
theorem GK:OpF K (Ig K) aNe:=⟨fun {F H x y d e Q P} s hx hy f n=>.inr ⟨_,_,(hx.den s).deep f.1.1,(hy.den s).deep f.1.2.1,f.1.2.2,ay s n (.bl _) f.2⟩⟩
def vOf:D->V
 | .non=>.non
 | .bl b=>.bl b
 | .int i=>.int i
 | .str z=>.str z
 | _=>.non
def flD:D->Bool
 | .non=>true
 | .bl _=>true
 | .int _=>true
 | .str _=>true
 | _=>false
theorem Den.flat (h:Den K F v d)(f:flD d=true):v=vOf d/\ic v=true:=by
 cases h <;> first | exact ⟨rfl,rfl⟩ | exact (Bool.false_ne_true f).elim
theorem Dens.flat {v:List V}{d:List D}(h:Dens K F v d)(f:d.all flD=true):v=d.map vOf/\v.all ic=true:=by
 induction d generalizing v with
 | nil=>cases h; exact ⟨rfl,rfl⟩
 | cons d ds ih =>
  cases h with
  | cons h t =>
   rw [aaK,Bool.and_eq_true] at f
   obtain ⟨h1,h2⟩:=h.flat f.1
   obtain ⟨h3,h4⟩:=ih t f.2
   exact ⟨by rw [List.map_cons,← h1,← h3],by rw [aaK,h2,h4]; rfl⟩
theorem Acc.flat (h:Acc K F H v d)(f:flD d=true):v=vOf d/\ic v=true:=by
 cases h with
 | fz h=>exact h.flat f
 | lst _ _=>exact (Bool.false_ne_true f).elim
 | dct _ _ _=>exact (Bool.false_ne_true f).elim
def inD (d:D)(ds:List D):Bool:=inV (vOf d) (ds.map vOf)
def C5 (ks:List Key)(k:Key):Bool:=ks.any fun x=>decide (x=k)
def bIn (d:D)(R:Bool->Prop):D->Prop
 | .str y=>(match d with
  | .str x=>(match x.cps.toList with
   | [c]=>R (decide (c ∈ y.cps.toList))
   | _=>False)
  | _=>False)
 | .lst ds=>(flD d=true/\ds.all flD=true)/\R (inD d ds)
 | .tup ds=>(flD d=true/\ds.all flD=true)/\R (inD d ds)
 | .dct ks _=>(match v5 d with
  | some k=>R (C5 ks k)
  | none=>False)
 | _=>False
def aIn (d e:D)(P:OV->Prop):Prop:=bIn d (fun b=>P (.fz (.bl b))) e
def AE (d e:D)(P:OV->Prop):Prop:=bIn d (fun b=>P (.fz (.bl (!b)))) e
theorem AG {x:Str}{c:Nat}(h:x.cps.toList=[c]):x=⟨#[c]⟩:=eX h
theorem om (h:ys.map (·.1)=ks):(lp ys k).isSome=C5 ks k:=by
 rw [← j1,C5,← h,List.any_map]; rfl
theorem AH {x y:V}{R:Bool->Prop}(s:Same F H)(hx:Acc K F H x d)(hy:Acc K F H y e)(f:bIn d R e)(n:∀ b,R b->Q (.bl b) H):Jh K x y H Q:=by
 cases e with
 | str z =>
  cases d with
  | str u =>
   unfold bIn at f; dsimp only at f
   generalize hc:u.cps.toList=l at f
   cases l with
   | nil=>exact False.elim f
   | cons c r =>
    cases r with
    | nil=>exact .inl (.inl ⟨c,_,by rw [hx.str_eq,AG hc],hy.str_eq,n _ f⟩)
    | cons=>exact False.elim f
  | _=>exact False.elim f
 | lst ds =>
  obtain ⟨a,xs,rfl,h1,h2⟩:=hy.asL s
  obtain ⟨e1,e2⟩:=hx.flat f.1.1
  obtain ⟨e3,e4⟩:=h2.flat f.1.2
  subst e1 e3
  exact .inl (.inr ⟨a,_,rfl,.inl h1,e2,e4,n _ f.2⟩)
 | tup ds =>
  obtain ⟨a,xs,rfl,h1,h2⟩:=hy.asT s
  obtain ⟨e1,e2⟩:=hx.flat f.1.1
  obtain ⟨e3,e4⟩:=h2.flat f.1.2
  subst e1 e3
  exact .inl (.inr ⟨a,_,rfl,.inr h1,e2,e4,n _ f.2⟩)
 | dct ks vs =>
  unfold bIn at f; dsimp only at f
  generalize hk:v5 d=l at f
  cases l with
  | none=>exact False.elim f
  | some k =>
   obtain ⟨a,ys,rfl,h1,h2,h3⟩:=hy.asD s
   refine .inr ⟨a,lp ys k,rfl,by rw [m5 hx hk]; exact DGet.kR h1,?_⟩
   rw [om h2]
   exact n _ f
 | _=>exact False.elim f
theorem GL:OpF K (Jh K) aIn:=⟨fun s hx hy f n=>AH s hx hy f fun _ q=>ay s n (.bl _) q⟩
theorem tz:OpF K (tq K) AE:=⟨by
 intro F H x y d e Q P s hx hy f n
 have h:=AH (Q:=fun v H'=>∀ b,v=.bl b->Q (.bl (!b)) H') s hx hy f fun b q c e=>by cases e; exact ay s n (.bl _) q
 obtain (⟨c,z,e1,e2,q⟩ | ⟨a,xs,e1,e2,e3,e4,q⟩) | ⟨a,o,e1,e2,q⟩:=h
 ·exact .inl (.inl ⟨c,z,e1,e2,q _ rfl⟩)
 ·exact .inl (.inr ⟨a,xs,e1,e2,e3,e4,q _ rfl⟩)
 ·exact .inr ⟨a,o,e1,e2,q _ rfl⟩⟩
def xh (ks:List Key)(ds:List D)(k:Key):Option D:=((ks.zip ds).find? fun kd=>decide (kd.1=k)).map (·.2)
def aIx:D->D->(OV->Prop)->Prop
 | .lst ds,.int i,P=>(match atI ds i with
  | some d=>P (.fz d)
  | none=>False)
 | .tup ds,.int i,P=>(match atI ds i with
  | some d=>P (.fz d)
  | none=>False)
 | .str z,.int i,P=>z.length<=sizeLine/\(match atI z.cps.toList i with
  | some c=>P (.fz (.str ⟨#[c]⟩))
  | none=>False)
 | .dct ks ds,k,P=>(match v5 k with
  | some k=>(match xh ks ds k with
   | some d=>P (.fz d)
   | none=>False)
  | none=>False)
 | _,_,_=>False
theorem Dens.atI {i:Int}(h:Dens K F xs ds)(e:L2.atI ds i=some d):∃ x,L2.atI xs i=some x/\Den K F x d:=by
 unfold L2.atI at e ⊢
 rw [h.length]
 cases q:ixN ds.length i with
 | none=>rw [q] at e; cases e
 | some j=>rw [q] at e; exact h.get e
theorem oo (hk:ys.map (·.1)=ks)(h:Dens K F (ys.map (·.2)) ds)(e:xh ks ds k=some d):∃ v,lp ys k=some v/\Den K F v d:=by
 subst hk
 unfold xh at e
 induction ys generalizing ds with
 | nil=>simp at e
 | cons y ys ih =>
  cases h with
  | @cons _ d1 _ ds h1 h2 =>
   by_cases hy:y.1=k
   ·rw [gT hy]
    simp only [List.map_cons,List.zip_cons_cons,List.find?_cons,hy,decide_true,Option.map_some,Option.some.injEq] at e
    subst e
    exact ⟨y.2,rfl,h1⟩
   ·rw [gU hy]
    simp only [List.map_cons,List.zip_cons_cons,List.find?_cons,hy,decide_false] at e
    exact ih h2 e
theorem GM:OpF K (Ka K) aIx:=⟨by
 intro F H x y d e Q P s hx hy f n
 cases d with
 | lst ds =>
  cases e with
  | int i =>
   unfold aIx at f
   dsimp only at f
   cases hd:L2.atI ds i with
   | none=>rw [hd] at f; exact False.elim f
   | some d =>
    rw [hd] at f
    obtain ⟨a,xs,rfl,h1,h2⟩:=hx.asL s
    obtain ⟨v,h3,h4⟩:=h2.atI hd
    exact .inl (.inl ⟨a,xs,_,v,rfl,hy.int_eq,h1,h3,ay s n h4 f⟩)
  | _=>exact False.elim f
 | tup ds =>
  cases e with
  | int i =>
   unfold aIx at f
   dsimp only at f
   cases hd:L2.atI ds i with
   | none=>rw [hd] at f; exact False.elim f
   | some d =>
    rw [hd] at f
    obtain ⟨a,xs,rfl,h1,h2⟩:=hx.asT s
    obtain ⟨v,h3,h4⟩:=h2.atI hd
    exact .inl (.inr (.inl ⟨a,xs,_,v,rfl,hy.int_eq,h1,h3,ay s n h4 f⟩))
  | _=>exact False.elim f
 | str z =>
  cases e with
  | int i =>
   obtain ⟨f1,f⟩:=f
   cases hc:L2.atI z.cps.toList i with
   | none=>rw [hc] at f; exact False.elim f
   | some c =>
    rw [hc] at f
    exact .inl (.inr (.inr ⟨_,_,c,hx.str_eq,hy.int_eq,f1,hc,ay s n (.str _) f⟩))
  | _=>exact False.elim f
 | dct ks ds =>
  unfold aIx at f
  dsimp only at f
  cases hk:v5 e with
  | none=>rw [hk] at f; exact False.elim f
  | some k =>
   rw [hk] at f
   dsimp only at f
   cases hd:xh ks ds k with
   | none=>rw [hd] at f; exact False.elim f
   | some d =>
    rw [hd] at f
    obtain ⟨a,ys,rfl,h1,h2,h3⟩:=hx.asD s
    obtain ⟨v,h4,h5⟩:=oo h2 h3 hd
    exact .inr ⟨a,v,rfl,by rw [m5 hy hk,← h4]; exact DGet.kR h1,ay s n h5 f⟩
 | _=>exact False.elim f⟩
def xi (n:Nat)(lo hi:Option Int):Prop:=¬ (HT.sIx n 0 lo=0/\HT.sIx n n hi=n)
def cG (z:Str)(lo hi:Option Int):Str:=⟨(cg z.cps.toList lo hi).toArray⟩
def aSl:D->Option Int->Option Int->(OV->Prop)->Prop
 | .str z,lo,hi,P=>z.length<=sizeLine/\P (.fz (.str (cG z lo hi)))
 | .lst ds,lo,hi,P=>P (.fl (cg ds lo hi))
 | .tup ds,lo,hi,P=>xi ds.length lo hi/\P (.fz (.tup (cg ds lo hi)))
 | _,_,_,_=>False
theorem Dens.cut {lo hi:Option Int}(h:Dens K F xs ds):Dens K F (cg xs lo hi) (cg ds lo hi):=by
 unfold cg
 rw [h.length]
 exact (h.drop _).take _
theorem kc:SlF K (FP K) aSl:=⟨by
 intro F H x d lo hi Q P s hx f n
 cases d with
 | str z =>
  refine .inl ⟨_,hx.str_eq,f.1,fun y hy=>?_⟩
  have e:y=cG z lo hi:=eX (hy.trans (by simp [cG]))
  rw [e]
  exact ay s n (.str _) f.2
 | lst ds =>
  obtain ⟨a,xs,rfl,h1,h2⟩:=hx.asL s
  exact .inr (.inl ⟨a,xs,rfl,h1,cm s n h2.cut f⟩)
 | tup ds =>
  obtain ⟨a,xs,rfl,h1,h2⟩:=hx.asT s
  exact .inr (.inr ⟨a,xs,rfl,h1,by rw [h2.length]; exact f.1,gY s n h2.cut f.2⟩)
 | _=>exact False.elim f⟩
def dY:List D->(OV->Prop)->Prop
 | [.str z],P=>z.length<=sizeLine/\P (.fz (.int z.length))
 | [.lst ds],P=>P (.fz (.int ds.length))
 | [.tup ds],P=>P (.fz (.int ds.length))
 | [.dct ks _],P=>P (.fz (.int ks.length))
 | _,_=>False
theorem GN:CallF K (Ic K) dY:=⟨by
 intro F H xs ds Q P s ha f n
 cases ds with
 | nil=>exact False.elim f
 | cons d tl =>
 cases d with
 | str z =>
  cases tl with
  | cons _ _=>exact False.elim f
  | nil =>
  obtain ⟨x,rfl,a⟩:=cE ha
  exact .inl ⟨_,by rw [a.str_eq],f.1,ay s n (.int _) f.2⟩
 | lst ds =>
  cases tl with
  | cons _ _=>exact False.elim f
  | nil =>
  obtain ⟨x,rfl,a⟩:=cE ha
  obtain ⟨p,ys,rfl,h1,h2⟩:=a.asL s
  exact .inr (.inl ⟨p,ys,rfl,.inl h1,by rw [h2.length]; exact ay s n (.int _) f⟩)
 | tup ds =>
  cases tl with
  | cons _ _=>exact False.elim f
  | nil =>
  obtain ⟨x,rfl,a⟩:=cE ha
  obtain ⟨p,ys,rfl,h1,h2⟩:=a.asT s
  exact .inr (.inl ⟨p,ys,rfl,.inr h1,by rw [h2.length]; exact ay s n (.int _) f⟩)
 | dct ks es =>
  cases tl with
  | cons _ _=>exact False.elim f
  | nil =>
  obtain ⟨x,rfl,a⟩:=cE ha
  obtain ⟨p,ys,rfl,h1,h2,h3⟩:=a.asD s
  subst h2
  have f:P (.fz (.int (ys.map (·.1)).length)):=f
  rw [List.length_map] at f
  exact .inr (.inr ⟨p,ys,rfl,h1,ay s n (.int _) f⟩)
 | _=>exact False.elim f⟩
def Ij:List D->(OV->Prop)->Prop
 | [.int i,.int j],P=>P (.fz (.int (if j > i then j else i)))
 | _,_=>False
def Jk:List D->(OV->Prop)->Prop
 | [.int i,.int j],P=>P (.fz (.int (if j < i then j else i)))
 | _,_=>False
theorem GO:CallF K IY Ij:=⟨by
 intro F H xs ds Q P s ha f n
 cases ds with
 | nil=>exact False.elim f
 | cons d tl =>
 cases d with
 | int i =>
  cases tl with
  | nil=>exact False.elim f
  | cons e tl =>
  cases e with
  | int j =>
   cases tl with
   | cons _ _=>exact False.elim f
   | nil =>
   obtain ⟨x,y,rfl,a,b⟩:=n9 ha
   exact ⟨_,_,by rw [a.int_eq,b.int_eq],ay s n (.int _) f⟩
  | _=>exact False.elim f
 | _=>exact False.elim f⟩
theorem GP:CallF K IZ Jk:=⟨by
 intro F H xs ds Q P s ha f n
 cases ds with
 | nil=>exact False.elim f
 | cons d tl =>
 cases d with
 | int i =>
  cases tl with
  | nil=>exact False.elim f
  | cons e tl =>
  cases e with
  | int j =>
   cases tl with
   | cons _ _=>exact False.elim f
   | nil =>
   obtain ⟨x,y,rfl,a,b⟩:=n9 ha
   exact ⟨_,_,by rw [a.int_eq,b.int_eq],ay s n (.int _) f⟩
  | _=>exact False.elim f
 | _=>exact False.elim f⟩
def cIs:List D->(OV->Prop)->Prop
 | [d,.ty T],P=>(AD (tyD d)=true/\AD T=true)/\P (.fz (.bl (isT (tyD d) T)))
 | _,_=>False
theorem xj:CallF K (Ji K) cIs:=⟨by
 intro F H xs ds Q P s ha f n
 cases ds with
 | nil=>exact False.elim f
 | cons d ds =>
 cases ds with
 | nil=>exact False.elim f
 | cons e ds =>
 cases e with
 | ty T =>
  cases ds with
  | cons _ _=>exact False.elim f
  | nil =>
  obtain ⟨x,y,rfl,a,b⟩:=n9 ha
  exact ⟨x,_,_,by rw [b.ty_eq],a.den s,f.1.1,f.1.2,ay s n (.bl _) f.2⟩
 | _=>exact False.elim f⟩
def ke:List D->Option (List Bool)
 | []=>some []
 | .bl b::ds=>(ke ds).map (b::·)
 | _::_=>none
theorem oq:∀ {ds:List D} {bs:List Bool},ke ds=some bs->ds=bs.map .bl
 | [],_,h=>by simp only [ke,Option.some.injEq] at h; subst h; rfl
 | d::ds,bs,h=>by
  cases d <;> simp [ke] at h
  obtain ⟨cs,h1,rfl⟩:=h
  rw [oq h1]; rfl
theorem lQ:∀ bs:List Bool,ke (bs.map .bl)=some bs
 | []=>rfl
 | b::bs=>by rw [List.map_cons,ke,lQ bs]; rfl
def xl:List D->(OV->Prop)->Prop
 | [.lst ds],P=>(match ke ds with
  | some bs=>P (.fz (.bl (bs.all id)))
  | none=>False)
 | _,_=>False
theorem GQ:CallF K (Id K) xl:=⟨by
 intro F H xs ds Q P s ha f n
 cases ds with
 | nil=>exact False.elim f
 | cons d tl =>
 cases d with
 | lst ds =>
  cases tl with
  | cons _ _=>exact False.elim f
  | nil =>
  obtain ⟨x,rfl,a⟩:=cE ha
  obtain ⟨p,ys,rfl,h1,h2⟩:=a.asL s
  unfold xl at f
  dsimp only at f
  cases hb:ke ds with
  | none=>rw [hb] at f; exact False.elim f
  | some bs =>
   rw [hb] at f
   rw [oq hb] at h2
   exact ⟨p,bs,rfl,by rw [← h2.bls_eq]; exact h1,ay s n (.bl _) f⟩
 | _=>exact False.elim f⟩
def Ik:Key->D
 | .inl i=>.int i
 | .inr z=>.str z
theorem iG {F:Hp}:∀ (ks:List Key),Dens K F (ks.map kV) (ks.map Ik)
 | []=>.nil
 | .inl i::ks=>.cons (.int i) (iG ks)
 | .inr z::ks=>.cons (.str z) (iG ks)
def GR:List D->(OV->Prop)->Prop
 | [.lst ds],P=>P (.fl ds)
 | [.tup ds],P=>P (.fl ds)
 | [.dct ks _],P=>P (.fl (ks.map Ik))
 | _,_=>False
theorem C6:CallF K (sL K) GR:=⟨by
 intro F H xs ds Q P s ha f n
 cases ds with
 | nil=>exact False.elim f
 | cons d tl =>
 cases d with
 | lst ds =>
  cases tl with
  | cons _ _=>exact False.elim f
  | nil =>
  obtain ⟨x,rfl,a⟩:=cE ha
  obtain ⟨p,ys,rfl,h1,h2⟩:=a.asL s
  exact sN h1 (cm s n h2 f)
 | tup ds =>
  cases tl with
  | cons _ _=>exact False.elim f
  | nil =>
  obtain ⟨x,rfl,a⟩:=cE ha
  obtain ⟨p,ys,rfl,h1,h2⟩:=a.asT s
  exact sO h1 (cm s n h2 f)
 | dct ks es =>
  cases tl with
  | cons _ _=>exact False.elim f
  | nil =>
  obtain ⟨x,rfl,a⟩:=cE ha
  obtain ⟨p,ys,rfl,h1,h2,h3⟩:=a.asD s
  refine qf h1 (cm s n ?_ f)
  have e:(ys.map fun kv=>kV kv.1)=(ys.map (·.1)).map kV:=by rw [aaZ]; rfl
  rw [e,h2]
  exact iG _
 | _=>exact False.elim f⟩
def iH:List D->(OV->Prop)->Prop
 | [.lst ds],P=>P (.fz (.tup ds))
 | [.tup ds],P=>P (.fz (.tup ds))
 | _,_=>False
theorem ot:CallF K (sM K) iH:=⟨by
 intro F H xs ds Q P s ha f n
 cases ds with
 | nil=>exact False.elim f
 | cons d tl =>
 cases d with
 | lst ds =>
  cases tl with
  | cons _ _=>exact False.elim f
  | nil =>
  obtain ⟨x,rfl,a⟩:=cE ha
  obtain ⟨p,ys,rfl,h1,h2⟩:=a.asL s
  exact qg h1 (gY s n h2 f)
 | tup ds =>
  cases tl with
  | cons _ _=>exact False.elim f
  | nil =>
  obtain ⟨x,rfl,a⟩:=cE ha
  have a':=a
  obtain ⟨p,ys,rfl,h1,h2⟩:=a.asT s
  refine ⟨p,ys,rfl,.inr ⟨h1,?_⟩⟩
  cases a' with
  | fz h=>exact ay s n h f
 | _=>exact False.elim f⟩
def cO:List D->Option (List Str)
 | []=>some []
 | .str z::ds=>(cO ds).map (z::·)
 | _::_=>none
theorem dZ:∀ {ds:List D} {zs:List Str},cO ds=some zs->ds=zs.map .str
 | [],_,h=>by simp only [cO,Option.some.injEq] at h; subst h; rfl
 | d::ds,bs,h=>by
  cases d <;> simp [cO] at h
  obtain ⟨cs,h1,rfl⟩:=h
  rw [dZ h1]; rfl
theorem jA:∀ zs:List Str,cO (zs.map .str)=some zs
 | []=>rfl
 | b::bs=>by rw [List.map_cons,cO,jA bs]; rfl
def fB:List Key->Option (List Str)
 | []=>some []
 | .inr z::ks=>(fB ks).map (z::·)
 | .inl _::_=>none
theorem jB:∀ {ds:List Key} {zs:List Str},fB ds=some zs->ds=zs.map Sum.inr
 | [],_,h=>by simp only [fB,Option.some.injEq] at h; subst h; rfl
 | d::ds,bs,h=>by
  cases d <;> simp [fB] at h
  obtain ⟨cs,h1,rfl⟩:=h
  rw [jB h1]; rfl
def xm:List D->(OV->Prop)->Prop
 | [.lst ds],P=>(match cO ds with
  | some zs=>zs.length < 64/\P (.fl ((ji zs).map .str))
  | none=>False)
 | [.dct ks _],P=>(match fB ks with
  | some zs=>zs.length < 64/\P (.fl ((ji zs).map .str))
  | none=>False)
 | _,_=>False
def tD (P:Program)(w:World)(K:Frag):List V->Hp->VK->Prop:=fun xs H Q=>sK P w K xs H Q∨∃ p kvs zs,xs=[.ref p]/\Rd H p (.dK kvs)/\kvs.map (·.1)=zs.map Sum.inr/\kvs.length < 64/\∀ q ss,H q=none->ss.Perm zs->sortedS ss=true->Q (.ref q) (upd H q (.lst (ss.map .str)))
theorem tE {P:Program}:CallF K (tD P w K) xm:=⟨by
 intro F H xs ds Q Pq s ha f n
 cases ds with
 | nil=>exact False.elim f
 | cons d tl =>
 cases d with
 | lst ds =>
  cases tl with
  | cons _ _=>exact False.elim f
  | nil =>
  obtain ⟨x,rfl,a⟩:=cE ha
  obtain ⟨p,ys,rfl,h1,h2⟩:=a.asL s
  unfold xm at f
  dsimp only at f
  cases hz:cO ds with
  | none=>rw [hz] at f; exact False.elim f
  | some zs =>
   rw [hz] at f
   rw [dZ hz] at h2
   rw [h2.strs_eq] at h1
   refine .inl ⟨p,zs,rfl,.inr h1,f.1,fun q ss hq hp hs=>?_⟩
   rw [gF hp hs]
   exact cm s n (Dens.strs _) f.2 q hq
 | dct ks es =>
  cases tl with
  | cons _ _=>exact False.elim f
  | nil =>
  obtain ⟨x,rfl,a⟩:=cE ha
  obtain ⟨p,ys,rfl,h1,h2,h3⟩:=a.asD s
  unfold xm at f
  dsimp only at f
  cases hz:fB ks with
  | none=>rw [hz] at f; exact False.elim f
  | some zs =>
   rw [hz] at f
   rw [jB hz] at h2
   have hl:ys.length=zs.length:=by have:=congrArg List.length h2; rwa [List.length_map,List.length_map] at this
   refine .inr ⟨p,ys,zs,rfl,h1,h2,by rw [hl]; exact f.1,fun q ss hq hp hs=>?_⟩
   rw [gF hp hs]
   exact cm s n (Dens.strs _) f.2 q hq
 | _=>exact False.elim f⟩
def Jl:List D->(OV->Prop)->Prop
 | [.str z],P=>(match z.cps.toList with
  | [c]=>P (.fz (.int c))
  | _=>False)
 | _,_=>False
theorem GS:CallF K Kc Jl:=⟨by
 intro F H xs ds Q P s ha f n
 unfold Jl at f
 split at f
 ·split at f
  ·rename_i c hc
   obtain ⟨x,rfl,a⟩:=cE ha
   exact ⟨c,by rw [a.str_eq,AG hc],ay s n (.int _) f⟩
  ·exact f.elim
 ·exact f.elim⟩
def lR (zs:List Str):List Str:=zs.foldl (fun acc z=>KS.dedup1 acc z) []
theorem gm:∀ (zs acc:List Str),acc.Nodup->(zs.foldl (fun acc z=>KS.dedup1 acc z) acc).Nodup/\∀ k,k ∈ zs.foldl (fun acc z=>KS.dedup1 acc z) acc↔k ∈ acc∨k ∈ zs
 | [],acc,h=>⟨h,fun k=>by simp⟩
 | z::zs,acc,h=>by
  obtain ⟨h1,h2⟩:=gm zs (KS.dedup1 acc z) (gC h)
  refine ⟨h1,fun k=>?_⟩
  rw [abH,h2 k,jt,List.mem_cons]
  constructor
  ·rintro ((a | a) | a)
   ·exact .inl a
   ·exact .inr (.inl a)
   ·exact .inr (.inr a)
  ·rintro (a | a | a)
   ·exact .inl (.inl a)
   ·exact .inl (.inr a)
   ·exact .inr a
theorem gG (zs:List Str):(lR zs).Nodup:=(gm zs [] aaP).1
theorem jC {k:Str}:k ∈ lR zs↔k ∈ zs:=by
 have:=(gm zs [] aaP).2 k
 simpa [lR] using this
def kf (zs:List Str):List Str:=ji (lR zs)
theorem gZ {k:Str}:k ∈ kf zs↔k ∈ zs:=by rw [kf,(cK _).mem_iff,jC]
theorem gp (zs:List Str):(kf zs).Nodup:=(cK _).nodup_iff.mpr (gG zs)
theorem m7 (zs:List Str):(kf zs).Pairwise fun a b=>da a b=true:=dW _
theorem fE {a b:List Str}(ha:a.Nodup)(hb:b.Nodup)(h:∀ k,k ∈ a↔k ∈ b):a.Perm b:=(List.perm_ext_iff_of_nodup ha hb).mpr h
theorem iI (hn:ss.Nodup)(hm:∀ k,k ∈ ss↔k ∈ zs)(hs:ss.Pairwise fun a b=>da a b=true):ss=kf zs :=
 iF (fE hn (gG zs) fun k=>(hm k).trans jC.symm) hs
def kg (fe:FE):FE:=fun ρ Q=>fe ρ fun r ρ1=>on1 ρ1 r fun d=>match d with
 | .lst ds=>(match cO ds with
  | some zs=>(zs.length+1 < scanBound/\(kf zs).length < 64)/\Q (.ov (.fl ((kf zs).map .str))) ρ1
  | none=>False)
 | _=>False
theorem qv {P:Program}(he:EF K μ te fe):EF K μ (tCB (tD P w K) (dI (tCB (Ih P w K) (dI te la)) la)) (kg fe):=⟨by
 intro F Z H τ σ ρ A Q Pq vw R h q
 refine he.h vw R h fun r ρ1 v F1 H1 A1 B1 h1 s1 R1 v1 f1=>?_
 obtain ⟨d,e1,h2⟩:=bS h1
 split at h2
 ·split at h2
  ·rename_i zs hz
   obtain ⟨p,ys,rfl,a1,a2⟩:=(R1.acc v1 e1).asL R1.fh
   rw [dZ hz] at a2
   rw [a2.strs_eq] at a1
   refine ⟨p,zs,rfl,a1,h2.1.1,fun l τs hl hm hn _=>?_⟩
   refine .inl ⟨l,τs,rfl,.inl ao,?_,fun l2 ss hl2 hp hs=>?_⟩
   ·have hp:τs.Perm (kf zs):=fE hn (gp zs) fun k=>(hm k).trans gZ.symm
    rw [hp.length_eq]; exact h2.1.2
   ·have e:ss=kf zs:=iI (hp.nodup_iff.mpr hn) (fun k=>(hp.mem_iff).trans (hm k)) (cz ss hs)
    subst e
    have pu:=(Pure.new (o:=Gg P w l τs) R1.fh hl).trans (Pure.new (p:=l2) (o:=.lst ((kf zs).map .str)) (R1.fh.trans (bn hl)) hl2)
    have hl2':H1 l2=none:=(bn hl).free hl2
    exact R1.after (P:=fun o=>Pq (.ov o) ρ1) (fun o v F3 H3 B p s3 R3 ow fr=>q _ _ _ _ _ _ _ p (s1.trans s3) R3 ow fr) _ _ F1 _ [l2] h2.2 pu (.fl ao (Dens.strs _)) (New.one hl2' (R1.fh.free hl2'))
  ·exact h2.elim
 ·exact h2.elim⟩
end
end L2
namespace KS
open PySem PySem.Spec PyProof.Rows
theorem xo {x:Int}{v:Value}(h:Value.isInt x v=true):numOf v=x:=by
 obtain ⟨t,rfl⟩:=Value.isInt_shape h; rfl
section
variable {prog:Program} {w:World} {A:Around} {E:Value->Shared->Prop} {s:Shared}
theorem sorted_setI {a:Addr}{σ:List Int}{Q:Value->Shared->Prop}(hh:A.handled=none)(hS:SetZ (PySem.intKind prog w) s.heap a σ (!byText w))(h64:σ.length < 64)
  (hQ:∀ (p:Addr) (out:List Value) (ss:List Int) (e:Nat) (h':Heap) (d':Drawn) (tk:Nat),s.heap.objs.size<=p->h'.get? p=some (seqObj "list" out.toArray e)->IntsAre out ss->ss.Perm σ->ss.Pairwise (·<=·) ->
   (∀ b o,s.heap.get? b=some o->h'.get? b=some o)->Q (.ref p) { s with heap:=h',drawn:=d',toks:=tk }) :
  wpAny (model prog w) A (call (.builtin "sorted") [.ref a]) Q E s:=by
 obtain ⟨o,es,ep,t,ho,hex,hd,hE,hmem,hb,hf,hsz,hnd,hled,hpl⟩:=hS
 refine abi kind_sorted plain_sorted entry_sorted (args_sorted1 _) ?_
 unfold Builtin.«sorted»
 refine aaa (m:=checkCount "sorted" 1 1 _) (aab ?_)
 refine aaa (iu (by exists hh) ho hex hd hf hb hled hpl fun vs h' d' tk hperm hlt hk=>?_)
 have hlen:vs.length=σ.length:=by rw [hperm.length_eq,List.length_map,Array.length_toList]; exact hsz
 refine aaa (wpAny_newList ?_ (hsz:=by rw [sizeLine_eq]; nofun))
 show wpAny _ _ _ _ _ { s with heap:=h'.push (seqObj "list" vs.toArray 0),drawn:=d',toks:=tk }
 have hoL:(h'.push (seqObj "list" vs.toArray 0)).get? h'.objs.size=some (seqObj "list" vs.toArray 0):=Heap.get?_push_size _ rfl
 have hstr:∀ v ∈ vs,∃ x t,v=.int x t:=fun v hv=>by
  have hv':=hperm.mem_iff.mp hv
  obtain ⟨e,he,rfl⟩:=List.mem_map.mp hv'
  obtain ⟨⟨k,hk,_⟩,_⟩:=hE e he
  obtain ⟨t,q⟩:=Value.isInt_shape hk
  exact ⟨k,t,q⟩
 have hSA:=intsAre_map vs hstr
 have hps:(vs.map numOf).Perm σ:=by
  refine fj σ _ hnd (fun k hk=>?_) (by rw [List.length_map,hlen])
  obtain ⟨e,he,hke⟩:=(hmem k).mp hk
  refine List.mem_map.mpr ⟨e.2,hperm.mem_iff.mpr (List.mem_map.mpr ⟨e,he,rfl⟩),xo hke⟩
 have hle:s.heap.objs.size<=h'.objs.size:=Nat.le_of_lt hlt
 refine aaa (aaB (aaE slot_list_sort ⟨_,hoL,rfl⟩ entry_list_sort (list_sort_tree hoL hSA (by rw [hlen]; exact h64) fun out ss' b1 b2 b3=>⟨_,rfl,?_⟩) (args_list_sort _)))
 obtain ⟨e',he'⟩:=sortedHeap_at (out:=out) hoL
 refine aab ⟨_,rfl,hQ h'.objs.size out.toList ss' e' _ d' tk hle (by rw [abe]; exact he') b1 (b2.trans hps) b3 fun b ob hb=>?_⟩
 have hbl:b < h'.objs.size:=aan (aaf hb) hle
 rw [sortedHeap_old (aal hbl) (by rw [size_push']; exact aaH hbl)]
 exact Heap.get?_push_of_some _ (hk b ob hb)
end
end KS
namespace L2
open PySem PySem.Spec PyProof.Rows
theorem gH:∀ {vs:List Value} {ss:List Int},IntsAre vs ss->Vals (ss.map V.int) vs
 | _,_,.nil=>.nil
 | _,_,.cons y t h=>.cons ⟨t,rfl⟩ (gH h)
theorem gI:∀ {ss:List Int} {vs:List Value},Vals (ss.map V.int) vs->IntsAre vs ss
 | [],_,.nil=>.nil
 | s::ss,_,.cons ⟨t,e⟩ r=>by subst e; exact .cons s t (gI r)
theorem AI:∀ {vs:List Value} {ss:List Int} {i:Nat} {v:Value},IntsAre vs ss->vs[i]?=some v->∃ t,v=.int (ss.getD i 0) t
 | _,_,_,_,.nil,e=>by simp at e
 | _,_,0,_,.cons y t h,e=>by simp at e; exact ⟨t,by rw [← e]; rfl⟩
 | _,_,i+1,v,.cons y t h,e=>by
  obtain ⟨u,q⟩:=AI (i:=i) (v:=v) h (by exists e)
  exact ⟨u,(by exists q)⟩
theorem IntsAre.len:∀ {vs:List Value} {ss:List Int},IntsAre vs ss->vs.length=ss.length
 | _,_,.nil=>rfl
 | _,_,.cons _ _ h=>by simp [IntsAre.len h]
def xp (P:Program)(w:World)(q:Addr)(σ:List Int):HO:=.ext fun h=>KS.SetZ (PySem.intKind P w) h q σ (!KS.byText w)
section
variable {X:Cx}
def C7 (P:Program)(w:World)(K:Frag):List V->Hp->VK->Prop:=fun xs H Q=>∃ (p:Addr) (zs:List Int),xs=[.ref p]/\SqL K H p (zs.map .int)/\zs.length+1 < scanBound /\
 ∀ q σ,H q=none->(∀ k,k ∈ σ↔k ∈ zs)->σ.Nodup->σ.length<=zs.length->Q (.ref q) (upd H q (xp P w q σ))
theorem tF (hc:X.calm=true):CallR X (.type "set") (C7 X.prog X.w X.K):=by
 intro pins s σ H xs us Q I r h
 obtain ⟨p,zs,rfl,hq,hz,q⟩:=h
 obtain ⟨u,rfl,rx⟩:=dH r
 cases rx
 obtain ⟨its,r',pl,hz'⟩:=I.list hq
 have hS:=gI r'
 have hlen:=IntsAre.len hS
 refine KS.set_of_list (knd:=PySem.intKind X.prog X.w) (I.ok.hd hc) pl.isList (fun i=>zs.getD i 0) (fun i v e=>?_) (by simp only [List.size_toArray]; nofun) fun h' tk hZ hk=>?_
 ·obtain ⟨t,rfl⟩:=AI (i:=i) hS (by exists e)
  exact ⟨by simp [PySem.intKind,Value.isInt],rfl⟩
 ·have hmem:∀ k,k ∈ KS.metZ (fun i=>zs.getD i 0) its.toArray.size↔k ∈ zs:=fun k=>by
   rw [KS.metZ_mem]
   simp only [List.size_toArray,hlen]
   constructor
   ·rintro ⟨j,hj,rfl⟩
    rw [List.getD,List.getElem?_eq_getElem hj]; exact aaS hj
   ·intro hk
    obtain ⟨j,hj,e⟩:=List.getElem_of_mem hk
    exact ⟨j,hj,by rw [List.getD,List.getElem?_eq_getElem hj]; exact e⟩
  have hZ':=id hZ
  obtain ⟨o,es,ep,t,ho,_,_,_,_,_,_,_,hnd,_,_⟩:=hZ'
  refine ⟨.ref s.heap.objs.size,_,I.laid (t':=tk) (o:=xp X.prog X.w s.heap.objs.size (KS.metZ (fun i=>zs.getD i 0) its.toArray.size)) (fun b o e=>hk b o (aaf e) e) (aac _) ?_,rfl,q _ _ (I.hok.fresh (aac _)) hmem hnd ?_⟩
  ·exact ⟨hZ,⟨o,ho⟩,fun h1 h2 z k=>KS.SetZ.at z k⟩
  ·exact aaq (KS.metZ_len _ _) (by simp only [List.size_toArray]; nofun)
def tG (P:Program)(w:World):List V->Hp->VK->Prop:=fun xs H Q=>∃ (p:Addr) (σ:List Int),xs=[.ref p]/\H p=some (xp P w p σ)/\σ.length < 64 /\
 ∀ (q:Addr) (ss:List Int),H q=none->ss.Perm σ->ss.Pairwise (·<=·)->Q (.ref q) (upd H q (.lst (ss.map .int)))
theorem qw (hc:X.calm=true):CallR X (.builtin "sorted") (tG X.prog X.w):=by
 intro pins s σ H xs us Q I r h
 obtain ⟨p,τ,rfl,hq,hz,q⟩:=h
 obtain ⟨u,rfl,rx⟩:=dH r
 cases rx
 obtain ⟨hS,_,_⟩:=I.hok p _ hq
 refine KS.sorted_setI (I.ok.hd hc) hS hz fun q' out ss e h' d' tk hle hg hSA hp hs hk=>?_
 have hl:ss.length < 64:=by rw [hp.length_eq]; exact hz
 refine ⟨.ref q',_,I.laidD (t':=tk) (d':=d') (o:=.lst (ss.map .int)) hk hle ⟨?_,out,e,gH hSA,hg⟩,rfl,q q' ss (I.hok.fresh hle) hp hs⟩
 rw [List.length_map,sizeLine_eq]; nofun
theorem C8 (P:Program)(w:World)(K:Frag)(hc:X.calm=true)(hP:X.prog=P)(hw:X.w=w)(h:X.K=K):BCall X (.type "set") (C7 P w K):=by subst h hP hw; exact ⟨tF hc⟩
theorem xq (P:Program)(w:World)(hc:X.calm=true)(hP:X.prog=P)(hw:X.w=w):BCall X (.builtin "sorted") (tG P w):=by subst hP hw; exact ⟨qw hc⟩
end
section
variable {K:Frag} {μ:List Nat}
def gJ:List D->Option (List Int)
 | []=>some []
 | .int i::r=>(gJ r).map (i::·)
 | _=>none
theorem lS:∀ {ds:List D} {zs:List Int},gJ ds=some zs->ds=zs.map .int
 | [],zs,h=>by simp only [gJ,Option.some.injEq] at h; subst h; rfl
 | d::ds,zs,h=>by
  cases d <;> simp only [gJ,Option.map_eq_some_iff,reduceCtorEq] at h
  obtain ⟨ys,h1,rfl⟩:=h
  rw [lS h1]; rfl
theorem jD:∀ zs:List Int,gJ (zs.map .int)=some zs
 | []=>rfl
 | z::zs=>by simp only [List.map_cons,gJ,jD zs,Option.map_some]
def tH (ss zs:List Int):Prop:=ss.Pairwise (· < ·)/\∀ k,k ∈ ss↔k ∈ zs
def lT (fe:FE):FE:=fun ρ Q=>fe ρ fun r ρ1=>on1 ρ1 r fun d=>match d with
 | .lst ds=>(match gJ ds with
  | some zs=>zs.length < 64/\∀ ss,tH ss zs->Q (.ov (.fl (ss.map .int))) ρ1
  | none=>False)
 | _=>False
theorem m8 {P:Program}{w:World}{te:TE}{fe:FE}(he:EF K μ te fe):EF K μ (tCB (tG P w) (dI (tCB (C7 P w K) (dI te la)) la)) (lT fe):=⟨by
 intro F Z H τ σ ρ A Q Pq vw R h q
 refine he.h vw R h fun r ρ1 v F1 H1 A1 B1 h1 s1 R1 v1 f1=>?_
 obtain ⟨d,e1,h2⟩:=bS h1
 split at h2
 ·split at h2
  ·rename_i zs hz
   obtain ⟨p,ys,rfl,a1,a2⟩:=(R1.acc v1 e1).asL R1.fh
   rw [lS hz] at a2
   rw [a2.ints_eq] at a1
   have sb:(64:Nat) < scanBound:=by decide
   refine ⟨p,zs,rfl,a1,by nofun,fun l τs hl hm hn hln=>?_⟩
   refine ⟨l,τs,rfl,ao,by nofun,fun l2 ss hl2 hp hs=>?_⟩
   have hss:tH ss zs:=by
    refine ⟨?_,fun k=>hp.mem_iff.trans (hm k)⟩
    have hnd:ss.Nodup:=hp.nodup_iff.mpr hn
    exact (hs.and hnd).imp fun ⟨x,y⟩=>by nofun
   have pu:=(Pure.new (o:=xp P w l τs) R1.fh hl).trans (Pure.new (p:=l2) (o:=.lst (ss.map .int)) (R1.fh.trans (bn hl)) hl2)
   have hl2':H1 l2=none:=(bn hl).free hl2
   exact R1.after (P:=fun o=>Pq (.ov o) ρ1) (fun o v F3 H3 B p s3 R3 ow fr=>q _ _ _ _ _ _ _ p (s1.trans s3) R3 ow fr) _ _ F1 _ [l2] (h2.2 ss hss) pu (.fl ao (Dens.ints _)) (New.one hl2' (R1.fh.free hl2'))
  ·exact h2.elim
 ·exact h2.elim⟩
theorem C9 {zs:List Int}{Q:List Int->Prop}(q:Q zs):match gJ (zs.map .int) with
  | some zs=>Q zs
  | none=>False:=by
 rw [jD]; exact q
end
end L2
namespace L2
open PySem PySem.Spec PyProof.Rows PySem.W
variable{n:Nat}{p:Array Nat}{prog:Program}{w:World}{A:Around}{s:Shared}
def Good (n:Nat){α:Type}(Post:α->Prop):KasT α->Prop
 | .ret a=>Post a
 | .ask i j k=>i < n/\j < n/\∀ b,Good n Post (k b)
theorem Good.bind {n:Nat}{α β:Type}{Post:α->Prop}{Post':β->Prop}{f:α->KasT β}:∀ {t:KasT α},Good n Post t->(∀ a,Post a->Good n Post' (f a))->Good n Post' (t.bind f)
 | .ret a,h,k=>k a h
 | .ask i j g,h,k=>⟨h.1,h.2.1,fun b=>Good.bind (h.2.2 b) k⟩
theorem Good.run {n:Nat}{α:Type}{Post:α->Prop}{cmp:Nat->Nat->(Bool->Shared->Prop)->Shared->Prop}{G:α->Shared->Prop}{s:Shared}(hc:∀ i j C,i < n->j < n->(∀ b,C b s)->cmp i j C s):∀ {t:KasT α},Good n Post t->(∀ a,Post a->G a s)->t.kasWp cmp G s
 | .ret a,h,k=>k a h
 | .ask i j g,h,k=>hc i j _ h.1 h.2.1 fun b=>Good.run hc (h.2.2 b) k
def IsPerm (n:Nat)(p:Array Nat):Prop:=p.toList.Perm (List.range n)
theorem IsPerm.lt (h:IsPerm n p)(hn:0 < n)(i:Nat):p.getD i 0 < n:=by
 by_cases hi:i < p.size
 ·have e:p.getD i 0=p[i]:=by simp [Array.getD,hi]
  rw [e]
  have:p[i] ∈ p.toList:=by simp
  exact List.mem_range.mp (h.mem_iff.mp this)
 ·have e:p.getD i 0=0:=by simp [Array.getD,hi]
  rw [e]; exact hn
theorem IsPerm.rev (h:IsPerm n p)(i j:Nat):IsPerm n (kas_rev p i j):=(Array.perm_iff_toList_perm.mp (mirror_perm p i j ((j - i) / 2))).trans h
theorem IsPerm.bubble (h:IsPerm n p)(i j:Nat):IsPerm n (PyProof.Rows.bubble p i j):=(Array.perm_iff_toList_perm.mp (bubble_perm p i j)).trans h
theorem kh {n:Nat}(hn:0 < n){p:Array Nat}(h:IsPerm n p):∀ (f k:Nat),Good n (fun _=>True) (kas_asc p f k)
 | 0,k=>trivial
 | f+1,k=>⟨h.lt hn _,h.lt hn _,fun b=>by
  cases b with
  | true=>exact trivial
  | false=>exact kh hn h f (k+1)⟩
theorem fS {n:Nat}(hn:0 < n):∀ (f:Nat) (p:Array Nat) (k q:Nat),IsPerm n p->Good n (fun r=>IsPerm n r.1) (kas_desc f p k q)
 | 0,p,k,q,h=>h
 | f+1,p,k,q,h=>⟨h.lt hn _,h.lt hn _,fun b=>by
  cases b with
  | true =>
   dsimp only; rw [if_pos rfl]
   split
   ·exact fS hn f _ _ _ (h.rev _ _)
   ·exact fS hn f _ _ _ h
  | false =>
   dsimp only; rw [if_neg Bool.false_ne_true]
   exact ⟨h.lt hn _,h.lt hn _,fun d=>by
    cases d with
    | true=>dsimp only; rw [if_pos rfl]; exact h
    | false=>dsimp only; rw [if_neg Bool.false_ne_true]; exact fS hn f _ _ _ h⟩⟩
theorem lU (hn:0 < n)(h:IsPerm n p)(a b:Nat):Good n (fun r=>IsPerm n r.2) (kas_tail3 a b p):=(kh hn (h.rev 0 a) _ _).bind fun m _=>h.rev 0 a
theorem fT (hn:0 < n)(h:IsPerm n p)(a b:Nat):Good n (fun r=>IsPerm n r.2) (kas_descPart a b p):=(fS hn _ _ _ _ h).bind fun r hr=>by
 split
 ·exact lU hn (hr.rev _ _) _ _
 ·exact lU hn hr _ _
theorem qx (hn:0 < n)(h:IsPerm n p)(b:Nat):Good n (fun r=>IsPerm n r.2) (kas_count b p):=(kh hn h _ _).bind fun r _=>by
 split
 ·exact h
 ·split
  ·exact ⟨h.lt hn _,h.lt hn _,fun c=>by
    cases c with
    | true=>dsimp only; rw [if_pos rfl]; exact h
    | false=>dsimp only; rw [if_neg Bool.false_ne_true]; exact fT hn (h.rev _ _) _ _⟩
  ·exact fT hn h _ _
theorem gq {n:Nat}(hn:0 < n){p:Array Nat}(h:IsPerm n p)(k:Nat):∀ (f l r:Nat),Good n (fun _=>True) (kas_place p k f l r)
 | 0,l,r=>trivial
 | f+1,l,r=>by
  unfold kas_place
  split
  ·exact trivial
  ·exact ⟨h.lt hn _,h.lt hn _,fun c=>by
    cases c with
    | true=>dsimp only; rw [if_pos rfl]; exact gq hn h k f _ _
    | false=>dsimp only; rw [if_neg Bool.false_ne_true]; exact gq hn h k f _ _⟩
theorem ou {n:Nat}(hn:0 < n):∀ (f:Nat) (p:Array Nat) (k:Nat),IsPerm n p->Good n (IsPerm n) (kas_bin f p k)
 | 0,p,k,h=>h
 | f+1,p,k,h=>(gq hn h k _ _ _).bind fun l _=>ou hn f _ _ (h.bubble _ _)
theorem tI (hn:0 < n):Good n (IsPerm n) (kas_sort n):=(qx hn (show IsPerm n (List.toArray (List.range n)) from aaW _) n).bind fun r hr=>by
 split
 ·exact ou hn _ _ _ hr
 ·exact hr
section
variable    {E:Value->Shared->Prop} 
theorem qy {l:Addr}{vs:List Value}{Q:Value->Shared->Prop}(hl:s.heap.IsList l vs.toArray)(few:vs.length < 2)(h:Q (.ref (s.heap.objs.size+1)) { s with heap:=sortedAll s.heap vs (pairsOf vs |>.map (·.2)) }) :
  wpAny (model prog w) A (call (.builtin "sorted") [.ref l]) Q E s:=by
 refine abi kind_sorted plain_sorted entry_sorted (args_sorted1 _) ?_
 unfold Builtin.«sorted»
 refine aaa (m:=checkCount "sorted" 1 1 _) (aab (aaa (collect_list hl (aaa (wpAny_newList ?_)))))
 have z1:((s.heap.push (seqObj "list" #[] 0)).update s.heap.objs.size (Obj.mapSeq (·++vs.toArray))).objs.size=s.heap.objs.size+1:=(Heap.size_update ..).trans (size_push' ..)
 have top:(((s.heap.push (seqObj "list" #[] 0)).update s.heap.objs.size (Obj.mapSeq (·++vs.toArray))).push (seqObj "list" vs.toArray 0)).get? (s.heap.objs.size+1)=some (seqObj "list" vs.toArray 0):=z1 ▸ Heap.get?_push_size _ rfl
 show wpAny _ _ _ _ _ { s with heap:=((s.heap.push (seqObj "list" #[] 0)).update s.heap.objs.size (Obj.mapSeq (·++vs.toArray))).push (seqObj "list" vs.toArray 0) }
 rw [z1]
 refine aaa (aaB (aaE slot_list_sort ⟨_,top,rfl⟩ entry_list_sort ?_ (args_list_sort _)))
 generalize hG:((s.heap.push (seqObj "list" #[] 0)).update s.heap.objs.size (Obj.mapSeq (·++vs.toArray))).push (seqObj "list" vs.toArray 0)=G at top
 generalize ha:s.heap.objs.size+1=a at top
 have lt:a < G.objs.size:=aaf top
 rw [list_sort_plain]
 refine aaa (listItems_at (s:={ s with heap:=G }) top rfl (aaa (listUpdate_at (s:={ s with heap:=G }) top rfl ?_)))
 obtain ⟨e1,o1⟩:∃ e1,(G.update a (Obj.mapSeq fun _=>#[])).get? a=some (seqObj "list" #[] e1):=⟨_,get?_update_seq top (fun _=>#[])⟩
 refine aaa (seqEpoch_at (s:={ s with heap:=G.update a (Obj.mapSeq fun _=>#[]) }) o1 rfl (aaa (wpAny_newTuple (aaa (wpAny_newList (aaB ?_))))))
 have o6:(((G.update a (Obj.mapSeq fun _=>#[])).push (seqObj "tuple" vs.toArray 0)).push (seqObj "list" #[] 0)).get? a=some (seqObj "list" #[] e1):=Heap.get?_push_of_some _ (Heap.get?_push_of_some _ o1)
 show wpAny (model prog w) _ _ _ E { s with heap:=((G.update a (Obj.mapSeq fun _=>#[])).push (seqObj "tuple" vs.toArray 0)).push (seqObj "list" #[] 0) }
 have h2:vs.toArray.size < 2:=(by exists few)
 dsimp only
 rw [if_pos h2,if_pos h2]
 refine aaa (aab ?_)
 rw [StateT.run_pure]
 refine aaa (aab (aaa (seqEpoch_at o6 rfl (aaa (listUpdate_at o6 rfl ?_ (hsz2:=?_))))))
 ·simp only [bne_self_eq_false,Bool.false_eq_true,if_false]
  refine aab ⟨_,rfl,aab ⟨_,rfl,?_⟩⟩
  subst ha
  have e:sortedAll s.heap vs (pairsOf vs |>.map (·.2))=sortedHeap G (s.heap.objs.size+1) vs (pairsOf vs |>.map (·.2)):=by rw [← hG]; rfl
  rw [e] at h
  exact h
 ·rw [Array.size_map]; show (pairsOf vs).size<=_; rw [pairsOf_size,sizeLine_eq]; nofun
end
section
variable     {C:Bool->Shared->Prop} {bb fn:Bool}
theorem ox (hC:∀ b,C b s):∀ (l:List Value) (i:Nat),KatLex prog w A bb fn C (l.zip l) i s
 | [],i=>kat_nil (hC _)
 | v::l,i=>kat_cons (abC v prog w _ _ (kat_yes (ox hC l (i+1))))
theorem tJ (hC:∀ b,C b s){a b:Str}{t u:Tok}{l:List (Value×Value)}(hne:a≠b):KatLex prog w A true fn C ((.str a t,.str b u)::l) 0 s:=by
 refine kat_cons (SeqAt.EqAt.str_str a t b u prog w _ _ ?_)
 rw [show (a == b)=false from beq_eq_false_iff_ne.mpr hne]
 refine kat_no ?_
 exact oneLt_str (hC _)
end
theorem ObjOk.get {P:Program}{H:Hp}{h:Heap}{a:Addr}{o:HO}(x:ObjOk P w H h a o):∃ u,h.get? a=some u:=by
 cases o with
 | lst xs=>obtain ⟨_,_,_,_,e⟩:=x; exact ⟨_,e⟩
 | tup xs=>obtain ⟨_,_,_,_,e,_⟩:=x; exact ⟨_,e⟩
 | dK kvs=>obtain ⟨_,_,_,_,o,_,_,e,_⟩:=x; exact ⟨_,e⟩
 | dT kvs=>obtain ⟨_,_,_,_,o,_,_,e,_⟩:=x; exact ⟨_,e⟩
 | set S n=>obtain ⟨o,_,_,_,e,_⟩:=x; exact ⟨_,e⟩
 | ins C dx fs=>obtain ⟨_,_,_,e,_⟩:=x; exact ⟨_,e⟩
 | own y=>obtain ⟨_,e⟩:=x; exact ⟨_,e⟩
 | xd fs=>obtain ⟨_,⟨_,_,_,e,_⟩,_⟩:=x; exact ⟨_,e⟩
 | rng lo hi=>obtain ⟨_,_,_,e⟩:=x; exact ⟨_,e⟩
 | frz ob u=>obtain ⟨e,_⟩:=x; exact ⟨_,e⟩
 | tbl ps=>exact ⟨_,(show h.get? a=some _ from x)⟩
 | met f y=>exact ⟨_,(show h.get? a=some _ from x)⟩
 | ext φ=>obtain ⟨_,⟨_,e⟩,_⟩:=x; exact ⟨_,e⟩
section
variable {X:Cx}
def AJ (K:Frag):List V->Hp->VK->Prop:=fun xs H Q=>∃ (p:Addr) (rows:List (Addr×Str×List V)),xs=[.ref p]/\SqL K H p (rows.map fun r=>.ref r.1)/\(∀ r ∈ rows,SqT K H r.1 (.str r.2.1::r.2.2))/\(rows.map (·.2.1)).Nodup/\rows.length < 64 /\
 ∀ (q:Addr) (rows':List (Addr×Str×List V)),H q=none->rows'.Perm rows->Q (.ref q) (upd H q (.lst (rows'.map fun r=>.ref r.1)))
theorem lV:∀ {rows:List (Addr×Str×List V)} {us:List Value},Vals (rows.map fun r=>V.ref r.1) us->us=rows.map fun r=>.ref r.1
 | [],_,.nil=>rfl
 | r::rows,_,.cons h t=>by rw [List.map_cons,lV t,show _=Value.ref r.1 from h]
theorem iJ:∀ (rows:List (Addr×Str×List V)),Vals (rows.map fun r=>V.ref r.1) (rows.map fun r=>.ref r.1)
 | []=>.nil
 | r::rows=>.cons rfl (iJ rows)
theorem dO {α:Type}(d:α)(xs:List α){l:List Nat}(h:l.Perm (List.range xs.length)):(l.map fun i=>xs.getD i d).Perm xs:=by
 refine (h.map _).trans ?_
 have e:(List.range xs.length).map (fun i=>xs.getD i d)=xs:=by
  apply List.ext_getElem?
  intro i
  rw [List.getElem?_map]
  by_cases hi:i < xs.length
  ·rw [List.getElem?_range hi]; simp [hi]
  ·rw [List.getElem?_eq_none (by exists hi),List.getElem?_eq_none (by exists hi)]; rfl
 rw [e]
theorem lW:CallR X (.builtin "sorted") (AJ X.K):=by
 intro pins s σ H xs us Q I r h
 obtain ⟨p,rows,rfl,hq,ht,hn,h64,q⟩:=h
 obtain ⟨u,rfl,rx⟩:=dH r
 cases rx
 obtain ⟨its,rv,pl,hz⟩:=I.list hq
 have hits:=lV rv
 subst hits
 have hlen:(rows.map fun r=>Value.ref r.1).length=rows.length:=List.length_map ..
 have hzr:rows.length<=sizeLine:=by rw [sizeLine_eq]; nofun
 by_cases h2:rows.length < 2
 ·refine qy pl.isList (by rw [hlen]; exact h2) ?_
  have e0:(pairsOf (rows.map fun r=>Value.ref r.1) |>.map (·.2))=(rows.map fun r=>Value.ref r.1).toArray:=by
   apply Array.toList_inj.mp
   rw [Array.toList_map,pairsOf_toList,List.map_snd_zip (aac _)]
  rw [e0]
  obtain ⟨e,he⟩:=sortedAll_at s.heap (rows.map fun r=>Value.ref r.1) (rows.map fun r=>Value.ref r.1).toArray
  exact ⟨.ref (s.heap.objs.size+1),_,I.laid (t':=s.toks) (o:=.lst (rows.map fun r=>.ref r.1)) (fun b o e=>sortedAll_old e) (aa8 _) ⟨by rw [List.length_map]; exact hzr,_,e,iJ rows,he⟩,rfl,q _ rows (I.hok.fresh (aa8 _)) (.refl _)⟩
 ·obtain ⟨m,hns,_⟩:=I.loc
  -- the tuples as they stand
  have tup:∀ r ∈ rows,∃ (o:Obj) (t:Tok) (vs:List Value) (n:Nat),s.heap.get? r.1=some o/\o.cls=.type "tuple" /\ o.data=.seq (Value.str r.2.1 t::vs).toArray n/\r.1≠X.env.locals:=fun r hr=>by
   obtain ⟨its,rv,⟨o,ho,hc,n,hd⟩,_⟩:=I.tuple (ht r hr)
   cases rv with
   | cons r1 r2 =>
    obtain ⟨t,rfl⟩:=r1
    refine ⟨o,t,_,n,ho,hc,hd,fun z=>?_⟩
    obtain ⟨o',es,ep,ho',hd',_⟩:=hns
    rw [← z,ho] at ho'
    cases ho'
    rw [hd] at hd'; cases hd'
  refine kat_sorted (Att.fr_all hns) wa pl.isList (by rw [hlen]; nofun) (by rw [hlen]; exact h64) fun D e1 h' F' N' hlt=>?_
  have kept:∀ b o,b≠X.env.locals->s.heap.get? b=some o->h'.get? b=some o:=fun b o hb e=>(N' (b,o) (aag _ (eV hb (Att.noObjs_get _ _) e))).1
  have nD:∀ b o,b≠X.env.locals->s.heap.get? b=some o->b < D:=fun b o hb e=>hlt (b,o) (eV hb (Att.noObjs_get _ _) e)
  have hDL:D≠X.env.locals:=(N' _ (aad ..)).2.1
  have tup':∀ r ∈ rows,∃ (o:Obj) (t:Tok) (vs:List Value) (n:Nat),h'.get? r.1=some o/\o.cls=.type "tuple" /\ o.data=.seq (Value.str r.2.1 t::vs).toArray n:=fun r hr=>by
   obtain ⟨o,t,vs,n,h1,h2,h3,h4⟩:=tup r hr
   exact ⟨o,t,vs,n,kept _ _ h4 h1,h2,h3⟩
  obtain ⟨fs,hkt,hfl,hfs⟩:∃ fs,KatTups h' (rows.map fun r=>Value.ref r.1) fs/\fs.length=rows.length/\∀ v ∈ fs,∃ x t,v=Value.str x t:=by
   clear hq hn h64 q rv pl hz hlen hzr h2 N' F' kept nD tup ht
   induction rows with
   | nil=>exact ⟨[],KatTups.nil,rfl,fun _ z=>nomatch z⟩
   | cons r rows ih =>
    obtain ⟨o,t,vs,n,h1,h2,h3⟩:=tup' r (aad ..)
    obtain ⟨fs,k1,k2,k3⟩:=ih fun r hr=>tup' r (aag _ hr)
    refine ⟨.str r.2.1 t::fs,KatTups.cons h1 h2 h3 rfl k1,by rw [List.length_cons,List.length_cons,k2],fun v hv=>?_⟩
    rcases List.mem_cons.mp hv with rfl | hv
    ·exact ⟨_,_,rfl⟩
    ·exact k3 v hv
  refine kat_kind (s:={ s with heap:=h' }) (T:=.type "str") hkt (by nofun) (fun v hv=>?_) (by decide) ?_
  ·obtain ⟨x,t,rfl⟩:=hfs v hv
   exact Looks.of_pure rfl
  rw [hlen]
  refine Good.run (n:=rows.length) (fun i j C hi hj hC=>?_) (tI (by nofun)) fun pm hp=>?_
  ·-- two tuples asked
   have gi:(rows.map fun r=>Value.ref r.1).getD i Value.none=.ref rows[i].1:=by simp [hi]
   have gj:(rows.map fun r=>Value.ref r.1).getD j Value.none=.ref rows[j].1:=by simp [hj]
   unfold kas_ask
   rw [gi,gj]
   obtain ⟨o,t,vs,n,a1,a2,a3⟩:=tup' rows[i] (aaS hi)
   obtain ⟨o2,t2,vs2,n2,b1,b2,b3⟩:=tup' rows[j] (aaS hj)
   refine kat_lt (s:={ s with heap:=h' }) a1 a3 b1 b3 ?_
   by_cases hij:i=j
   ·subst hij
    rw [a1] at b1
    cases b1
    rw [a3] at b3
    injection b3 with b3 _
    rw [b3]
    exact ox hC _ 0
   ·refine tJ hC fun z=>hij ?_
    have e1:(rows.map (·.2.1))[i]'(by exists hi)=(rows.map (·.2.1))[j]'(by exists hj):=(by exists z)
    exact (List.getElem_inj hn).mp e1
  ·-- the end
   refine KasFin.intro (s:={ s with heap:=h' }) F' N' (.head fun p hp=>aal (hlt p hp)) fun h3 c F3 N3=>?_
   have kept3:∀ b o,b≠X.env.locals->s.heap.get? b=some o->h3.get? b=some o:=fun b o hb e=>(N3 (b,o) (aag _ (eV hb (Att.noObjs_get _ _) e))).1
   have hD3:=(N3 (D,_) (aad ..)).1
   have hfree:s.heap.get? D=none:=by
    cases z:s.heap.get? D with
    | none=>rfl
    | some o=>exact absurd (nD D o hDL z) (aaI _)
   have hHD:H D=none:=by
    cases z:H D with
    | none=>rfl
    | some o =>
     exfalso
     have lt:=(I.hok D o z).lt
     obtain ⟨o',ho'⟩:∃ o',s.heap.get? D=some o':=ObjOk.get (I.hok D o z)
     rw [hfree] at ho'; cases ho'
   have hne:∀ b o,s.heap.get? b=some o->b≠D:=fun b o e z=>by rw [z,hfree] at e; cases e
   let rows':=pm.toList.map fun i=>rows.getD i (0, "", [])
   have hpr:rows'.Perm rows:=dO _ rows hp
   have hout:(pm.toList.map fun i=>(rows.map fun r=>Value.ref r.1).getD i Value.none)=rows'.map fun r=>.ref r.1:=by
    rw [aaZ]
    refine abl fun i hi=>?_
    have hi':i < rows.length:=List.mem_range.mp (hp.mem_iff.mp hi)
    simp [hi']
   rw [hout] at hD3
   have Inv3:Inv X pins σ (upd H D (.lst (rows'.map fun r=>.ref r.1))) { s with heap:=h3 }:=by
    refine I.step (g':=s.gens) (d':=s.drawn) (t':=s.toks) (ch:=[]) (fun _ z=>nomatch z) (fun b o hb _ _ e _=>kept3 b o hb e) (fun b o hb _ _ e _=>⟨o.slots,kept3 b o hb e⟩) (fun b o _ e n=>by rw [aU (hne b o e)]; exact n)
     (fun b o _ e=>?_) (fun b ys e=>by rw [aU (bx e hHD)]; exact e) (fun b o u e=>by rw [aU (bx e hHD)]; exact e) (fun b ps e=>⟨#[],by rw [aU (bx e hHD),e]; simp⟩) (fun m' hm'=>?_) ?_ I.bare
    ·by_cases hb:b=X.env.locals
     ·subst hb
      obtain ⟨o',_,_,ho',_⟩:=F3.ns
      exact ⟨o',ho'⟩
     ·exact ⟨o,kept3 b o hb e⟩
    ·have em:m'=m:=by
      funext x
      obtain ⟨o1,e1,p1,g1,d1,_,n1⟩:=hm'
      obtain ⟨o2,e2,p2,g2,d2,_,n2⟩:=hns
      rw [g1] at g2; cases g2
      rw [d1] at d2
      injection d2 with d2 _
      rw [← n1 x,← n2 x,d2]
     rw [em]; exact F3.ns
    ·intro b o e
     by_cases hb:b=D
     ·subst hb
      rw [ao] at e
      cases e
      exact ⟨by rw [List.length_map,hpr.length_eq]; exact hzr,_,c,iJ rows',hD3⟩
     ·rw [aU hb] at e
      refine (I.hok b o e).stay (fun b' u hb' q'=>kept3 b' u (fun z=>?_) q') (fun b' q'=>by rw [aU (bx q' hHD)]; exact q') fun b' ys q'=>by rw [aU (bx q' hHD)]; exact q'
      subst z
      rcases hb' with z | z
      ·rw [← z,I.free] at e; cases e
      ·rw [I.free] at z; cases z
   exact ⟨.ref D,_,Inv3,rfl,q D rows' hHD hpr⟩
end
end L2
namespace L2
open PySem PySem.Spec PyProof.Rows
variable{α:Type}{μ T:List Nat}{ds:List D}{zs:List Str}{X:Cx}{P:Program}{w:World}{te ta tb:TE}{fe fa:FE}{n j:Nat}{fg:FG}{ρ:FSt}{fb:FS}{E:FEnds}{lo i:Int}{d:D}{Q:D->Prop}{a b z:Str}
theorem oy {β:Type}{f:α->β}:∀ {l l':List β},l.Perm l'->∀ m:List α,l'=m.map f->∃ m':List α,m'.Perm m/\l=m'.map f:=by
 intro l l' h
 induction h with
 | nil =>
  intro m e
  have:m=[]:=by simpa using e.symm
  subst this
  exact ⟨[],.refl _,rfl⟩
 | cons x _ ih =>
  intro m e
  cases m with
  | nil=>cases e
  | cons a m =>
   simp only [List.map_cons,List.cons.injEq] at e
   obtain ⟨m',h1,h2⟩:=ih m e.2
   exact ⟨a::m',.cons a h1,by rw [List.map_cons,h2,e.1]⟩
 | swap x y l =>
  intro m e
  match m,e with
  | a::b::m,e =>
   simp only [List.map_cons,List.cons.injEq] at e
   exact ⟨b::a::m,.swap _ _ _,by rw [List.map_cons,List.map_cons,e.1,e.2.1,e.2.2]⟩
 | trans _ _ ih1 ih2 =>
  intro m e
  obtain ⟨m2,h1,h2⟩:=ih2 m e
  obtain ⟨m1,h3,h4⟩:=ih1 m2 h2
  exact ⟨m1,h3.trans h1,h4⟩
section
variable {K:Frag} 
def eG:List D->Option (List Str)
 | []=>some []
 | .tup (.str z::_)::ds=>(eG ds).map (z::·)
 | _::_=>none
theorem Da {F:Hp}{xs:List V}(h:Dens K F xs ds)(e:eG ds=some zs):∃ L:List ((Addr×Str×List V)×D),xs=L.map (fun r=>.ref r.1.1)/\ds=L.map (·.2)/\(∀ r ∈ L,SqT K F r.1.1 (.str r.1.2.1::r.1.2.2)/\Den K F (.ref r.1.1) r.2)/\L.map (·.1.2.1)=zs:=by
 induction ds generalizing xs zs with
 | nil=>cases h; cases e; exact ⟨[],rfl,rfl,(fun _ z=>nomatch z),rfl⟩
 | cons d ds ih =>
  cases h with
  | cons h t =>
  cases h with
  | @tup a ys es hs ht =>
   cases es with
   | nil=>exact nomatch e
   | cons c es =>
   cases c with
   | str z =>
    obtain ⟨zs',e1,rfl⟩:=Option.map_eq_some_iff.mp (show (eG ds).map (z::·)=some zs from e)
    obtain ⟨L,rfl,rfl,h3,h4⟩:=ih t e1
    have h':Den K F (.ref a) (.tup (.str z::es)):=.tup hs ht
    cases ht with
    | @cons _ _ zs1 _ k1 k2 =>
     have:=k1.str_eq
     subst this
     refine ⟨((a,z,zs1),.tup (.str z::es))::L,rfl,rfl,fun r hr=>?_,by rw [List.map_cons,h4]⟩
     rcases List.mem_cons.mp hr with rfl | hr
     ·exact ⟨hs,h'⟩
     ·exact h3 r hr
   | _=>exact nomatch e
  | _=>exact nomatch e
theorem tK {F:Hp}:∀ {L:List ((Addr×Str×List V)×D)},(∀ r ∈ L,Den K F (.ref r.1.1) r.2)->Dens K F (L.map fun r=>.ref r.1.1) (L.map (·.2))
 | [],_=>.nil
 | r::L,h=>.cons (h r (aad ..)) (tK fun r hr=>h r (aag _ hr))
def tL (P:Program)(w:World)(K:Frag):List V->Hp->VK->Prop:=fun xs H Q=>tD P w K xs H Q∨AJ K xs H Q
theorem xr (P:Program)(w:World)(K:Frag)(hc:X.calm=true)(hP:X.prog=P)(hw:X.w=w)(h:X.K=K):BCall X (.builtin "sorted") (tL P w K):=by subst h hP hw; exact ⟨((lH hc).or (lP hc)).or lW⟩
@[irreducible] def lX:List D->(OV->Prop)->Prop
 | [.lst ds],P=>(match cO ds with
  | some zs=>zs.length < 64/\P (.fl ((ji zs).map .str))
  | none=>(match eG ds with
   | some zs=>(zs.Nodup/\zs.length < 64)/\∀ ds':List D,ds'.Perm ds->P (.fl ds')
   | none=>False))
 | [.dct ks _],P=>(match fB ks with
  | some zs=>zs.length < 64/\P (.fl ((ji zs).map .str))
  | none=>False)
 | _,_=>False
theorem xt :CallF K (tL P w K) lX:=⟨by
 intro F H xs ds Q Pq s ha f n
 unfold lX at f
 cases ds with
 | nil=>exact False.elim f
 | cons d r =>
  cases d with
  | lst ds =>
   cases r with
   | cons=>exact False.elim f
   | nil =>
    dsimp only at f
    generalize hz:cO ds=o at f
    cases o with
    | some zs =>
     refine .inl (tE.h s ha ?_ n)
     unfold xm
     dsimp only
     rw [hz]
     exact f
    | none =>
     dsimp only at f
     clear hz
     generalize hz:eG ds=o at f
     cases o with
     | none=>exact False.elim f
     | some zs =>
      obtain ⟨x,rfl,a⟩:=cE ha
      obtain ⟨p,ys,rfl,h1,h2⟩:=a.asL s
      obtain ⟨L,e1,e2,h3,h4⟩:=Da h2 hz
      subst e1 e2
      have el:(L.map fun r=>V.ref r.1.1)=(L.map (·.1)).map fun r=>V.ref r.1:=by rw [aaZ]; rfl
      refine .inr ⟨p,L.map (·.1),rfl,by rw [← el]; exact h1,fun r hr=>?_,by rw [aaZ]; exact h4 ▸ f.1.1,by rw [List.length_map,← List.length_map (f:=(·.1.2.1)) (as:=L),h4]; exact f.1.2,fun q rows' hq hp=>?_⟩
      ·obtain ⟨r',hr',rfl⟩:=List.mem_map.mp hr
       exact (h3 r' hr').1.same s
      ·obtain ⟨L',p1,rfl⟩:=oy hp L rfl
       have el':((L'.map (·.1)).map fun r=>V.ref r.1)=L'.map fun r=>V.ref r.1.1:=by rw [aaZ]; rfl
       rw [el']
       exact cm s n (tK fun r hr=>(h3 r (p1.mem_iff.mp hr)).2) (f.2 _ (p1.map _)) q hq
  | dct ks vs =>
   cases r with
   | cons=>exact False.elim f
   | nil=>exact .inl (tE.h s ha f n)
  | _=>exact False.elim f⟩
theorem m9 (he:EF K μ te fe):EF K μ (tCB (tL P w K) (dI (tCB (Ih P w K) (dI te la)) la)) (kg fe):=⟨by
 intro F Z H τ σ ρ A Q Pq vw R h q
 have:=(qv (P:=P) (w:=w) he).h vw R h q
 refine he.h vw R h fun r ρ1 v F1 H1 A1 B1 h1 s1 R1 v1 f1=>?_
 obtain ⟨d,e1,h2⟩:=bS h1
 split at h2
 ·split at h2
  ·rename_i zs hz
   obtain ⟨p,ys,rfl,a1,a2⟩:=(R1.acc v1 e1).asL R1.fh
   rw [dZ hz] at a2
   rw [a2.strs_eq] at a1
   refine ⟨p,zs,rfl,a1,h2.1.1,fun l τs hl hm hn _=>?_⟩
   refine .inl (.inl ⟨l,τs,rfl,.inl ao,?_,fun l2 ss hl2 hp hs=>?_⟩)
   ·have hp:τs.Perm (kf zs):=fE hn (gp zs) fun k=>(hm k).trans gZ.symm
    rw [hp.length_eq]; exact h2.1.2
   ·have e:ss=kf zs:=iI (hp.nodup_iff.mpr hn) (fun k=>(hp.mem_iff).trans (hm k)) (cz ss hs)
    subst e
    have pu:=(Pure.new (o:=Gg P w l τs) R1.fh hl).trans (Pure.new (p:=l2) (o:=.lst ((kf zs).map .str)) (R1.fh.trans (bn hl)) hl2)
    have hl2':H1 l2=none:=(bn hl).free hl2
    exact R1.after (P:=fun o=>Pq (.ov o) ρ1) (fun o v F3 H3 B p s3 R3 ow fr=>q _ _ _ _ _ _ _ p (s1.trans s3) R3 ow fr) _ _ F1 _ [l2] h2.2 pu (.fl ao (Dens.strs _)) (New.one hl2' (R1.fh.free hl2'))
  ·exact h2.elim
 ·exact h2.elim⟩
def Kd (K:Frag)(ta tb:TE):TE:=fun σ H Q=>ta σ H fun x H1=>∃ k,IK K x H1 k/\if k=true then Q x H1 else tb σ H1 Q
theorem GT {a b:Expr}{rest:List Expr}{pos:Pos}(K:Frag)(ha:BE X a ta)(hb:BE X (.BoolOp .Or (b::rest) pos) tb)(hK:X.K=K):BE X (.BoolOp .Or (a::b::rest) pos) (Kd K ta tb):=by
 subst hK
 refine ⟨fun pins s σ H Q I h=>?_⟩
 refine BoolOp_or (thn (ha.h pins s σ H _ I h) fun v s1 ⟨x,H1,I1,r1,k,e,q1⟩=>?_)
 refine thn (Fl pins s1 σ H1 x v (fun b H'=>b=k/\H'=H1) I1 r1 ⟨k,e,rfl,rfl⟩) fun c s2 ⟨H2,I2,ec,eh⟩=>?_
 subst ec eh
 cases c with
 | false=>exact hb.h pins s2 σ H2 Q I2 q1
 | true=>exact ⟨x,H2,I2,r1,q1⟩
def Ke (fa fb:FE):FE:=fun ρ Q=>fa ρ fun r ρ1=>on1 ρ1 r fun d=>match Ax d with
 | some k=>br k (Q r ρ1) (fb ρ1 Q)
 | none=>False
theorem GU {fb:FE}(ha:EF K μ ta fa)(hb:EF K μ tb fb):EF K μ (Kd K ta tb) (Ke fa fb):=⟨by
 intro F Z H τ σ ρ A Q P vw R h q
 refine ha.h vw R h fun r1 ρ1 x F1 H1 A1 B1 h1 s1 R1 v1 f1=>?_
 obtain ⟨d,e1,h2⟩:=bS h1
 split at h2
 ·rename_i k hk
  refine ⟨k,CA R1.fh (R1.acc v1 e1) hk,?_⟩
  cases k with
  | true=>exact q _ _ _ _ _ _ _ (qX h2) s1 R1 v1 f1
  | false=>exact hb.h vw R1 (qY h2) fun r2 ρ2 y F2 H2 A2 B2 h2 s2=>q _ _ _ _ _ _ _ h2 (s1.trans s2)
 ·exact h2.elim⟩
def gP (fo fe:FE):FE:=fun ρ Q=>fo ρ fun r ρ1=>on1 ρ1 r fun d=>match d with
 | .str z=>fe ρ1 fun r2 ρ2=>on1 ρ2 r2 fun d2=>(match d2 with
  | .lst ds=>(match cO ds with
   | some zs=>(zs.map (·.length)).sum+zs.length * z.length<=16777216/\Q (.ov (.fz (.str (Builtin.Str.glued z zs)))) ρ2
   | none=>False)
  | _=>False)
 | _=>False
theorem Db {to:TE}{fo:FE}(ho:EF K μ to fo)(he:EF K μ te fe):EF K μ (tBM K "str" (wz K) to (dI te la)) (gP fo fe):=⟨by
 intro F Z H τ σ ρ A Q P vw R h q
 refine ho.h vw R h fun r1 ρ1 x F1 H1 A1 B1 h1 s1 R1 v1 f1=>?_
 obtain ⟨d,e1,h2⟩:=bS h1
 split at h2
 ·rename_i z
  have ex:=(R1.acc v1 e1).str_eq
  subst ex
  refine ⟨rfl,he.h vw R1 h2 fun r2 ρ2 y F2 H2 A2 B2 h3 s2 R2 v2 f2=>?_⟩
  obtain ⟨d2,e2,h4⟩:=bS h3
  split at h4
  ·split at h4
   ·rename_i zs hz
    obtain ⟨p,ys,rfl,a1,a2⟩:=(R2.acc v2 e2).asL R2.fh
    rw [dZ hz] at a2
    rw [a2.strs_eq] at a1
    exact ⟨z,p,zs,rfl,rfl,a1,h4.1,q _ _ _ _ _ _ [] h4.2 (s1.trans s2) R2 (.fz (.str _)) Fresh.nil⟩
   ·exact h4.elim
  ·exact h4.elim
 ·exact h2.elim⟩
end
section
variable {K:Frag}
theorem Kf (h:j < n):EF K (List.range n) (nE j) (ac j):=sR (by simp [h])
theorem iK (h:autoParam (j<n) L2.aD._auto_1):EF K (List.range n) (nE j) (ac j):=Kf h
theorem qZ (h:j < n):GF K (List.range n) [j] (fJ j) (ad j):=mY (by simp [h]) List.nodup_range
theorem Dc (h:j < n)(he:EF K (List.range n) te fe):EF K (List.range n) (tBM K "list" jZ (nE j) (dI te la)) (EO j fe):=Gw (by simp [h]) he
theorem oz {ixs:List Nat}(h:ixs.all (fun j=>decide (j < n))=true):∀ j ∈ ixs,j < (List.range n).length:=fun j hj=>by
 rw [List.length_range]; exact of_decide_eq_true (List.all_eq_true.mp h j hj)
theorem cT {m:List Nat}(h:(m.all fun i=>!T.contains i)=true):∀ i ∈ m,i ∉ T:=fun i hi hT=>by
 have:=List.all_eq_true.mp h i hi
 simp [hT] at this
theorem GV {no:Nat}(h:(T.all fun i=>decide (i < no))=true):∀ i ∈ T,i < no:=fun i hi=>of_decide_eq_true (List.all_eq_true.mp h i hi)
theorem Fun.okG {mg:Str->Option Value}{base:Heap}{x qual:Str}{st:Stmt}{f:Addr}{fd:FuncData}{N ps:List Str}{k:Nat}{c:Ct}{fs:FS}(n:Nat)(m:List Nat)(F:Fun K x qual st f fd)(S:FnScope N ps (aj st))(hn:N.length=n)
  (hN:ps.length<=n) (hlen:∀ os P,c os P->os.length=ps.length/\∀ j o,os[j]?=some o->j ∉ m->v6 o=true) (hm:∀ i ∈ m,i < ps.length)
  (hbody:∀ (cdv:Value) (A:Around) (outer:List Env) (s:Shared) (H:Hp) (E:XK),Room k (A.deeper (envOfC qual (aj st) s.heap.objs.size f cdv)) ->
   ∃ t,BSs (dL CX0 P w K mg base N qual (aj st) f cdv A outer s H E).nox (bT st) t/\SF K n m t fs)
  (hc:∀ os P,c os P->fs { nx:=fin m os P (.fz .non),rt:=fin m os P } (aw n os)):FnOk P w K mg base CX0 (k+1) f fd ps (spM K c):=by
 subst hn
 exact Fun.okF F S hN hlen hm hbody hc
end
theorem bM {ft:FT}{P:List D->FSt->Prop}{as0:List D}(I:Nat->List D->FSt->Prop)(h0:I 0 as0 ρ)
  (hs:∀ (i:Nat) (d:D) (as:List D) (ρ:FSt) (R:List D->FSt->Prop),ds[i]?=some d->I i as ρ->(∀ as' ρ',I (i+1) as' ρ'->R as' ρ') ->
   fg d ρ fun ρ1=>ft ρ1 fun b ρ2=>br b (fe ρ2 fun r ρ3=>match fzR r ρ3 with
    | some (y,ρ4)=>as.length < sizeLine/\R (as++[y]) ρ4
    | none=>False) (R as ρ2))
  (hd:∀ as ρ,I ds.length as ρ->P as ρ):fR fg ft fe P ds as0 ρ:=by
 have main:∀ (k i:Nat) (as:List D) (ρ:FSt),i+k=ds.length->I i as ρ->fR fg ft fe P (ds.drop i) as ρ:=by
  intro k
  induction k with
  | zero =>
   intro i as ρ e h
   have:i=ds.length:=by nofun
   subst this
   rw [aa2]
   exact tf (hd as ρ h)
  | succ k ih =>
   intro i as ρ e h
   have hi:i < ds.length:=by nofun
   rw [aaw hi]
   exact qr (hs i ds[i] as ρ _ (List.getElem?_eq_getElem hi) h fun as' ρ' h'=>ih (i+1) as' ρ' (by nofun) h')
 have:=main ds.length 0 as0 ρ (by nofun) h0
 rwa [aaA] at this
theorem cU (I:Nat->FSt->Prop)(h0:I 0 ρ)
  (hs:∀ (i:Nat) (d:D) (ρ:FSt) (R:FSt->Prop),ds[i]?=some d->I i ρ->(∀ ρ',I (i+1) ρ'->R ρ')->fg d ρ fun ρ1=>fb { nx:=R,ct:=R,bk:=E.nx,rt:=E.rt } ρ1)
  (hd:∀ ρ,I ds.length ρ->E.nx ρ):dz fg fb E ds ρ:=by
 have main:∀ (k i:Nat) (ρ:FSt),i+k=ds.length->I i ρ->dz fg fb E (ds.drop i) ρ:=by
  intro k
  induction k with
  | zero =>
   intro i ρ e h
   have:i=ds.length:=by nofun
   subst this
   rw [aa2]
   exact sX (hd ρ h)
  | succ k ih =>
   intro i ρ e h
   have hi:i < ds.length:=by nofun
   rw [aaw hi]
   exact qq (hs i ds[i] ρ _ (List.getElem?_eq_getElem hi) h fun ρ' h'=>ih (i+1) ρ' (by nofun) h')
 have:=main ds.length 0 ρ (by nofun) h0
 rwa [aaA] at this
theorem tM {fc:FT}(I:Nat->FSt->Prop)(n:Nat)(h0:I n ρ)
  (hs:∀ (m:Nat) (ρ:FSt) (R:FSt->Prop),I m ρ->(∀ k ρ',k < m->I k ρ'->R ρ')->fc ρ fun b ρ1=>br b (fb { nx:=R,ct:=R,bk:=E.nx,rt:=E.rt } ρ1) (E.nx ρ1)):sZ fc fb E ρ:=by
 refine ⟨n+1,?_⟩
 have main:∀ (N m:Nat) (ρ:FSt),m < N->I m ρ->cn fc fb E N ρ:=by
  intro N
  induction N with
  | zero=>intro m ρ h _; nofun
  | succ N ih =>
   intro m ρ h hi
   exact m3 (hs m ρ _ hi fun k ρ' hk h'=>ih k ρ' (by nofun) h')
 exact main (n+1) n ρ (by nofun) h0
theorem bW {i:Nat}(h:(cf lo n)[i]?=some d):i < n/\d=.int (lo+i):=by
 unfold cf at h
 rw [List.getElem?_map,Option.map_eq_some_iff] at h
 obtain ⟨k,h1,rfl⟩:=h
 obtain ⟨h2,h3⟩:=List.getElem?_eq_some_iff.mp h1
 rw [List.getElem_range] at h3
 rw [List.length_range] at h2
 subst h3
 exact ⟨h2,rfl⟩
theorem df :(cf lo n).length=n:=by simp [cf]
theorem iL {xs:List D}(h0:0<=i)(h:i < xs.length)(q:∀ d ∈ xs,Q d):match atI xs i with
  | some d=>Q d
  | none=>False:=by
 obtain ⟨c,h1,h2⟩:=An h0 h
 rw [h1]
 exact q c h2
theorem fF {xs:List Nat}{Q:Nat->Prop}(h0:0<=i)(h:i < xs.length)(q:∀ d ∈ xs,Q d):match atI xs i with
  | some d=>Q d
  | none=>False:=by
 obtain ⟨c,h1,h2⟩:=An h0 h
 rw [h1]
 exact q c h2
theorem bi :dEq (.str a) (.str b)=true↔a=b:=by
 show (a == b)=true↔_
 rw [beq_iff_eq]
theorem aV {a b:Int}:dEq (.int a) (.int b)=true↔a=b:=by
 show (a == b)=true↔_
 rw [beq_iff_eq]
theorem xu :(!dEq (.str a) (.str b))=true↔a≠b:=by
 rw [aak,aas,Ne,bi]
theorem aM :EQ (.str a) (.str b):=⟨rfl,rfl,aam _⟩
theorem aA {a b:Int}:EQ (.int a) (.int b):=⟨rfl,rfl,aam _⟩
theorem oA {z:Str}:∀ {zs:List Str},inV (.str z) (zs.map V.str)=true↔z ∈ zs
 | []=>by simp [inV]
 | y::zs=>by
  have ih:=oA (z:=z) (zs:=zs)
  unfold inV at ih ⊢
  rw [List.map_cons,abA,Bool.or_eq_true,ih,List.mem_cons]
  have:eqV (.str y) (.str z)=true↔z=y:=by
   show (y == z)=true↔_
   rw [beq_iff_eq]; exact eq_comm
  rw [this]
theorem ki :inD (.str z) (zs.map D.str)=true↔z ∈ zs:=by
 unfold inD
 have:(zs.map D.str).map vOf=zs.map V.str:=by rw [aaZ]; rfl
 rw [this]
 exact oA
theorem lY :C5 (zs.map Sum.inr) (.inr z)=true↔z ∈ zs:=by
 unfold C5
 rw [List.any_map,List.any_eq_true]
 constructor
 ·rintro ⟨y,h1,h2⟩
  have:=of_decide_eq_true h2
  cases this
  exact h1
 ·intro h
  exact ⟨z,h,by simp⟩
theorem cA {Q:List Str->Prop}(q:Q zs):match cO (zs.map .str) with
  | some zs=>Q zs
  | none=>False:=by
 rw [jA]; exact q
theorem jE {bs:List Bool}{Q:List Bool->Prop}(q:Q bs):match ke (bs.map .bl) with
  | some zs=>Q zs
  | none=>False:=by
 rw [lQ]; exact q
theorem tN :(AC (zs.map Sum.inr) ds (.inr z) d).1=(KS.dedup1 zs z).map Sum.inr:=by
 unfold AC KS.dedup1
 by_cases h:z ∈ zs
 ·have e:((zs.map Sum.inr).any fun x=>decide (x=(Sum.inr z:Key)))=true:=lY.mpr h
  rw [if_pos e,if_pos h]
 ·have e:¬ ((zs.map Sum.inr).any fun x=>decide (x=(Sum.inr z:Key)))=true:=fun q=>h (lY.mp q)
  rw [if_neg e,if_neg h,aae]; rfl
theorem tO (zs:List Str):(zs.map Sum.inr).map Ik=zs.map D.str:=by rw [aaZ]; rfl
theorem lZ:∀ (zs acc:List Str),(zs.foldl (fun acc z=>KS.dedup1 acc z) acc).length<=acc.length+zs.length
 | [],acc=>by simp
 | z::zs,acc=>by
  rw [abH,List.length_cons]
  have:=lZ zs (KS.dedup1 acc z)
  have:=(ju acc z).2.1
  nofun
theorem xw (zs:List Str):(kf zs).length<=zs.length:=by
 rw [kf,(cK _).length_eq]
 have:=lZ zs []
 simpa [lR] using this
theorem tP {name:α->Str}{rest:α->List D}{rows:List α}{P:OV->Prop}(hn:(rows.map name).Nodup)(hl:rows.length < 64)
  (h:∀ rows':List α,rows'.Perm rows->P (.fl (rows'.map fun r=>.tup (.str (name r)::rest r)))):lX [.lst (rows.map fun r=>.tup (.str (name r)::rest r))] P:=by
 unfold lX
 cases rows with
 | nil =>
  simp only [List.map_nil,cO]
  refine ⟨by decide,?_⟩
  have:=h [] (.refl _)
  have e:ji []=[]:=(cK []).eq_nil
  rw [e]; exact this
 | cons a rows =>
  simp only [List.map_cons,cO]
  have e:∀ l:List α,eG (l.map fun r=>D.tup (.str (name r)::rest r))=some (l.map name):=fun l=>by
   induction l with
   | nil=>rfl
   | cons b l ih=>exact (congrArg (Option.map (name b::·)) ih)
  have e1:=e (a::rows)
  rw [List.map_cons] at e1
  simp only [e1]
  refine ⟨⟨hn,by rw [List.length_map]; exact hl⟩,fun ds' hp=>?_⟩
  have hp':ds'.Perm ((a::rows).map fun r=>.tup (.str (name r)::rest r)):=hp
  obtain ⟨m,h1,h2⟩:=oy hp' (a::rows) rfl
  rw [h2]
  exact h m h1
def Il (fa:FE):FE:=fun ρ Q=>fa ρ fun r ρ1=>on1 ρ1 r fun d=>match d with
 | .int i=>Q (.ov (.fz (.int (-i)))) ρ1
 | _=>False
theorem GW {K:Frag}(ha:EF K μ ta fa):EF K μ (tUn (rU fun i=>.int (-i)) ta) (Il fa):=⟨by
 intro F Z H τ σ ρ A Q P vw R h q
 refine ha.h vw R h fun r1 ρ1 x F1 H1 A1 B1 h1 s1 R1 v1 f1=>?_
 obtain ⟨d,e1,h2⟩:=bS h1
 split at h2
 ·rename_i i
  exact ⟨i,(R1.acc v1 e1).int_eq,q _ _ _ _ _ _ _ h2 s1 R1 (.fz (.int _)) Fresh.nil⟩
 ·exact h2.elim⟩
theorem xx (xs:List α)(a b:Nat):cg xs (some (a:Int)) (some (b:Int))=(xs.drop (min a xs.length)).take (min b xs.length - min a xs.length):=by
 unfold cg
 rw [HT.sIx_nat,HT.sIx_nat]
theorem fG {x:D}{r:List D}(q:Q x):match atI (x::r) 0 with
  | some d=>Q d
  | none=>False:=by
 rw [Jc]; exact q
end L2
namespace KS
open PySem PySem.Spec PyProof.Rows
open PySem.W
section
variable {prog:Program} {w:World} {K:Type} [DecidableEq K] {knd:KeyKind prog w K} {A:Around} {E:Value->Shared->Prop} {s:Shared}
end
end KS
namespace L2
open PySem PySem.Spec PyProof.Rows
variable{X:Cx}{μ ixs T:List Nat}{H:Hp}{no n:Nat}{fg:FG}{tc:TT}{fc:FT}{te:TE}{fe:FE}{ρ:FSt}
section
variable {K:Frag} 
end
section
variable {K:Frag} 
def AK:D->Bool
 | .non=>true
 | _=>false
theorem Acc.isNon {F:Hp}{v:V}{d:D}(h:Acc K F H v d):decide (v=.non)=AK d:=by
 cases h with
 | fz h=>cases h <;> first | rfl | exact decide_eq_false (fun z=>nomatch z)
 | lst=>exact decide_eq_false (fun z=>nomatch z)
 | dct=>exact decide_eq_false (fun z=>nomatch z)
def GX:D->D->(OV->Prop)->Prop
 | d,.non,P=>P (.fz (.bl (AK d)))
 | _,_,_=>False
theorem na:OpF K J1 GX:=⟨by
 intro F H x y d e Q P s hx hy f n
 unfold GX at f
 split at f
 ·exact ⟨hy.non_eq,by rw [hx.isNon]; exact ay s n (.bl _) f⟩
 ·exact f.elim⟩
end
section
variable {K:Frag} 
end
section
variable {K:Frag} 
end
def kj (fg:FG)(ft:FT)(fe:FE)(P:List D->FSt->Prop)(sl:Nat)(all:List D):List D->List D->FSt->Prop
 | [],as,ρ=>unL ρ sl=some all/\P as ρ
 | d::ds,as,ρ=>unL ρ sl=some all/\fg d ρ fun ρ1=>ft ρ1 fun b ρ2=>br b (fe ρ2 fun r ρ3=>match fzR r ρ3 with
  | some (y,ρ4)=>as.length < sizeLine/\kj fg ft fe P sl all ds (as++[y]) ρ4
  | none=>False) (kj fg ft fe P sl all ds as ρ2)
@[irreducible] def ef (fg:FG)(ft:FT)(fe:FE)(P:List D->FSt->Prop)(sl:Nat)(all ds as:List D)(ρ:FSt):Prop:=kj fg ft fe P sl all ds as ρ
theorem iM (fg:FG)(ft:FT)(fe:FE)(P:List D->FSt->Prop)(sl:Nat)(all ds:List D):ef fg ft fe P sl all ds=kj fg ft fe P sl all ds:=by funext as ρ; unfold ef; rfl
theorem jF (fg:FG)(ft:FT)(fe:FE)(P:List D->FSt->Prop)(sl:Nat)(all as:List D)(ρ:FSt):ef fg ft fe P sl all [] as ρ=(unL ρ sl=some all/\P as ρ):=by rw [iM]; rfl
theorem jG (fg:FG)(ft:FT)(fe:FE)(P:List D->FSt->Prop)(sl:Nat)(all:List D)(d:D)(ds as:List D)(ρ:FSt):ef fg ft fe P sl all (d::ds) as ρ=(unL ρ sl=some all/\fg d ρ fun ρ1=>ft ρ1 fun b ρ2=>br b (fe ρ2 fun r ρ3=>match fzR r ρ3 with
  | some (y,ρ4)=>as.length < sizeLine/\ef fg ft fe P sl all ds (as++[y]) ρ4
  | none=>False) (ef fg ft fe P sl all ds as ρ2)):=by rw [iM,iM]; rfl
def oB (no i:Nat)(fg:FG)(ft:FT)(fe:FE):FE:=fun ρ Q=>match unL ρ i with
 | some ds=>jh (List.replicate no none++ρ) (ef fg ft fe (fun as ρ'=>Q (.ov (.fl as)) (ρ'.drop no)) (no+i) ds ds [])
 | none=>False
section
variable {K:Frag} 
theorem xy {i0 j0:Nat}{g:TG}(hj0:μ[j0]?=some i0)(hix:∀ j ∈ ixs,j < μ.length)(hg:GF K (muC no ixs μ) T g fg)(hT:∀ i ∈ T,i < no)
  (hc:TF K (muC no ixs μ) tc fc) (he:EF K (muC no ixs μ) te fe):EF K μ (eL no ixs (mK K (nE j0)) g tc te) (oB no i0 fg fc fe):=⟨by
 intro F Z H τ σ ρ A Q P vw R h q
 unfold oB at h
 split at h
 case h_2=>exact h.elim
 rename_i ds e0
 obtain ⟨a0,xs0,g1,g2,g3,_⟩:=R.mutL e0
 refine ⟨.ref a0,(vw j0 i0 hj0).1.trans g1,a0,rfl,⟨xs0,SqL.of g2⟩,?_⟩
 have h1:=h
 rw [cF] at h1
 have R1:=R
 have s1:Same F F:=Same.refl _
 have own:∀ {F' H' σ' ρ' A'},Rel K F' Z H' σ' ρ' A'->(∀ i,no<=i->σ'[i]?=(List.replicate no none++σ)[i]?)->unL ρ' (no+i0)=some ds->∃ xs,H' a0=some (.lst xs)/\Dens K F' xs ds:=by
  intro F' H' σ' ρ' A' R' k e
  obtain ⟨b,ys,q1,q2,q3,_⟩:=R'.mutL e
  rw [k (no+i0) (by nofun),List.getElem?_append_right (by simp),aay,aaM,g1] at q1
  cases q1
  exact ⟨ys,q2,q3⟩
 intro a ha
 have hF1:F a=none:=R1.fh.free ha
 have hZ1:Z a=none:=R1.zh.free ha
 have hA1:a ∉ A:=fun z=>by
  obtain ⟨u,hu⟩:=R1.sl.live a z
  rw [ha] at hu; cases hu
 have R1':Rel K F Z (upd H a (.lst [])) (List.replicate no none++σ) (List.replicate no none++ρ) A:=by
  have:=R1.write (o:=.lst []) hA1 hF1 hZ1
  exact ⟨this.sl.none_app no,this.nd,this.fr,this.fh,this.zh,this.dj⟩
 have hfin:∀ F' H' σ' ρ' A' acc as,Same F F'->Rel K F' Z H' σ' ρ' A'->(∀ i,no<=i->σ'[i]?=(List.replicate no none++σ)[i]?)->H' a=some (.lst acc)->F' a=none->a ∉ A'->Dens K F' acc as->P (.ov (.fl as)) (ρ'.drop no)->Q (.ref a) H':=by
  intro F' H' σ' ρ' A' acc as s' R' k ha' hF' hA' dn p
  obtain ⟨A2,B2,e2,sl2⟩:=R'.sl.dropN no
  have es:σ'.drop no=σ:=by
   apply List.ext_getElem?
   intro i
   rw [List.getElem?_drop,k (no+i) (by nofun),List.getElem?_append_right (by simp),aay,aaM]
  rw [es] at sl2
  have m2:∀ b ∈ A2,b ∈ A':=fun b hb=>by rw [e2]; exact List.mem_append.mpr (.inr hb)
  have R2:Rel K F' Z H' σ (ρ'.drop no) A2:=⟨sl2,by have:=R'.nd; rw [e2,abt] at this; exact this.2.1,fun b hb=>R'.fr b (m2 b hb),R'.fh,R'.zh,R'.dj⟩
  exact q _ _ _ _ _ _ [a] p (s1.trans s') R2 (.fl ha' dn) ⟨by simp,fun b hb=>by
   have:b=a:=(by exists hb)
   subst this
   exact ⟨hF',hZ1,fun z=>hA' (m2 _ z)⟩⟩
 refine ⟨fun i k acc τ' H'=>k=ds.length - i/\i<=ds.length/\∃ F' ρ' A' σ' as,Same F F'/\Rel K F' Z H' σ' ρ' A'/\View (muC no ixs μ) τ' σ'/\(∀ i,no<=i->σ'[i]?=(List.replicate no none++σ)[i]?)/\H' a=some (.lst acc)/\F' a=none/\a ∉ A'/\Dens K F' acc as /\
   ef fg fc fe (fun as ρ'=>P (.ov (.fl as)) (ρ'.drop no)) (no+i0) ds (ds.drop i) as ρ',
  ⟨_,rfl,aam _,F,_,A,_,[],Same.refl _,R1',iB vw hix,fun _ _=>rfl,ao,hF1,hA1,.nil,by rw [aaA]; exact h1⟩,?_⟩
 rintro i k acc τ' H' ⟨rfl,hle,F',ρ',A',σ',as,s',R',vw',kp,hD,hFD,hAD,dn,h'⟩
 by_cases hlt:i < ds.length
 ·rw [aaw hlt,jG] at h'
  obtain ⟨hu,h'⟩:=h'
  obtain ⟨ys,hy1,hy2⟩:=own R' kp hu
  refine .inr ⟨(by
   obtain ⟨y,z1,z2⟩:=hy2.get (List.getElem?_eq_getElem hlt)
   exact ⟨ys,y,SqL.of hy1,z1⟩),fun acc τ' H'=>∃ F' ρ' A' σ' as,Same F F'/\Rel K F' Z H' σ' ρ' A'/\View (muC no ixs μ) τ' σ'/\(∀ i,no<=i->σ'[i]?=(List.replicate no none++σ)[i]?)/\H' a=some (.lst acc)/\F' a=none/\a ∉ A'/\Dens K F' acc as /\
   ef fg fc fe (fun as ρ'=>P (.ov (.fl as)) (ρ'.drop no)) (no+i0) ds (ds.drop (i+1)) as ρ',fun acc' σ2 H2 z=>⟨_,by nofun,rfl,hlt,z⟩,fun x H2 y=>?_⟩
  obtain ⟨rfl,y⟩:=y
  obtain ⟨d,hd,dx⟩:=hy2.get' (y ys (SqL.of hy1))
  rw [List.getElem?_eq_getElem hlt] at hd
  cases hd
  refine hg.h vw' R' dx h' fun τ2 σ2 ρ2 A2 p2 vw2 R2 k2 kl2 _ m2=>?_
  have kp2:∀ i,no<=i->σ2[i]?=(List.replicate no none++σ)[i]?:=fun i hi=>by
   rw [k2 i fun z=>by have:=hT i z; nofun]; exact kp i hi
  have fD:Fresh F' Z A2 [a]:=⟨by simp,fun b hb=>by
   have:b=a:=(by exists hb)
   subst this
   exact ⟨hFD,hZ1,fun z=>hAD (m2 _ z)⟩⟩
  obtain ⟨Z',sz,R2',zl,back⟩:=R2.hold (B:=[a]) (fun b hb=>by
   have:b=a:=(by exists hb)
   subst this
   exact ⟨_,hD⟩) fD
  refine hc.h vw2 R2' p2 fun b ρ3 F3 H3 A3 p3 s3 R3=>?_
  cases b with
  | false =>
   replace p3:=qY p3
   rw [if_neg Bool.false_ne_true]
   obtain ⟨R3',f3,k3⟩:=back _ _ _ _ s3 R3
   have fa:=f3.fr a (by simp)
   exact ⟨F3,ρ3,A3,σ2,as,s'.trans s3,R3',vw2,kp2,k3 a _ (by simp) hD,fa.1,fa.2.2,dn.mono s3,p3⟩
  | true =>
   replace p3:=qX p3
   rw [if_pos rfl]
   refine he.h vw2 R3 p3 fun r ρ4 v F4 H4 A4 B4 p4 s4 R4 v4 f4=>?_
   split at p4
   ·rename_i y ρ5 e5
    obtain ⟨F5,A5,s5,R5,dy,_,_⟩:=R4.frz v4 f4 e5
    obtain ⟨R5',f5,k5⟩:=back _ _ _ _ ((s3.trans s4).trans s5) R5
    have fa:=f5.fr a (by simp)
    refine ⟨k5 a _ (by simp) hD,by rw [dn.length]; exact p4.1,F5,ρ5,A5,σ2,as++[y],((s'.trans s3).trans s4).trans s5,R5'.write fa.2.2 fa.1 hZ1,vw2,kp2,ao,fa.1,fa.2.2,(dn.mono ((s3.trans s4).trans s5)).snoc dy,p4.2⟩
   ·exact p4.elim
 ·have e:i=ds.length:=by nofun
  subst e
  rw [aa2,jF] at h'
  obtain ⟨hu,h'⟩:=h'
  obtain ⟨ys,hy1,hy2⟩:=own R' kp hu
  exact .inl ⟨⟨ys,SqL.of hy1,by rw [hy2.length]; exact aac _⟩,hfin _ _ _ _ _ _ _ s' R' kp hD hFD hAD dn h'⟩⟩
theorem tQ {j:Nat}{g:TG}(h:j < n)(hix:∀ j ∈ ixs,j < (List.range n).length)(hg:GF K (muC no ixs (List.range n)) T g fg)(hT:∀ i ∈ T,i < no)
  (hc:TF K (muC no ixs (List.range n)) tc fc) (he:EF K (muC no ixs (List.range n)) te fe):EF K (List.range n) (eL no ixs (mK K (nE j)) g tc te) (oB no j fg fc fe):=xy (by simp [h]) hix hg hT hc he
theorem tR {ft:FT}{P:List D->FSt->Prop}{sl:Nat}{all as0:List D}(I:Nat->List D->FSt->Prop)(hu:∀ i as ρ,I i as ρ->unL ρ sl=some all)(h0:I 0 as0 ρ)
  (hs:∀ (i:Nat) (d:D) (as:List D) (ρ:FSt) (R:List D->FSt->Prop),all[i]?=some d->I i as ρ->(∀ as' ρ',I (i+1) as' ρ'->R as' ρ') ->
   fg d ρ fun ρ1=>ft ρ1 fun b ρ2=>br b (fe ρ2 fun r ρ3=>match fzR r ρ3 with
    | some (y,ρ4)=>as.length < sizeLine/\R (as++[y]) ρ4
    | none=>False) (R as ρ2))
  (hd:∀ as ρ,I all.length as ρ->P as ρ):ef fg ft fe P sl all all as0 ρ:=by
 have main:∀ (k i:Nat) (as:List D) (ρ:FSt),i+k=all.length->I i as ρ->ef fg ft fe P sl all (all.drop i) as ρ:=by
  intro k
  induction k with
  | zero =>
   intro i as ρ e h
   have:i=all.length:=by nofun
   subst this
   rw [aa2,jF]
   exact ⟨hu _ _ _ h,hd as ρ h⟩
  | succ k ih =>
   intro i as ρ e h
   have hi:i < all.length:=by nofun
   rw [aaw hi,jG]
   exact ⟨hu _ _ _ h,hs i all[i] as ρ _ (List.getElem?_eq_getElem hi) h fun as' ρ' h'=>ih (i+1) as' ρ' (by nofun) h'⟩
 have:=main all.length 0 as0 ρ (by nofun) h0
 rwa [aaA] at this
end
section
variable {K:Frag}
end
section
variable {K:Frag}
end
section
variable  {pins:List (Addr×Obj)} {σ:St}  {s:Shared} {tg:Expr}
end
section
variable {K:Frag} 
end
theorem km {st:Stmt}:BS X st re:=⟨we⟩
def jH:FS:=fun _ _=>False
theorem oD {K:Frag}{m:List Nat}:SF K n m re jH:=⟨fun _ _ _ h=>h.elim⟩
theorem gr {c:FT}{f g:FS}{E:FEnds}(I:FSt->Prop)(rest:∀ ρ,I ρ->E.nx ρ)(h:(∀ ρ,I ρ->E.nx ρ)->c ρ fun b ρ1=>br b (f E ρ1) (g E ρ1)):fIf c f g E ρ:=bd (h rest)
section
variable {K:Frag} 
end
end L2
namespace L2
open PySem PySem.Spec PyProof.Rows PyProof.Rows
variable{C:Addr}{h:Heap}{P:Program}{w:World}{H:Hp}{pins:List (Addr×Obj)}{σ:St}{s:Shared}{t u:TS}{f:FS}
abbrev bmV:List Value:=[.type "ValueError", .type "Exception", .type "BaseException", .type "object"]
def en (K:Frag)(C:Addr):Prop:=PySem.W.excIn K C bmV "ValueError.__new__" = true
def exP (f:Addr->List Value->Option Value->Option Value->Option Value->Option Value->String->Option Value->Bool)(m:List Value)(sl:List (Option Value)):Prop:=∃ C bm a0 a1 a2 a3 n a5,m=.ref C::bm/\sl=[a0,a1,a2,a3,some (.builtin n),a5]/\f C bm a0 a1 a2 a3 n a5=true
def exQ (f:Option Addr->ClassData->Array (Option Value)->Bool)(o:Option Obj):Prop:=∃ dd cd sl,o=some ⟨.type "type", dd,.cls cd,sl⟩/\f dd cd sl=true
theorem GY {m:List Value}{sl:List (Option Value)}{f:Addr->List Value->Option Value->Option Value->Option Value->Option Value->String->Option Value->Bool}(q:PySem.W.excIn.match_1 (fun _ _=>Bool) m sl f (fun _ _=>false)=true):exP f m sl:=by
 obtain _ | ⟨v,bm⟩:=m
 ·exact (Bool.false_ne_true q).elim
 cases v
 case ref C =>
  obtain _ | ⟨a0,sl⟩:=sl
  ·exact (Bool.false_ne_true q).elim
  obtain _ | ⟨a1,sl⟩:=sl
  ·exact (Bool.false_ne_true q).elim
  obtain _ | ⟨a2,sl⟩:=sl
  ·exact (Bool.false_ne_true q).elim
  obtain _ | ⟨a3,sl⟩:=sl
  ·exact (Bool.false_ne_true q).elim
  obtain _ | ⟨a4,sl⟩:=sl
  ·exact (Bool.false_ne_true q).elim
  obtain _ | a4:=a4
  ·exact (Bool.false_ne_true q).elim
  cases a4
  case builtin n =>
   obtain _ | ⟨a5,sl⟩:=sl
   ·exact (Bool.false_ne_true q).elim
   obtain _ | _:=sl
   ·exact ⟨_,_,_,_,_,_,_,_,rfl,rfl,q⟩
   ·exact (Bool.false_ne_true q).elim
  all_goals exact (Bool.false_ne_true q).elim
 all_goals exact (Bool.false_ne_true q).elim
theorem oE {o:Option Obj}{f:Option Addr->ClassData->Array (Option Value)->Bool}(q:PySem.W.excIn.match_6 (fun _=>Bool) o f (fun _=>false)=true):exQ f o:=by
 obtain _ | ⟨c,dd,data,sl⟩:=o
 ·exact (Bool.false_ne_true q).elim
 cases c
 case type t =>
  by_cases ht:t = "type"
  ·subst ht
   cases data
   case cls cd=>exact ⟨_,_,_,rfl,q⟩
   all_goals exact (Bool.false_ne_true q).elim
  ·unfold PySem.W.excIn.match_6 at q
   change dite (t = "type") _ _=true at q
   rw [dif_neg ht] at q
   exact (Bool.false_ne_true q).elim
 all_goals exact (Bool.false_ne_true q).elim
theorem GZ {dd:Option Addr}{cd:ClassData}{sl:Array (Option Value)}{bm:List Value}{a0 a1 a2 a3 a5:Option Value}{n:String}(e1:cd.mro=.ref C::bm)(e2:sl.toList=[a0,a1,a2,a3,some (.builtin n),a5])(e3:cd.hasDel=false) :
  (⟨.type "type", dd,.cls cd,sl⟩:Obj)=excClassObj cd.name cd.qualname C cd.ns cd.bases bm cd.hasDict cd.slotNames cd.subclasses cd.abstract cd.collection dd a0 a1 a2 a3 a5 n:=by
 cases cd; cases sl; cases e1; cases e2; cases e3; rfl
theorem Dd {K:Frag}(X:K.In h)(q:en K C):∃ (bm:List Value) (N:Addr) (nm qn:Str) (bs:List Value) (hd:Bool) (sn:List Str) (sub:List Value) (ab:Bool) (col:Option Bool) (dd:Option Addr) (k0 k1 k2 k3 k5:Option Value) (mN:Str->Option Value),
  h.get? C=some (excClassObj nm qn C N bs bm hd sn sub ab col dd k0 k1 k2 k3 k5 "ValueError.__new__")/\h.Ns N mN/\mN "__init__" = none/\OwnTail h bmV bm:=by
 obtain ⟨dd,cd,sl,lk,q⟩:=oE q
 obtain ⟨C2,bm,a0,a1,a2,a3,n,a5,e1,e2,q⟩:=GY q
 have w1:=Bool.and_eq_true_iff.mp q
 have w2:=Bool.and_eq_true_iff.mp w1.1
 have w3:=Bool.and_eq_true_iff.mp w2.1
 have w4:=Bool.and_eq_true_iff.mp w3.1
 have w5:=Bool.and_eq_true_iff.mp w4.1
 have f1:C2=C:=eq_of_beq w5.1
 have f2:n = "ValueError.__new__" := eq_of_beq w5.2
 exact ⟨_,_,_,_,_,_,_,_,_,_,_,_,_,_,_,_,_,X _ _ (lk.trans (congrArg some (GZ (f1 ▸ e1) (f2 ▸ e2) ((aak _).mp w4.2)))),.of_isNs (PySem.W.isNs_of_in X w2.2),PySem.W.nsMap_none_of_in X w2.2 (eq_of_beq w1.2),PySem.W.tail_of_in X w3.2⟩
def CXr (P:Program)(w:World):CXT:=fun outer H s E e s'=>∃ (ea C:Addr) (a0:Value) (B:Heap) (H':Hp),e=.ref ea/\Heap.FlyingW B outer ea (.ref C) a0 s'.heap/\HOk P w H' B/\Same H H' /\
 (∀ b o,s.heap.get? b=some o->H b=none->b ∉ frs outer->B.get? b=some o)/\(∀ b o,s.heap.get? b=some o->H b=none->H' b=none)/\(∀ b ∈ frs outer,∀ o,s.heap.get? b=some o->∃ sl,s'.heap.get? b=some { o with slots:=sl }) /\
 s'.os=s.os/\AllBare s'.gens/\H' ea=none/\s.heap.get? ea=none/\E (.ref C) none H'
theorem iO {a:Addr}{o:HO}(x:ObjOk P w H h a o):∃ u,h.get? a=some u:=by
 cases o with
 | lst xs=>obtain ⟨_,_,_,_,e⟩:=x; exact ⟨_,e⟩
 | tup xs=>obtain ⟨_,_,_,⟨_,e,_⟩⟩:=x; exact ⟨_,e⟩
 | dK kvs=>obtain ⟨_,_,_,_,o,_,_,e,_⟩:=x; exact ⟨_,e⟩
 | dT kvs=>obtain ⟨_,_,_,_,o,_,_,e,_⟩:=x; exact ⟨_,e⟩
 | set S n=>obtain ⟨o,_,_,_,e,_⟩:=x; exact ⟨_,e⟩
 | ins C dx fs=>obtain ⟨_,_,_,e,_⟩:=x; exact ⟨_,e⟩
 | own y=>exact x
 | xd fs=>obtain ⟨_,⟨_,_,_,e,_⟩,_⟩:=x; exact ⟨_,e⟩
 | rng lo hi=>obtain ⟨_,_,_,e⟩:=x; exact ⟨_,e⟩
 | frz ob u=>obtain ⟨e,_⟩:=x; exact ⟨_,e⟩
 | tbl ps=>exact ⟨_,(show h.get? a=some _ from x)⟩
 | met f y=>exact ⟨_,(show h.get? a=some _ from x)⟩
 | ext φ=>obtain ⟨_,e,_⟩:=x; exact e
section
variable {X:Cx}    
theorem xz {x:Str}{e:Expr}{np cpos pos:Pos}{te:TE}(G:Hp->Prop)(hc:X.calm=true)(hm:X.mg x=some (.ref C))(hx:en X.K C)(he:PE X e te)
  (hE:∀ pins σ H s h' ea args,Inv X pins σ H s->G H->Heap.MadeExcOf s.heap h' ea (.ref C) args->X.xe (.ref ea) { s with heap:=h' })
  (hg:autoParam (Gl X x) L2.aR._auto_1) (hdb:autoParam ((x == ("__debug__" : Str))=false) L2.aD._auto_1) (hs:autoParam (starEach [e] X.env=[(false,eval e X.env)]) L2.aR._auto_1) :
  PS X (.Raise (some (.Call (.Name x np) [e] [] cpos)) none pos) (fun _ σ H=>te σ H fun x H'=>[x].length=1/\G H'):=by
 intro pins s σ H D I h
 obtain ⟨bm,N,nm,qn,bs,hd,sn,sub,ab,col,dd,k0,k1,k2,k3,k5,mN,hC,hN,hni,T⟩:=Dd I.mod.kin hx
 refine wpAny_Raise_call_subT (C:=C) (nm:=nm) (q:=qn) (N:=N) (bs:=bs) (bm:=bm) (hdct:=hd) (sn:=sn) (sub:=sub) (ab:=ab) (col:=col) (dd:=dd) (k0:=k0) (k1:=k1) (k2:=k2) (k3:=k3) (k5:=k5)
  PySem.F.excBase_ValueError (mN:=mN) (T.hasType PySem.F.excBase_ValueError.hasBase) (I.ok.hd hc) (by rw [hs]; rfl) hni (hV I hg hm ⟨rfl,?_⟩ hdb)
 have ha:PA X [e] (dI te la):=rF he Ag hs
 have hp:=ha cpos pins s σ H (fun vs H'=>vs.length=1/\G H') I h
 rw [hs] at hp ⊢
 refine abx (thn hp fun us s2 ⟨vs,H2,I2,r2,hl,g2⟩=>?_)
 exact ⟨rfl,by rw [← r2.length,hl]; decide,I2.bk _ _ hC,hN.keeps I2.bk,T.keeps I2.bk,fun h' ea hm'=>hE pins σ H2 s2 h' ea us I2 g2 hm'⟩
theorem iP {base h:Heap}{as:List Addr}:∀ {l:List Env},h.FunFrames base l->(∀ b ∈ frs l,b ∈ as)->h.FunFrames (PySem.W.hideAll h as) l
 | [],_,_=>trivial
 | env::r,⟨q1,⟨L,o,q2,_,q3,q4⟩,q5⟩,hin=>⟨q1,⟨L,o,q2,PySem.W.hideAll_none _ (hin L (by unfold frs; rw [aaz,q2]; exact aad ..)),q3,q4⟩,iP q5 fun b hb=>hin b (by
  unfold frs
  rw [aaz,q2]
  exact aag _ hb)⟩
theorem oF {as:List Addr}(x:HOk P w H h)(n:∀ b ∈ as,H b=none):HOk P w H (PySem.W.hideAll h as):=fun a o e =>
 (x a o e).stay (fun b u hb q=>abD _ q fun z=>by
  have hn:=n b z
  rcases hb with hb | hb
  ·rw [hb,e] at hn; cases hn
  ·rw [hb] at hn; cases hn) (fun _ q=>q) fun _ _ q=>q
theorem l0 {K:Frag}{mg:Str->Option Value}{base:Heap}{N:List Str}{qual:Str}{scope:Scope}{f:Addr}{cd:Value}{A:Around}{outer:List Env}{s0:Shared}{H0:Hp}{E:XK}{ea:Addr}{h':Heap}{args:List Value}
  (hE:∀ H',Same H0 H'->E (.ref C) none H') (I:Inv (dL (CXr P w) P w K mg base N qual scope f cd A outer s0 H0 E) pins σ H s) (g:Same H0 H) (m:Heap.MadeExcOf s.heap h' ea (.ref C) args) :
  (dL (CXr P w) P w K mg base N qual scope f cd A outer s0 H0 E).xe (.ref ea) { s with heap:=h' }:=by
 have hfr:(A.deeper (envOfC qual scope s0.heap.objs.size f cd)).frames=some (envOfC qual scope s0.heap.objs.size f cd::outer):=I.ok.frames
 have hst:=I.stack
 have hsf:=I.stkFree
 have hbase:Un (frs outer) [] H0 H s0.heap s.heap:=I.base
 have hfunO:s0.heap.FunFrames base outer:=I.ok.funs
 have hfrf:∀ b ∈ frs outer,H0 b=none:=I.ok.frf
 show wpAny (model P w) (A.deeper (envOfC qual scope s0.heap.objs.size f cd)) (leaving (envOfC qual scope s0.heap.objs.size f cd) (.ref ea)) (fun _ s''=>CXr P w outer H0 s0 E (.ref ea) s'') (fun e' s''=>CXr P w outer H0 s0 E e' s'') { s with heap:=h' }
 have hEa:s.heap.get? ea=none:=m.new
 have hLs:s0.heap.objs.size<=(envOfC qual scope s0.heap.objs.size f cd).locals:=I.ok.above
 refine wpAny_leaves_madeW (base:=PySem.W.hideAll s.heap (frs (envOfC qual scope s0.heap.objs.size f cd::outer))) hfr rfl (fun b o q=>aa5 _ q) (iP hst fun _ q=>q) m fun h2 t fl tup tn up=>?_
 refine ⟨ea,C,.ref t,_,H,rfl,fl,oF I.hok hsf,g,fun b o q n hb=>?_,fun b o q n=>hbase.free b o q n (by simp),fun b hb o q=>?_,I.os,I.bare,?_,?_,hE H g⟩
 ·refine abD _ (hbase.keep b o q n hb (by simp)) fun z=>?_
  unfold frs at z
  rw [aaz] at z
  rcases List.mem_cons.mp z with e | e
  ·have hlt:=aaf q
   rw [show b=s0.heap.objs.size from e] at hlt
   exact absurd hlt (aaI _)
  ·exact hb e
 ·obtain ⟨sl,q1⟩:=hbase.slot b o q (hfrf b hb) hb (by simp)
  obtain ⟨_,o',q2,q3⟩:=hfunO.mem hb
  rw [q] at q2
  cases q2
  obtain ⟨sl2,q4⟩:=up b _ (m.keeps b _ q1) q3
  exact ⟨sl2,q4⟩
 ·cases q:H ea with
  | none=>rfl
  | some u =>
   have:=I.hok.lt q
   obtain ⟨o,ho⟩:=(show ∃ o,s.heap.get? ea=some o from iO (I.hok ea u q))
   rw [hEa] at ho; cases ho
 ·cases q:s0.heap.get? ea with
  | none=>rfl
  | some o =>
   obtain ⟨o',ho'⟩:=hbase.there ea o q (by simp)
   rw [hEa] at ho'; cases ho'
end
structure SFX (K:Frag)(n:Nat)(m:List Nat)(G:Hp->Prop)(t:TS)(f:FS):Prop where
 h:∀ {F Z H:Hp} {σ0 σ:St} {ρ:FSt} {A:List Addr} {D:Ends} {fD:FEnds},(∀ H',Same F H'->Same Z H'->G H')->Rel K F Z H σ ρ A->Pin n m σ0 σ->EndsOk K n m F Z σ0 D fD->f fD ρ->t D σ H
def l5:FS:=fun _ _=>True
section
variable {K:Frag} {n:Nat} {m:List Nat} {G:Hp->Prop}
theorem SF.x (h:SF K n m t f):SFX K n m G t f:=⟨fun _=>h.h⟩
theorem fU {v:V}:SFX K n m G (fun _ σ H=>tC v σ H fun x H'=>[x].length=1/\G H') l5:=⟨fun g R _ _ _=>⟨rfl,g _ R.fh R.zh⟩⟩
theorem dA {g:FS}(h1:SFX K n m G t f)(h2:SFX K n m G u g):SFX K n m G (EK t u) (ap f g):=⟨fun {F Z H σ0 σ ρ A D fD} gg R p E h =>
 h1.h (fD:={ fD with nx:=fun ρ'=>jh ρ' (g fD) }) gg R p ⟨fun F' H' σ' ρ' A' s R' p' q=>h2.h (fun H2 a b=>gg H2 (s.trans a) b) R' p' (E.mono s) ((cF ρ' (g fD)).mp q),E.rt,E.bk,E.ct⟩ h⟩
theorem oG {c:TT}{fc:FT}{g:FS}(hc:TF K (List.range n) c fc)(h1:SFX K n m G t f)(h2:SFX K n m G u g):SFX K n m G (EM c t u) (fIf fc f g):=⟨fun {F Z H σ0 σ ρ A D fD} gg R p E h =>
 hc.h (P:=fun b ρ1=>br b (f fD ρ1) (g fD ρ1)) (View.id p.1) R (by unfold fIf at h; exact h) fun b ρ1 F1 H1 A1 q s R1=>by
  cases b with
  | true=>exact h1.h (fun H2 a b=>gg H2 (s.trans a) b) R1 p (E.mono s) (qX q)
  | false=>exact h2.h (fun H2 a b=>gg H2 (s.trans a) b) R1 p (E.mono s) (qY q)⟩
end
def spR (K:Frag)(cr:List D->Prop)(C:Addr):Sp:=fun vs H Q E=>∃ (F:Hp) (ds:List D),Same F H/\Dens K F vs ds/\cr ds/\∀ H',Same H H'->E (.ref C) none H'
theorem tS {K:Frag}{F:Hp}{vs:List V}{ds:List D}(h:Dens K F vs ds):Ows K F H vs (ds.map .fz) [] :=
 Dens.rec (motive_1:=fun _ _ _=>True) (motive_2:=fun vs ds _=>Ows K F H vs (ds.map .fz) []) trivial (fun _=>trivial) (fun _=>trivial) (fun _=>trivial) (fun _=>trivial) (fun _ _ _=>trivial) (fun _ _ _=>trivial) (fun _ _ _ _=>trivial) (fun _ _ _=>trivial) .nil (fun h _ _ t=>.cons (A:=[]) (B:=[]) (.fz h) t) h
end L2
namespace L2
open PySem PySem.Spec PyProof.Rows
variable{X:Cx}{pins:List (Addr×Obj)}{σ:St}{H:Hp}{s:Shared}{C f:Addr}{e:Expr}{pos:Pos}{k:Nat}{fd:FuncData}{ps:List Str}{cr:List D->Prop}{E:XK}{Q W:Value->Shared->Prop}
theorem g0 {x:Str}{np cpos:Pos}{te:TE}(G:Hp->Prop)(hc:X.calm=true)(hm:X.mg x=some (.ref C))(hx:en X.K C)(he:BE X e te)
  (hE:∀ pins σ H s h' ea args,Inv X pins σ H s->G H->Heap.MadeExcOf s.heap h' ea (.ref C) args->X.xe (.ref ea) { s with heap:=h' })
  (hg:Gl X x) (hdb:(x == ("__debug__" : Str))=false) (hs:starEach [e] X.env=[(false,eval e X.env)]) :
  BS X (.Raise (some (.Call (.Name x np) [e] [] cpos)) none pos) (fun _ σ H=>te σ H fun x H'=>[x].length=1/\G H'):=⟨xz G hc hm hx he.h hE hg hdb hs⟩
theorem tT {us:List Value}{vs:List V}(F:FnOk X.prog X.w X.K X.mg X.base (CXr X.prog X.w) k f fd ps (spR X.K cr C))(hr:Room k X.A)(hb:Binds X.K fd ps [])
  (I:Inv X pins σ H s) (r:Vals vs us) (h:spR X.K cr C vs H (fun _ _=>False) E) (hW:∀ e s',CXr X.prog X.w X.stack H s E e s'->W e s'):wpAny (model X.prog X.w) X.A (call (.ref f) us) Q W s:=by
 have hl:(us++[]).length=ps.length:=by rw [aaJ,← r.length]; exact F.len _ _ _ _ h
 have hbt:=hb s us I.kIn hl
 rw [aaJ] at hbt
 refine wpAny_call (codeAny_mono (F.run X.A X.stack s H ⟨us,[]⟩ us vs _ E hr I.env0 hbt r h) fun r s' hq=>?_)
 cases r with
 | error e=>exact hW e s' hq
 | ok fl =>
  cases fl with
  | ret u =>
   obtain ⟨v,H',_,_,_,_,_,q⟩:=(show CE _ _ _ _ _ _ _ _ from hq)
   exact q.elim
  | next=>exact False.elim hq
  | brk=>exact False.elim hq
  | cont=>exact False.elim hq
theorem qz {x:Str}{p:Pos}{es:List Expr}{t:TA}(F:FnOk X.prog X.w X.K X.mg X.base (CXr X.prog X.w) k f fd ps (spR X.K cr C))(hr:Room k X.A)(hg:Gl X x)(hm:X.mg x=some (.ref f))(hk:PySem.W.keepIn X.K (.ref f)=true)(hb:Binds X.K fd ps [])
  (ha:PA X.nox (e::es) t) (I:Inv X pins σ H s) (Z:Hp->Prop) (h:t σ H fun vs H1=>spR X.K cr C vs H1 (fun _ _=>False) E/\Same H H1/\Z H1) (hW:∀ H1 s1 e s',Inv X pins σ H1 s1->Same H H1->Z H1->CXr X.prog X.w X.stack H1 s1 E e s'->W e s')
  (hdb:autoParam ((x == ("__debug__" : Str))=false) L2.aD._auto_1) (he:autoParam (starEach (e::es) X.env=(false,eval e X.env)::starEach es X.env) L2.aR._auto_1) (hpl:autoParam ((backTo pos (starEach es X.env)).any (·.1)=false) L2.aR._auto_1) :
  wpAny (model X.prog X.w) X.A (eval (.Call (.Name x p) (e::es) [] pos) X.env) Q W s:=by
 refine wpAny_Call_Name_kw (hV I hg hm ?_ hdb)
 refine PySem.W.callWith_K (h₀:=X.base) I.ok.mod.kin hk (aaG (ha pos pins s σ H _ (I.wish _) h) (fun us s1 ⟨vs,H1,I1,r,q,sm,z⟩=>⟨I1.unwish.kIn,?_⟩) fun _ _ z=>False.elim z) he hpl
 exact tT F hr hb I1.unwish r q fun e s' c=>hW H1 s1 e s' I1.unwish sm z c
theorem Inv.unbind {n:Str}{i:Nat}{v:Option Value}{m:Str->Option Value}{h':Heap}{tk:Nat}(I:Inv X pins σ H s)(hn:s.heap.Ns X.env.locals m)(hi:X.N[i]?=some n)(hloc:X.env.scope.names.lookup n=some .local)(hN:X.N.Nodup)(hm:∀ (j:Nat) (y:Str) (v':V),X.N[j]?=some y->σ[j]?=some (some v')->Vis X.env.scope y->∃ u,RelV v' u/\JK X.env s.heap m y u)
  (hn':h'.Ns X.env.locals (fun x=>if x=n then v else m x)) (sb:Heap.SameBut X.env.locals s.heap h'):Inv X pins (σ.set i none) H { s with heap:=h',toks:=tk }:=by
 have neL:∀ b o,X.s₀.heap.get? b=some o->b≠X.env.locals:=fun b o e=>aal (aan (aaf e) I.ok.above)
 obtain ⟨oL,_,_,hoL,_⟩:=id hn
 refine ⟨I.ok,I.os,I.bare,⟨fun b o e q hb hx=>(sb.2 b (neL b o e)).trans (I.base.keep b o e q hb hx),fun b o e q hb hx=>?_,I.base.free,fun b o e hx=>?_,I.base.tups,I.base.frzs,I.base.tbls⟩,⟨_,hn',fun j y v' e1 e2 e3=>?_⟩,fun y c e=>?_,I.free,I.freeC,fun p hp=>?_,fun b u e=>?_,by rw [aaD]; exact I.len⟩
 ·obtain ⟨sl,z⟩:=I.base.slot b o e q hb hx
  exact ⟨sl,(sb.2 b (neL b o e)).trans z⟩
 ·obtain ⟨o',z⟩:=I.base.there b o e hx
  exact ⟨o',(sb.2 b (neL b o e)).trans z⟩
 ·by_cases hj:i=j
  ·subst hj
   rw [List.getElem?_set_self (by rw [I.len]; exact (List.getElem?_eq_some_iff.mp hi).1)] at e2
   cases e2
  ·rw [List.getElem?_set_ne hj] at e2
   obtain ⟨u,r,l⟩:=hm j y v' e1 e2 e3
   refine ⟨u,r,?_⟩
   rcases l with ⟨k,l⟩ | ⟨k,c,l1,l2⟩
   ·by_cases hy:y=n
    ·subst hy
     obtain ⟨h1,h2⟩:=List.getElem?_eq_some_iff.mp hi
     obtain ⟨h3,h4⟩:=List.getElem?_eq_some_iff.mp e1
     exact absurd ((List.getElem_inj hN).mp (h2.trans h4.symm)) hj
    ·exact .inl ⟨k,by show (if y=n then v else m y)=some u; rw [if_neg hy]; exact l⟩
   ·obtain ⟨o,ho,hd⟩:=l2
    exact .inr ⟨k,c,l1,o,(sb.2 c (I.cne y c l1)).trans ho,hd⟩
 ·obtain ⟨v0,o,ho,hd⟩:=I.cell y c e
  exact ⟨v0,o,(sb.2 c (I.cne y c e)).trans ho,hd⟩
 ·obtain ⟨q1,q2,q3,q4⟩:=I.pin p hp
  exact ⟨(sb.2 p.1 q3).trans q1,q2,q3,q4⟩
 ·refine (I.hok b u e).stay (fun c w' hc q=>(sb.2 c ?_).trans q) (fun _ q=>q) fun _ _ q=>q
  rintro rfl
  rcases hc with z | z
  ·rw [← z,I.free] at e; cases e
  ·rw [I.free] at z; cases z
def l6 (a C:Addr):HO:=.ext fun h=>∃ o,h.get? a=some o/\o.cls=.ref C/\∃ vs,o.data=.fields vs
theorem CXr.caught {P:Program}{w:World}{outer:List Env}{E:XK}{e:Value}{s':Shared}{ea:Addr}{a0:Value}{B h5:Heap}{H':Hp}{base:Heap}(hst:s.heap.FunFrames base outer)(fl:Heap.FlyingW B outer ea (.ref C) a0 h5)(hok:HOk P w H' B)(same:Same H H')
  (bk:∀ b o,s.heap.get? b=some o->H b=none->b ∉ frs outer->B.get? b=some o) (fre:∀ b o,s.heap.get? b=some o->H b=none->H' b=none) (slt:∀ b ∈ frs outer,∀ o,s.heap.get? b=some o->∃ sl,s'.heap.get? b=some { o with slots:=sl })
  (n1:H' ea=none) (n2:s.heap.get? ea=none) (up:s'.heap.UpToSlots h5) (hfree:∀ b ∈ frs outer,H b=none):Un (frs outer) [] H H' s.heap h5/\HOk P w H' h5:=by
 have hok5:HOk P w H' h5:=hok.kept fl.1
 have slot:∀ b ∈ frs outer,∀ o,s.heap.get? b=some o->∃ sl,h5.get? b=some { o with slots:=sl }:=fun b hb o q=>by
  obtain ⟨_,o',q2,q3⟩:=hst.mem hb
  rw [q] at q2
  cases q2
  obtain ⟨sl1,q4⟩:=slt b hb o q
  obtain ⟨sl2,q5⟩:=up b _ q4 q3
  exact ⟨sl2,q5⟩
 refine ⟨⟨fun b o q n hb _=>fl.1 b o (bk b o q n hb),fun b o q n hb _=>slot b hb o q,fun b o q n _=>fre b o q n,fun b o q _=>?_,fun b xs q=>same b _ q,fun b o u q=>same b _ q,fun b ps q=>⟨#[],by rw [same b _ q]; simp⟩⟩,hok5⟩
 by_cases hb:b ∈ frs outer
 ·obtain ⟨sl,z⟩:=slot b hb o q
  exact ⟨_,z⟩
 ·cases hH:H b with
  | none=>exact ⟨o,fl.1 b o (bk b o q hH hb)⟩
  | some u=>exact iO (hok5 b u (same b u hH))
end L2
namespace L2
open PySem PySem.W PySem.Spec PyProof.Rows PySem.Calls PySem.Builtin PySem.Builtin.ObjectAttr PySem.Builtin.Getset_descriptor
variable{s:Shared}{a C:Addr}{pins:List (Addr×Obj)}{σ:St}{H:Hp}{b:Bool}
section
variable {prog:Program} {w:World} {A:Around} {E:Value->Shared->Prop}  {K:Frag}  {o:Obj}
theorem De {R:Result->Shared->Prop} {tp:Value} (X:K.In s.heap) (hx:s.heap.get? a=some o) (hc:o.cls=.ref C) (hm:mroIn K C (.type "object")=some true)
  (h:R (.ok (.ret (.ref C))) s):codeAny (model prog w) A (.call (.builtin "getset_descriptor.__get__") ⟨[.builtin "object.__class__", .ref a,tp],[]⟩) R s:=by
 obtain ⟨hh,g,dr,t,os⟩:=s
 have L0:Looks (model prog w) hh (typeOf (.ref a)) (.ref C):=hc ▸ (Looks.ld hx).andThen .now
 have L1:=looks_mroIn (M:=model prog w) X hm
 refine codeAny_call_builtin KF.slot_gs.plain KF.entry_gs (KF.slot_gs.check _ _ _ _ _ _ _ _ KF.type_class (KF.args_gs _ _ _) (?_:wpAny _ _ (Builtin.«getset_descriptor.__get__» _) _ _ _))
 unfold Builtin.«getset_descriptor.__get__» descrGet; rw [dga_obj]
 refine aaa (aab (?_:wpAny _ _ _ _ _ _))
 unfold descrGetter descrCheckInstance descrNameAndClass isInstance; simp only [KF.owner_class]
 repeat lk
 refine ⟨Code.quiet_builtin _ (by decide +kernel),codeAny_builtin KF.entry_class (?_:wpAny _ _ _ _ _ _)⟩
 unfold Builtin.«object.__class__» shownTypeOf; repeat lk
 exact h
theorem xA (X:K.In s.heap) (ha:findIn K (.ref C) "__class__" = some (some (.builtin "object.__class__"))) (hn:specialIn K (.builtin "object.__class__") "__get__" = some (some (.builtin "getset_descriptor.__get__"))) (htk:takesIn K (.builtin "object.__class__")=some true) :
  Looks (model prog w) s.heap (find (.ref a) (.ref C) "__class__") (.bind (.builtin "getset_descriptor.__get__") (.builtin "object.__class__")):=by
 have L1:=looks_findIn (M:=model prog w) X ha
 have L2:Looks (model prog w) s.heap (getOf (some (.builtin "object.__class__"))) (some (.builtin "getset_descriptor.__get__")):=looks_specialIn X hn
 have L3:=looks_takesIn (M:=model prog w) X htk
 unfold find
 refine L1.andThen (L2.andThen ?_)
 have L4:Looks (model prog w) s.heap (dataDescriptor? (some (Value.builtin "object.__class__")) (some (Value.builtin "getset_descriptor.__get__"))) (some (Value.builtin "getset_descriptor.__get__", Value.builtin "object.__class__")):=by
  unfold dataDescriptor?
  exact L3.andThen .now
 exact L4.andThen (Looks.tag .now)
theorem tU {M:Model} {nameV:Value} {Q:Unit->Shared->Prop} (X:K.In s.heap) (hx:s.heap.get? a=some o) (hc:o.cls=.ref C) (hb:mroIn K C (.type "BaseException")=some true) (hq:Q () s) :
  wpAny M A (checkBuiltinCall "BaseException.__getattribute__" ⟨[.ref a,nameV],[]⟩) Q E s:=by
 have hk:builtinKind "BaseException.__getattribute__" = some .slot:=by decide +kernel
 have hsp:splitId "BaseException.__getattribute__" = some ("BaseException", "__getattribute__"):=by decide +kernel
 obtain ⟨hh,g,d,t,os⟩:=s
 have L0:Looks M hh (typeOf (.ref a)) (.ref C):=hc ▸ (Looks.ld hx).andThen .now
 have LI:Looks M hh (isInstance (.ref a) (.type "BaseException")) true:=L0.andThen (looks_mroIn X hb)
 have har:=PySem.F.args_bexc_ga (.ref a) nameV
 simp only [checkBuiltinCall,hk,hsp]
 refine aaa (LI.at ?_)
 repeat (first | assumption | wp_step)
theorem Dg {Q:Option Value->Shared->Prop} (X:K.In s.heap) (hx:s.heap.get? a=some o) (hc:o.cls=.ref C) (hga:PySem.W.findIn K (.ref C) "__getattribute__" = some (some (.builtin "BaseException.__getattribute__"))) (hgn:PySem.W.findIn K (.ref C) "__getattr__" = some none)
  (ha:PySem.W.findIn K (.ref C) "__class__" = some (some (.builtin "object.__class__"))) (hn:PySem.W.specialIn K (.builtin "object.__class__") "__get__" = some (some (.builtin "getset_descriptor.__get__"))) (htk:PySem.W.takesIn K (.builtin "object.__class__")=some true) (hm:PySem.W.mroIn K C (.type "object")=some true) (hb:mroIn K C (.type "BaseException")=some true)
  (h:Q (some (.ref C)) { s with toks:=s.toks+1 }):wpAny (model prog w) A (getAttr? (.ref a) "__class__") Q E s:=by
 obtain ⟨hh,g,d,t,os⟩:=s
 have L0:Looks (model prog w) hh (typeOf (.ref a)) (.ref C):=hc ▸ (Looks.ld hx).andThen .now
 have L1:=PySem.W.looks_findIn (M:=model prog w) X hga
 unfold getAttr? getAttrBy? getAttrBy
 refine aaa (wpAny_mkText (aaa (aby (aaB (aaa (L0.at (aaa (L1.at ?_))))))))
 dsimp only
 have hne:(Value.builtin "BaseException.__getattribute__" == Value.builtin "object.__getattribute__")=false:=by decide +kernel
 rw [hne,Bool.and_false,if_neg Bool.false_ne_true]
 have L2:=looks_findIn (M:=model prog w) X hgn
 have LF:=xA (prog:=prog) (w:=w) (a:=a) (s:=⟨hh,g,d,t,os⟩) X ha hn htk
 have FB:=PySem.F.attrBase_ValueError
 unfold getAttrByItsOwn hookBefore callGetattribute boundAndCalled
 rw [show onTheHeap (Value.ref C)=true from rfl,if_pos (show true=true from rfl),Bool.false_and,if_neg Bool.false_ne_true,FB.ga.bind (.ref a)]
 refine aaa (L2.at (aaa (aby (aaB ?_))))
 refine aaa (aab (wpAny_call (codeAny_call_builtin FB.ga.plain F.entry_bexc_ga ?_)))
 refine tU (s:=⟨hh,g,d,t+1,os⟩) X hx hc hb ?_
 unfold Builtin.«object.__getattribute__»
 repeat (first | (with_reducible refine wpAny_call (De (s:=⟨hh,g,d,t+1,os⟩) X hx hc hm ?_)) | assumption | lk)
end
structure ExcCl (K:Frag)(C:Addr):Prop where
 ex:en K C
 is:(clsIn K C).isSome=true
 ga:findIn K (.ref C) "__getattribute__" = some (some (.builtin "BaseException.__getattribute__"))
 gn:findIn K (.ref C) "__getattr__" = some none
 cl:findIn K (.ref C) "__class__" = some (some (.builtin "object.__class__"))
 sp:specialIn K (.builtin "object.__class__") "__get__" = some (some (.builtin "getset_descriptor.__get__"))
 tk:takesIn K (.builtin "object.__class__")=some true
 mo:mroIn K C (.type "object")=some true
 mb:mroIn K C (.type "BaseException")=some true
def G0 (a C:Addr)(h:Heap):Prop:=∃ o,h.get? a=some o/\o.cls=.ref C
theorem oH {K:Frag}(c:ExcCl K C):KitX K (.ref a) (.ref C) (G0 a C) where
 ty:=fun M h _ p=>by
  obtain ⟨o,h1,h2⟩:=p
  exact h2 ▸ (Looks.ld h1).andThen .now
 it:=fun M h X _=>by
  obtain ⟨_,_,_,lk,_⟩:=oE c.ex
  intro A' Q' E' s' k q
  unfold isType loadHead; exact aaa (wpAny_loadPart (k _ _ (X _ _ lk)) (aab q))
 ne:=fun h tp dd its n sl X htp=>by
  obtain ⟨_,_,_,lk,_⟩:=oE c.ex
  refine Bool.eq_false_iff.mpr fun q=>?_
  have e:C=tp:=Value.ref.inj (beq_iff_eq.mp q)
  subst e
  cases congrArg (Option.map Obj.data) ((X _ _ lk).symm.trans htp)
 ca:=fun X p k=>by
  obtain ⟨o,h1,h2⟩:=p
  exact Dg X h1 h2 c.ga c.gn c.cl c.sp c.tk c.mo c.mb k
section
variable {X:Cx}
def rIsX (K:Frag)(C:Addr)(c:V)(b:Bool):List V->Hp->VK->Prop:=fun xs H Q=>∃ ea,xs=[.ref ea,c]/\H ea=some (l6 ea C)/\Q (.bl b) H
theorem AL {ea:Addr}(I:Inv X pins σ H s)(h:H ea=some (l6 ea C)):G0 ea C s.heap:=by
 obtain ⟨⟨o,h1,h2,_⟩,_⟩:=(show ObjOk X.prog X.w H s.heap ea (l6 ea C) from I.hok ea _ h)
 exact ⟨o,h1,h2⟩
theorem oI {c:V}{u:Value}(hc:ExcCl X.K C)(hu:∀ u',RelV c u'->u'=u)(e:kitOne X.K (.ref C) u=some b):CallR X (.builtin "isinstance") (rIsX X.K C c b):=by
 intro pins s σ H xs us Q I r h
 obtain ⟨ea,rfl,ha,q⟩:=h
 obtain ⟨u1,u2,rfl,r1,r2⟩:=rB r
 cases (show u1=Value.ref ea from r1)
 rw [hu u2 r2]
 exact kia_one (oH hc) I.kIn (AL I ha) e (fun z=>nomatch z) fun tk=>⟨.bl b,H,I.tok tk,rfl,q⟩
def Jm (K:Frag)(C:Addr)(cs:List Addr)(b:Bool):List V->Hp->VK->Prop:=fun xs H Q=>∃ ea p,xs=[.ref ea,.ref p]/\H ea=some (l6 ea C)/\H p=some (.tup (cs.map V.ref))/\Q (.bl b) H
theorem tV:∀ {cs:List Addr} {us:List Value},Vals (cs.map V.ref) us->us=cs.map Value.ref
 | [],_,.nil=>rfl
 | c::cs,_,.cons h t=>by rw [tV t]; exact congrArg (·::_) (show _=Value.ref c from h)
theorem l7 {cs:List Addr}(hc:ExcCl X.K C)(e:kitAny X.K (.ref C) (cs.map Value.ref)=some b):CallR X (.builtin "isinstance") (Jm X.K C cs b):=by
 intro pins s σ H xs us Q I r h
 obtain ⟨ea,p,rfl,ha,hp,q⟩:=h
 obtain ⟨u1,u2,rfl,r1,r2⟩:=rB r
 cases (show u1=Value.ref ea from r1)
 cases (show u2=Value.ref p from r2)
 obtain ⟨_,its,rv,ob,h1,h2,n,h3⟩:=(show ObjOk X.prog X.w H s.heap p (.tup (cs.map V.ref)) from I.hok p _ hp)
 rw [tV rv] at h3
 obtain ⟨o1,o2,o3,o4⟩:=ob
 have h2':o1=.type "tuple" := h2
 have h3':o3=.seq (cs.map Value.ref).toArray n:=h3
 subst h2' h3'
 exact kia_tup (oH hc) I.kIn (AL I ha) h1 e (fun z=>nomatch z) fun tk=>⟨.bl b,H,I.tok tk,rfl,q⟩
abbrev Cx.suite (X:Cx)(e:Value):Cx:={ X with A:=X.A.mark (some e),calm:=false,xe:=fun _ _=>False }
theorem Inv.suite (I:Inv X pins σ H s)(e:Value):Inv (X.suite e) pins σ H s :=
 ⟨⟨I.ok.mod,I.ok.kind,I.ok.glob,I.ok.blt,I.ok.above,I.ok.inj,I.ok.has,I.ok.cab,(fun z=>nomatch z),I.ok.frames,I.ok.stk,I.ok.exf,I.ok.bs,I.ok.bsz,I.ok.noex,I.ok.exfs,I.ok.funs,I.ok.frf⟩,I.os,I.bare,I.base,I.loc,I.cell,I.free,I.freeC,I.pin,I.hok,I.len⟩
theorem Inv.unsuite {e:Value}(ok:X.Ok)(I:Inv (X.suite e) pins σ H s):Inv X pins σ H s :=
 ⟨ok,I.os,I.bare,I.base,I.loc,I.cell,I.free,I.freeC,I.pin,I.hok,I.len⟩
end
theorem xB {K:Frag}  (ex:en K C) (ga:findIn K (.ref C) "__getattribute__" = some (some (.builtin "BaseException.__getattribute__"))) (gn:findIn K (.ref C) "__getattr__" = some none) (cl:findIn K (.ref C) "__class__" = some (some (.builtin "object.__class__")))
  (sp:specialIn K (.builtin "object.__class__") "__get__" = some (some (.builtin "getset_descriptor.__get__"))) (tk:takesIn K (.builtin "object.__class__")=some true) (mo:mroIn K C (.type "object")=some true) (mb:mroIn K C (.type "BaseException")=some true):ExcCl K C:=by
 refine ⟨ex,?_,ga,gn,cl,sp,tk,mo,mb⟩
 obtain ⟨_,_,_,lk,_⟩:=oE ex
 unfold clsIn
 rw [lk]
 rfl
theorem G1 {K:Frag} {D:Addr} (h1:subIn K (.ref D) (.type "BaseException")=some true) (h2:kitOne K (.ref C) (.ref D)=some true) (h3:(Value.ref C == Value.ref D)=false):exmOne K (.ref C) (.ref D)=some true:=by
 unfold exmOne
 rw [h1,if_pos (by decide)]
 unfold kitOne at h2
 rw [h3,if_neg Bool.false_ne_true] at h2
 exact h2
end L2
namespace HT
open PySem PySem.Spec PyProof.Rows
section
variable {prog:Program} {w:World} {A:Around} {E:Value->Shared->Prop} {s:Shared}
theorem getItem_tuple_all {t sl:Addr}{items:Array Value}{vl vu:Value}{lo hi:Option Int}{Q:Value->Shared->Prop}(ht:IsTup s.heap t items)(hs:s.heap.IsSliceOf sl vl vu .none)(pl:IsPart vl lo)(pu:IsPart vu hi)
  (hw:sIx items.size 0 lo=0/\sIx items.size items.size hi=items.size) (h:Q (.ref t) s):wpAny (model prog w) A (getItem (.ref t) (.ref sl)) Q E s:=by
 obtain ⟨os,hos,hcs,hds⟩:=id hs
 have hTs:s.TypeIs (.ref sl) "slice" := ⟨os,hos,hcs⟩
 unfold getItem
 try with_reducible refine aaB ?_
 first | refine aaa (aab ?_) | skip
 refine aaa (wpAny_sequenceKey ht.typeIs (by decide) ?_)
 refine aaa (wpAny_callSpecial?_slot (name:=Str.ofString "__getitem__") ht.typeIs aa0
  (aaE aa0 ht.typeIs entry_tuple_getitem ?_ (args_tuple_getitem _ _)))
 show wpAny _ _ (Builtin.Tuple.tupleItemsOf (.ref t) >>= _) _ _ s
 refine aaa (tupleItemsOf_ ht ?_)
 refine aaa (wpAny_typeOf hTs ?_)
 rw [if_pos (by decide)]
 refine aaa (dE hs pl pu ?_)
 show wpAny _ _ (if (((sIx items.size 0 lo:Nat):Int) == 0 && (1:Int) == 1 && (sIx items.size items.size hi - sIx items.size 0 lo) == items.size)=true then _ else _) _ _ s
 rw [if_pos (by rw [hw.1,hw.2]; simp)]
 refine aaa (m:=Builtin.Tuple.tupleIsExact _) (aaa (wpAny_typeOf ht.typeIs (aab ?_)))
 rw [if_pos (by decide)]
 first
  | exact aaa (wpAny_rule (aab ⟨_,rfl,aab h⟩))
  | exact aaa (wpAny_rule (aaa (aab (aab ⟨_,rfl,aab h⟩))))
  | exact aaa (aaa (wpAny_rule (aab (aab ⟨_,rfl,aab h⟩))))
  | exact aaa (aaa (wpAny_rule (aab ⟨_,rfl,aab h⟩)))
end
end HT
namespace L2
open PySem PySem.Spec PyProof.Rows
variable{X:Cx}{ds:List D}{fe:FE}{ty tx:TE}
def G2 (K:Frag):V->Option Int->Option Int->Hp->VK->Prop:=fun x lo hi H Q=>∃ a xs,x=.ref a/\SqT K H a xs/\HT.sIx xs.length 0 lo=0/\HT.sIx xs.length xs.length hi=xs.length/\Q (.ref a) H
theorem Dh:SlR X (G2 X.K):=by
 intro pins s σ H x v vl vu lo hi sl Q I rx hs pl pu h
 obtain ⟨a,xs,rfl,hx,w1,w2,q⟩:=h
 cases rx
 obtain ⟨its,r,ht,hz⟩:=I.tuple hx
 have hlen:its.toArray.size=xs.length:=by rw [List.size_toArray]; exact r.length.symm
 refine ⟨"tuple", _,PyProof.Rows.slot_tuple_getitem.lookup,ht.typeIs,?_⟩
 exact HT.getItem_tuple_all ht hs pl pu (by rw [hlen]; exact ⟨w1,w2⟩) ⟨.ref a,H,I,rfl,q⟩
def Kg (K:Frag):V->Option Int->Option Int->Hp->VK->Prop:=fun x lo hi H Q=>FP K x lo hi H Q∨G2 K x lo hi H Q
theorem tW {a:Expr}{lo hi:Option Expr}{ta:TE}{tl th:TO}{pos spos:Pos}(K:Frag)(ha:BE X a ta)(hl:BO X lo tl)(hh:BO X hi th)(hK:X.K=K):BE X (.Subscript a (.Slice lo hi none spos) pos) (tSl (Kg K) ta tl th):=by
 subst hK; exact ⟨nI (Am.or Dh) ha.h hl.h hh.h⟩
def G3 (K:Frag):R2:=fun x y H Q=>∃ a b ys,x=.ref a/\y=.ref b/\SqT K H a []/\SqT K H b ys/\Q (.ref b) H
theorem Di:OpR X (binaryOp .Add) (G3 X.K):=by
 intro pins s σ H x y v u Q I rx ry h
 obtain ⟨a,b,ys,rfl,rfl,ha,hb,q⟩:=h
 cases rx
 cases ry
 obtain ⟨its,r1,p1,_⟩:=I.tuple ha
 obtain ⟨its2,r2,p2,_⟩:=I.tuple hb
 cases r1
 obtain ⟨⟨cls,dd,data,sl⟩,ho,hc,n,hd⟩:=id p1
 obtain ⟨⟨cls2,dd2,data2,sl2⟩,ho2,hc2,n2,hd2⟩:=id p2
 simp only at hc hd hc2 hd2
 subst hc hd hc2 hd2
 exact concat_meets ⟨_,ho,rfl⟩ ⟨_,ho2,rfl⟩ noFill_tuple_add seq_tuple_add PySem.F.slot_tuple_add PySem.F.entry_tuple_add (PySem.F.args_tuple_add_2 _ _)
  (tuple_addW0 a b _ its2.toArray n n2 dd dd2 sl sl2 (by simp)) ⟨ho,ho2,⟨.ref b,H,I,rfl,q⟩⟩
def G4 (K:Frag):R2:=fun x y H Q=>CU K x y H Q∨G3 K x y H Q
theorem xC (K:Frag)(h:X.K=K):BOp X (binaryOp .Add) (G4 K):=by subst h; exact ⟨(oi X.K rfl).h.or Di⟩
def Jn (K:Frag):R2:=fun x y H Q=>∃ a b xs,x=.ref a/\y=.ref b/\((SqT K H a xs/\SqT K H b [])∨(SqL K H a xs/\SqL K H b []))/\Q (.bl xs.isEmpty) H
theorem G5 (hu:X.A.units+64 < cLine):OpR X (compareOp .Eq) (Jn X.K):=by
 intro pins s σ H x y v u Q I rx ry h
 obtain ⟨a,b,xs,rfl,rfl,hh,q⟩:=h
 cases rx
 cases ry
 rcases hh with ⟨ha,hb⟩ | ⟨ha,hb⟩
 ·obtain ⟨its,r1,p1,_⟩:=I.tuple ha
  obtain ⟨its2,r2,p2,_⟩:=I.tuple hb
  cases r2
  have z:=SeqAt.RcAt.tuples (A:=X.A) (s:=s) (e:=fun _=>true) p1 p2 (by nofun) (fun j _ h2=>absurd h2 (by simp))
  have e:((List.range (min its.toArray.size ([]:List Value).toArray.size)).all (fun _=>true) && its.toArray.size == ([]:List Value).toArray.size)=xs.isEmpty:=by
   have:=r1.length
   cases xs <;> cases its <;> simp at this ⊢
  rw [e] at z
  exact z _ _ _ _ ⟨.bl _,H,I,rfl,q⟩
 ·obtain ⟨its,r1,p1,_⟩:=I.list ha
  obtain ⟨its2,r2,p2,_⟩:=I.list hb
  cases r2
  cases r1 with
  | nil =>
   have z:=SeqAt.RcAt.lists (A:=X.A) (s:=s) (e:=fun _=>true) p1.isList p2.isList rfl (by nofun) (fun j _ h2=>absurd h2 (by simp))
   exact z _ _ _ _ ⟨.bl _,H,I,rfl,q⟩
  | cons h1 t1 =>
   have z:=SeqAt.RcAt.lists_lengths (A:=X.A) (s:=s) p1.isList p2.isList (by simp) (by nofun)
   exact z _ _ _ _ ⟨.bl _,H,I,rfl,q⟩
theorem Dj (K:Frag)(hu:X.A.units+64 < cLine)(h:X.K=K):BOp X (compareOp .Eq) (Jn K):=by subst h; exact ⟨G5 hu⟩
def Dk:V->List V->Hp->VK->Prop:=fun x xs H Q=>∃ z y,x=.str z/\xs=[.str y]/\Q (.int (Txt.find z y)) H
theorem Dl:MtR X "str.find" Dk:=by
 intro pins s σ H x vs v us Q I rx rv h
 obtain ⟨z,y,rfl,rfl,q⟩:=h
 obtain ⟨t,rfl⟩:=rx
 obtain ⟨u,rfl,ru⟩:=dH rv
 obtain ⟨t',rfl⟩:=ru
 exact PySem.W.KXw.find rfl fun t' k=>⟨.int _,H,I.tok k,⟨t',rfl⟩,q⟩
theorem Dm:BMt X "str.find" Dk:=⟨Dl⟩
section
variable {K:Frag} {μ:List Nat}
theorem tX {α:Type}{xs:List α}{lo hi:Option Int}(h1:HT.sIx xs.length 0 lo=0)(h2:HT.sIx xs.length xs.length hi=xs.length):cg xs lo hi=xs:=by
 unfold cg
 rw [h1,h2]
 simp
def dB:D->Option Int->Option Int->(OV->Prop)->Prop
 | .str z,lo,hi,P=>z.length<=sizeLine/\P (.fz (.str (cG z lo hi)))
 | .lst ds,lo,hi,P=>P (.fl (cg ds lo hi))
 | .tup ds,lo,hi,P=>P (.fz (.tup (cg ds lo hi)))
 | _,_,_,_=>False
theorem Jo:SlF K (Kg K) dB:=⟨by
 intro F H x d lo hi Q P s hx f n
 unfold dB at f
 split at f
 ·exact .inl (kc.h s hx (by unfold aSl; exact f) n)
 ·exact .inl (kc.h s hx (by unfold aSl; exact f) n)
 ·rename_i ds
  by_cases hw:HT.sIx ds.length 0 lo=0/\HT.sIx ds.length ds.length hi=ds.length
  ·have e:=tX hw.1 hw.2
   rw [e] at f
   have hx':=hx
   obtain ⟨a,xs,rfl,h1,h2⟩:=hx.asT s
   refine .inr ⟨a,xs,rfl,h1,by rw [h2.length]; exact hw.1,by rw [h2.length]; exact hw.2,?_⟩
   cases hx' with
   | fz hd=>exact ay s n hd f
  ·exact .inl (kc.h s hx (by unfold aSl; exact ⟨hw,f⟩) n)
 ·exact f.elim⟩
def aY:D->D->(OV->Prop)->Prop
 | .int i,.int j,P=>P (.fz (.int (i+j)))
 | .str i,.str j,P=>i.length+j.length<=sizeLine/\P (.fz (.str (i++j)))
 | .lst xs,.lst ys,P=>xs.length+ys.length<=sizeLine/\P (.fl (xs++ys))
 | .tup xs,.tup ys,P=>xs.length+ys.length<=sizeLine/\P (.fz (.tup (xs++ys)))
 | _,_,_=>False
theorem xD:OpF K (G4 K) aY:=⟨by
 intro F H x y d e Q P s hx hy f n
 unfold aY at f
 split at f
 ·exact .inl (iD.h s hx hy (by unfold ja; exact f) n)
 ·exact .inl (iD.h s hx hy (by unfold ja; exact f) n)
 ·exact .inl (iD.h s hx hy (by unfold ja; exact f) n)
 ·rename_i ds es
  by_cases hd:ds=[]
  ·subst hd
   have hy':=hy
   obtain ⟨a,xs,rfl,h1,h2⟩:=hx.asT s
   obtain ⟨b,ys,rfl,h3,h4⟩:=hy.asT s
   cases h2
   refine .inr ⟨a,b,ys,rfl,rfl,h1,h3,?_⟩
   cases hy' with
   | fz hd=>exact ay s n hd f.2
  ·exact .inl (iD.h s hx hy (by unfold ja; exact ⟨hd,f⟩) n)
 ·exact f.elim⟩
def G6:D->D->(OV->Prop)->Prop
 | .tup xs,.tup [],P=>P (.fz (.bl xs.isEmpty))
 | .lst xs,.lst [],P=>P (.fz (.bl xs.isEmpty))
 | _,_,_=>False
theorem Dens.empty_eq {F:Hp}{xs:List V}(h:Dens K F xs ds):xs.isEmpty=ds.isEmpty:=by cases h <;> rfl
theorem Do:OpF K (Jn K) G6:=⟨by
 intro F H x y d e Q P s hx hy f n
 unfold G6 at f
 split at f
 ·obtain ⟨a,xs,rfl,h1,h2⟩:=hx.asT s
  obtain ⟨b,ys,rfl,h3,h4⟩:=hy.asT s
  cases h4
  exact ⟨a,b,xs,rfl,rfl,.inl ⟨h1,h3⟩,by rw [h2.empty_eq]; exact ay s n (.bl _) f⟩
 ·obtain ⟨a,xs,rfl,h1,h2⟩:=hx.asL s
  obtain ⟨b,ys,rfl,h3,h4⟩:=hy.asL s
  cases h4
  exact ⟨a,b,xs,rfl,rfl,.inr ⟨h1,h3⟩,by rw [h2.empty_eq]; exact ay s n (.bl _) f⟩
 ·exact f.elim⟩
def tY (fo fe:FE):FE:=fun ρ Q=>fo ρ fun r ρ1=>on1 ρ1 r fun d=>match d with
 | .str z=>fe ρ1 fun r2 ρ2=>on1 ρ2 r2 fun d2=>(match d2 with
  | .str y=>Q (.ov (.fz (.int (Txt.find z y)))) ρ2
  | _=>False)
 | _=>False
theorem Dp {to te:TE}{fo:FE}(ho:EF K μ to fo)(he:EF K μ te fe):EF K μ (tBM K "str" Dk to (dI te la)) (tY fo fe):=⟨by
 intro F Z H τ σ ρ A Q P vw R h q
 refine ho.h vw R h fun r1 ρ1 x F1 H1 A1 B1 h1 s1 R1 v1 f1=>?_
 obtain ⟨d,e1,h2⟩:=bS h1
 split at h2
 ·rename_i z
  have ex:=(R1.acc v1 e1).str_eq
  subst ex
  refine ⟨rfl,he.h vw R1 h2 fun r2 ρ2 y F2 H2 A2 B2 h3 s2 R2 v2 f2=>?_⟩
  obtain ⟨d2,e2,h4⟩:=bS h3
  split at h4
  ·have ey:=(R2.acc v2 e2).str_eq
   subst ey
   exact ⟨z,_,rfl,rfl,q _ _ _ _ _ _ [] h4 (s1.trans s2) R2 (.fz (.int _)) Fresh.nil⟩
  ·exact h4.elim
 ·exact h2.elim⟩
def Kh (n:Nat):FE:=fun ρ Q=>∀ a:Addr,Q (.ov (.fz (.opq a n))) ρ
theorem Dq:EF K μ nK (Kh 0):=⟨by
 intro F Z H τ σ ρ A Q P vw R h q p hp
 have hf:F p=none:=R.fh.free hp
 exact R.after (P:=fun o=>P (.ov o) ρ) (fun o v F3 H3 B p s3 R3 ow fr=>q _ _ _ _ _ _ _ p s3 R3 ow fr) _ _ (upd F p (.dK [])) _ [] (h p) (Pure.frz R.fh hp) (.fz (.opq (.inl ao) rfl rfl)) New.nil⟩
def tZ (ks:List Key)(ds:List D)(fe fx:FE):FE:=fun ρ Q=>fe ρ fun r ρ1=>on1 ρ1 r fun d=>match d with
 | .str z=>fx ρ1 fun r2 ρ2=>on1 ρ2 r2 fun d2=>flD d2=true/\Q (.ov (.fz ((xh ks ds (.inr z)).getD d2))) ρ2
 | _=>False
theorem xE {trs:List (TE×TE)}{fx:FE}(kvs:List (Key×V)){ks:List Key}(hp:∀ σ H (Q:List (V×V)->Hp->Prop),Q (kvs.map fun kv=>(kV kv.1,kv.2)) H->ls trs σ H Q)(hl:kvs.length<=15)(hm:ii [] kvs=kvs)(hk:kvs.map (·.1)=ks)
  (hd:∀ F,Dens K F (kvs.map (·.2)) ds) (he:EF K μ ty fe) (hx:EF K μ tx fx):EF K μ (nL (wu trs) ty tx) (tZ ks ds fe fx):=⟨by
 intro F Z H τ σ ρ A Q P vw R h q p hpn
 have hf:F p=none:=R.fh.free hpn
 refine hp _ _ _ ⟨ao,kvs,rfl,hl,?_⟩
 rw [hm,Bb]
 have pu:Pure F H (upd F p (.dK kvs)) (upd H p (.dK kvs)):=Pure.frz R.fh hpn
 refine ⟨p,rfl,.inl ⟨kvs,.inl ao⟩,?_⟩
 refine he.h vw (R.step pu) h fun r1 ρ1 y F1 H1 A1 B1 h1 s1 R1 v1 f1=>?_
 obtain ⟨d,e1,h2⟩:=bS h1
 split at h2
 ·rename_i z
  have ey:=(R1.acc v1 e1).str_eq
  subst ey
  refine hx.h vw R1 h2 fun r2 ρ2 w F2 H2 A2 B2 h3 s2 R2 v2 f2=>?_
  obtain ⟨d2,e2,h4,h5⟩:=bS h3
  have hF:H2 p=some (.dK kvs):=R2.fh _ _ (s2 _ _ (s1 _ _ ao))
  refine ⟨lp kvs (.inr z),.inl ⟨kvs,.inr z,.inl hF,rfl,rfl⟩,?_⟩
  refine q _ _ _ F2 _ _ [] h5 ((pu.ff.trans s1).trans s2) R2 (.fz ?_) Fresh.nil
  cases hg:xh ks ds (.inr z) with
  | some dd =>
   obtain ⟨v,g1,g2⟩:=oo hk (hd F2) hg
   rw [g1]
   exact g2
  | none =>
   have g1:lp kvs (.inr z)=none:=by
    have e:=om (k:=.inr z) hk
    have z2:C5 ks (.inr z)=false:=by
     rw [← Bool.not_eq_true]
     intro hh
     unfold C5 at hh
     rw [List.any_eq_true] at hh
     obtain ⟨k,hk1,hk2⟩:=hh
     have hk2:k=.inr z:=of_decide_eq_true hk2
     subst hk2
     unfold xh at hg
     rw [Option.map_eq_none_iff,List.find?_eq_none] at hg
     have hlen:ks.length=ds.length:=by rw [← hk,List.length_map,← (hd F2).length,List.length_map]
     obtain ⟨j,hj,ej⟩:=List.getElem_of_mem hk1
     have:=hg (ks[j],ds[j]'(by nofun)) (by
      rw [List.mem_iff_getElem]
      exact ⟨j,by rw [List.length_zip]; nofun,by simp⟩)
     simp [ej] at this
    rw [z2] at e
    cases hv:lp kvs (.inr z) with
    | none=>rfl
    | some _=>rw [hv] at e; cases e
   rw [g1]
   obtain ⟨ev,_⟩:=(R2.acc v2 e2).flat h4
   show Den K F2 w d2
   rw [ev]
   cases d2 <;> simp [flD] at h4 <;> constructor
 ·exact h2.elim⟩
theorem xF  {o e f:Expr} {apos cpos:Pos} {td:TE} (hu:X.A.units+64 < cLine) (ho:BE X o td) (he:BE X e ty) (hf:BE X f tx) (m:M2 X o "get" apos e f cpos):BE X (.Call (.Attribute o "get" apos) [e,f] [] cpos) (nL td ty tx):=⟨wv (by nofun) ho.h he.h hf.h m⟩
end
mutual
def depD:D->Nat
 | .lst xs=>depDs xs+1
 | .tup xs=>depDs xs+1
 | _=>0
def depDs:List D->Nat
 | []=>0
 | d::ds=>max (depD d) (depDs ds)
end
mutual
def okS:D->Bool
 | .lst xs=>okSs xs
 | .tup xs=>okSs xs
 | .dct _ _=>false
 | .ty _=>false
 | _=>true
def okSs:List D->Bool
 | []=>true
 | d::ds=>okS d && okSs ds
end
section
variable  {pins:List (Addr×Obj)} {σ:St} {H:Hp} {s:Shared}
end
section
variable {K:Frag}
end
end L2
namespace L2
open PySem PySem.Spec PyProof.Rows
open PySem.Builtin PySem.Builtin.Str
theorem l8:∀ (l:List (Str×Tok)),Vals ((l.map (·.1)).map V.str) (strValues l)
 | []=>.nil
 | (z,t)::l=>.cons ⟨t,rfl⟩ (l8 l)
def t4:V->List V->Hp->VK->Prop:=fun x vs H Q=>∃ z y:Str,x=.str z/\vs=[.str y]/\(y.length == 0)=false/\z.length+2<=sizeLine/\∀ p,H p=none->Q (.ref p) (upd H p (.lst ((Txt.split z y).map V.str)))
def t6:V->List V->Hp->VK->Prop:=fun x vs H Q=>∃ z y:Str,x=.str z/\vs=[.str y]/\(y.length == 0)=false/\z.length<=sizeLine /\
 ∀ p,H p=none->Q (.ref p) (upd H p (.tup [.str (Txt.partition z y).1,.str (Txt.partition z y).2.1,.str (Txt.partition z y).2.2]))
section
variable {X:Cx}
theorem xG:MtR X "str.split" t4:=by
 intro pins s σ H x vs v us Q I rx rv h
 obtain ⟨z,y,rfl,rfl,hy,hz,q⟩:=h
 obtain ⟨t,rfl⟩:=rx
 obtain ⟨u,rfl,tu,rfl⟩:=dH rv
 have hn:(partsBetween z (occurrences z y 0 z.length (z.length+1)) y.length).length<=sizeLine:=by
  have e1:=StrLaws.occ_length_le z y 0 z.length (z.length+1)
  rw [length_partsBetween]; nofun
 have hsl:(Txt.split z y).length<=sizeLine:=by
  unfold Txt.split
  have h1:1<=sizeLine:=by have:sizeLine=16777216:=sizeLine_eq; nofun
  split
  ·exact h1
  ·split
   ·exact h1
   ·exact hn
 have fin:∀ (l:List (Str×Tok)) (k:Nat),l.map (·.1)=Txt.split z y->EP X pins σ Q (.ref s.heap.objs.size) { s with heap:=s.heap.push { cls:=.type "list", data:=.seq (strValues l).toArray },toks:=k }:=fun l k e =>
  ⟨.ref _,_,I.lnew (ys:=(Txt.split z y).map V.str) (by rw [← e]; exact l8 l) (by rw [List.length_map]; exact hsl),rfl,q _ I.fresh⟩
 cases h1:(decide (z.length < y.length) || decide (strKind z < strKind y))
 ·cases hf:(occurrences z y 0 z.length (z.length+1)).isEmpty
  ·refine call_meets aaX (typeIs_str _ _ _) PySem.F.entry_str_split (PySem.F.args_str_split_2 _ _) (meets_str_split_sep z y t tu h1 hy hf (by nofun) hn) ?_
   show wants _ _ _ { s with toks:=_,heap:=s.heap.push { cls:=.type "list", data:=.seq (strsFrom s.toks (partsBetween z (occurrences z y 0 z.length (z.length+1)) y.length)).toArray } }
   rw [strsFrom_eq]
   exact fin (numbered s.toks _) _ ((numbered_texts _ _).trans ((if_neg (ne_true_of_eq_false h1)).trans (if_neg (ne_true_of_eq_false hf))).symm)
  ·exact call_meets aaX (typeIs_str _ _ _) PySem.F.entry_str_split (PySem.F.args_str_split_2 _ _) (meets_str_split_not_found z y t tu h1 hy hf)
    (fin [(z,t)] s.toks ((if_neg (ne_true_of_eq_false h1)).trans (if_pos hf)).symm)
 ·exact call_meets aaX (typeIs_str _ _ _) PySem.F.entry_str_split (PySem.F.args_str_split_2 _ _) (meets_str_split_cannot_occur z y t tu h1)
   (fin [(z,t)] s.toks (if_pos h1).symm)
theorem xH:MtR X "str.partition" t6:=by
 intro pins s σ H x vs v us Q I rx rv h
 obtain ⟨z,y,rfl,rfl,hy,hz,q⟩:=h
 obtain ⟨t,rfl⟩:=rx
 obtain ⟨u,rfl,tu,rfl⟩:=dH rv
 have h3:3<=sizeLine:=by have:sizeLine=16777216:=sizeLine_eq; nofun
 have fin:∀ (a b c:Tok) (k:Nat),EP X pins σ Q (.ref s.heap.objs.size) { s with heap:=s.heap.push { cls:=.type "tuple", data:=.seq [.str (Txt.partition z y).1 a,.str (Txt.partition z y).2.1 b,.str (Txt.partition z y).2.2 c].toArray },toks:=k }:=fun a b c k =>
  ⟨.ref _,upd H s.heap.objs.size (.tup [.str (Txt.partition z y).1,.str (Txt.partition z y).2.1,.str (Txt.partition z y).2.2]),I.laid (t':=k) (fun _ _ e=>Heap.get?_push_of_some _ e) (aac _) ⟨h3,[.str (Txt.partition z y).1 a,.str (Txt.partition z y).2.1 b,.str (Txt.partition z y).2.2 c],.cons ⟨a,rfl⟩ (.cons ⟨b,rfl⟩ (.cons ⟨c,rfl⟩ .nil)),⟨_,Heap.get?_push_size _ rfl,rfl,_,rfl⟩⟩,rfl,q _ I.fresh⟩
 refine call_meets abd (typeIs_str _ _ _) PySem.F.entry_str_partition (PySem.F.args_str_partition_2 _ _) (meets_str_partition z y t tu hy hz) ?_
 have fin':=fin
 unfold Txt.partition at fin'
 revert fin'
 cases occurrences z y 0 z.length 1 with
 | nil=>intro f; exact f _ _ _ _
 | cons i r=>intro f; exact f _ _ _ _
theorem kn:BMt X "str.split" t4:=⟨xG⟩
theorem ko:BMt X "str.partition" t6:=⟨xH⟩
end
section
variable {K:Frag} {μ:List Nat}
def fT1 (f:Str->D->(OV->Prop)->Prop)(fo fe:FE):FE:=fun ρ Q=>fo ρ fun r ρ1=>on1 ρ1 r fun d=>match d with
 | .str z=>fe ρ1 fun r2 ρ2=>on1 ρ2 r2 fun d2=>f z d2 fun o=>Q (.ov o) ρ2
 | _=>False
structure T1F (K:Frag)(r:V->List V->Hp->VK->Prop)(f:Str->D->(OV->Prop)->Prop):Prop where
 h:∀ {F H:Hp} {z:Str} {y:V} {d:D} {Q:VK} {P:OV->Prop},Same F H->Acc K F H y d->f z d P->Av K F H P Q->r (.str z) [y] H Q
theorem t7 {r:V->List V->Hp->VK->Prop}{f:Str->D->(OV->Prop)->Prop}{to te:TE}{fo fe:FE}(m:T1F K r f)(ho:EF K μ to fo)(he:EF K μ te fe):EF K μ (tBM K "str" r to (dI te la)) (fT1 f fo fe):=⟨by
 intro F Z H τ σ ρ A Q P vw R h q
 refine ho.h vw R h fun r1 ρ1 x F1 H1 A1 B1 h1 s1 R1 v1 f1=>?_
 obtain ⟨d,e1,h2⟩:=bS h1
 split at h2
 ·rename_i z
  have ex:=(R1.acc v1 e1).str_eq
  subst ex
  refine ⟨rfl,he.h vw R1 h2 fun r2 ρ2 y F2 H2 A2 B2 h3 s2 R2 v2 f2=>?_⟩
  obtain ⟨d2,e2,h4⟩:=bS h3
  exact m.h R2.fh (R2.acc v2 e2) h4 (R2.after fun o v F3 H3 B p s3 R3 ow fr=>q _ _ _ _ _ _ _ p ((s1.trans s2).trans s3) R3 ow fr)
 ·exact h2.elim⟩
def eT:Str->D->(OV->Prop)->Prop
 | z,.str y,P=>((y.length == 0)=false/\z.length+2<=sizeLine)/\P (.fl ((Txt.split z y).map .str))
 | _,_,_=>False
theorem kq:T1F K t4 eT:=⟨by
 intro F H z y d Q P s hy f n
 unfold eT at f
 split at f
 ·rw [hy.str_eq]
  exact ⟨z,_,rfl,rfl,f.1.1,f.1.2,cm s n (Dens.strs _) f.2⟩
 ·exact f.elim⟩
def jI:Str->D->(OV->Prop)->Prop
 | z,.str y,P=>((y.length == 0)=false/\z.length<=sizeLine)/\P (.fz (.tup [.str (Txt.partition z y).1,.str (Txt.partition z y).2.1,.str (Txt.partition z y).2.2]))
 | _,_,_=>False
theorem kr:T1F K t6 jI:=⟨by
 intro F H z y d Q P s hy f n
 unfold jI at f
 split at f
 ·rw [hy.str_eq]
  exact ⟨z,_,rfl,rfl,f.1.1,f.1.2,gY s n (.cons (.str _) (.cons (.str _) (.cons (.str _) .nil))) f.2⟩
 ·exact f.elim⟩
end
end L2
namespace L2
open PySem PySem.Builtin PySem.Builtin.Str PySem.StrLaws
variable{c a:Nat}{p r:List Nat}{y:Str}
def nc (y p:List Nat):Prop:=∀ r k,k < p.length->((p++y++r).drop k).take y.length≠y
theorem cL {y:List Nat}(h:c ∉ p):nc (c::y) p:=by
 intro r k hk e
 have e1:(((p++(c::y)++r).drop k).take (c::y).length)[0]?=some c:=by rw [e]; rfl
 rw [List.getElem?_take_of_lt (by simp),List.getElem?_drop,Nat.add_zero,List.append_assoc,List.getElem?_append_left hk] at e1
 exact h (List.mem_of_getElem? e1)
def fV (p:List Nat):Prop:=∀ k,p[k]?=some 59->p[k+1]?≠some 32
theorem jJ (h:fV p):nc [59,32] p:=by
 intro r k hk e
 have e1:(((p++[59,32]++r).drop k).take 2)[0]?=some 59:=by
  have:((p++[59,32]++r).drop k).take 2=[59,32]:=e
  rw [this]; rfl
 have e2:(((p++[59,32]++r).drop k).take 2)[1]?=some 32:=by
  have:((p++[59,32]++r).drop k).take 2=[59,32]:=e
  rw [this]; rfl
 rw [List.getElem?_take_of_lt (by decide),List.getElem?_drop,Nat.add_zero,List.append_assoc,List.getElem?_append_left hk] at e1
 rw [List.getElem?_take_of_lt (by decide),List.getElem?_drop,List.append_assoc] at e2
 by_cases hk1:k+1 < p.length
 ·rw [List.getElem?_append_left hk1] at e2
  exact h k e1 e2
 ·have ek:k+1=p.length:=by nofun
  rw [List.getElem?_append_right (by nofun),ek,Nat.sub_self] at e2
  simp at e2
theorem t8 (h:59 ∉ p):fV p:=fun k e=>absurd (List.mem_of_getElem? e) h
theorem t9 {a s:List Nat}(h:59 ∉ a)(hs:s.Pairwise (· < ·)):fV (a++s):=by
 intro k e e2
 by_cases hk:k < a.length
 ·rw [List.getElem?_append_left hk] at e
  exact h (List.mem_of_getElem? e)
 ·rw [List.getElem?_append_right (by nofun)] at e e2
  have h1:=(List.getElem?_eq_some_iff.mp e)
  have h2:=(List.getElem?_eq_some_iff.mp e2)
  obtain ⟨l1,g1⟩:=h1
  obtain ⟨l2,g2⟩:=h2
  have:=List.pairwise_iff_getElem.mp hs (k - a.length) (k+1 - a.length) l1 l2 (by nofun)
  nofun
theorem gK {x:Str}{i:Nat}:At x y x.length i↔i+y.length<=x.length/\(x.cps.toList.drop i).take y.length=y.cps.toList:=by
 unfold At
 rw [subAt_eq,beq_iff_eq]
theorem af (z:Str):z.length=z.cps.toList.length:=by simp [Str.length]
theorem aN (a b:Str):(a++b).cps.toList=a.cps.toList++b.cps.toList:=by
 show ((a.cps++b.cps).toList)=_
 rw [abJ]
theorem ai {a b:Str}(h:a.cps.toList=b.cps.toList):a=b:=Str.ext' (Array.toList_inj.mp h)
theorem Dr {x:Str}{k:Nat}(hx:x.cps.toList.drop a=p++y.cps.toList++r)(hp:nc y.cps.toList p)(hk:k < p.length):¬ At x y x.length (a+k):=by
 intro h
 have h2:=(gK.mp h).2
 rw [← abg,hx,af y] at h2
 exact hp r k hk h2
theorem ua {x:Str}(ha:a<=x.length)(hx:x.cps.toList.drop a=p++y.cps.toList++r):At x y x.length (a+p.length):=by
 refine gK.mpr ⟨?_,?_⟩
 ·have:=congrArg List.length hx
  simp only [List.length_drop,List.length_append] at this
  rw [af y,af x]
  rw [af x] at ha
  nofun
 ·rw [← abg,hx,List.append_assoc,List.drop_left,af y,List.take_left]
theorem bA (y p q:Str)(r:List Str):(Str.join y (p::q::r)).cps.toList=p.cps.toList++y.cps.toList++(Str.join y (q::r)).cps.toList:=by
 show (p++y++Str.join y (q::r)).cps.toList=_
 rw [aN,aN]
theorem oJ (x y:Str)(hy:1<=y.length):∀ (ps:List Str) (a:Nat) (cuts:List Nat) (f:Nat),ps≠[]->(∀ p ∈ ps,nc y.cps.toList p.cps.toList)->a<=x.length->x.cps.toList.drop a=(Str.join y ps).cps.toList ->
  ChainG x y x.length a cuts f->(∀ k,f<=k->¬ At x y x.length k)->partsFrom x y.length a cuts=ps
 | [],_,_,_,h,_,_,_,_,_=>absurd rfl h
 | [p],a,cuts,f,_,hp,ha,hx,hc,hf=>by
  have hx:x.cps.toList.drop a=p.cps.toList:=hx
  cases cuts with
  | nil =>
   show [strSub x a x.length]=[p]
   congr 1
   apply ai
   rw [strSub_toList,hx]
   apply aah
   have:=congrArg List.length hx
   simp only [List.length_drop] at this
   rw [af x]
   nofun
  | cons c r =>
   exfalso
   obtain ⟨h1,h2,_,_⟩:=hc
   obtain ⟨h3,h4⟩:=gK.mp h2
   have hl:=congrArg List.length hx
   simp only [List.length_drop] at hl
   rw [af x,af y] at h3
   rw [af y] at hy
   have e:c=a+(c - a):=by nofun
   rw [e,← abg,hx,af y] at h4
   have hk:c - a < p.cps.toList.length:=by nofun
   refine hp p (aad ..) [] (c - a) hk ?_
   rw [List.append_assoc,List.drop_append_of_le_length (by nofun),List.take_append_of_le_length (by rw [List.length_drop]; nofun)]
   exact h4
 | p::q::r,a,cuts,f,_,hp,ha,hx,hc,hf=>by
  rw [bA] at hx
  have yes:=ua ha hx
  have no:∀ k,k < p.cps.toList.length->¬ At x y x.length (a+k):=fun k hk=>Dr hx (hp p (aad ..)) hk
  cases cuts with
  | nil =>
   have e:f=a:=hc
   exact absurd yes (hf _ (by nofun))
  | cons c cs =>
   obtain ⟨h1,h2,h3,h4⟩:=hc
   have ec:c=a+p.cps.toList.length:=by
    rcases Nat.lt_trichotomy c (a+p.cps.toList.length) with h | h | h
    ·exact absurd (by rw [show a+(c - a)=c by nofun]; exact h2) (no (c - a) (by nofun))
    ·exact h
    ·exact absurd yes (h3 _ (by nofun) h)
   have yl:=(gK.mp yes).1
   subst ec
   show strSub x a (a+p.cps.toList.length)::partsFrom x y.length (a+p.cps.toList.length+y.length) cs=_
   congr 1
   ·apply ai
    rw [strSub_toList,hx,aaM,List.append_assoc,List.take_left]
   ·refine oJ x y hy (q::r) _ cs f (by simp) (fun z hz=>hp z (aag _ hz)) yl ?_ h4 hf
    rw [Nat.add_assoc,← abg,hx,af y,← List.length_append,List.drop_left]
theorem xI (x:Str):1<=PySem.Builtin.Str.strKind x:=by
 unfold PySem.Builtin.Str.strKind
 split
 ·decide
 ·split <;> decide
theorem gt (y:Str)(hy:1<=y.length)(hk:PySem.Builtin.Str.strKind y=1)(ps:List Str)(hne:ps≠[])(hp:∀ p ∈ ps,nc y.cps.toList p.cps.toList):Txt.split (Str.join y ps) y=ps:=by
 obtain ⟨f,hc,hf⟩:=occ_tight (Str.join y ps) y hy
 have key:=oJ (Str.join y ps) y hy ps 0 _ f hne hp (aam _) rfl hc hf
 unfold Txt.split
 split
 ·rename_i h
  have:=xI (Str.join y ps)
  rw [hk,Bool.or_eq_true,decide_eq_true_iff,decide_eq_true_iff] at h
  have hlt:(Str.join y ps).length < y.length:=by nofun
  match ps,hne with
  | [p],_=>rfl
  | p::q::r,_ =>
   exfalso
   rw [af,bA,List.length_append,List.length_append,af y] at hlt
   nofun
 ·split
  ·rename_i h
   rw [List.isEmpty_iff.mp h] at key
   refine Eq.trans ?_ key
   show [Str.join y ps]=[strSub (Str.join y ps) 0 (Str.join y ps).length]
   rw [sub_whole]
  ·rw [partsBetween_eq]
   exact key
theorem ng {x:Str}(hx:x.cps.toList=p++y.cps.toList++r)(hp:nc y.cps.toList p):Txt.partition x y=(⟨p.toArray⟩,y,⟨r.toArray⟩):=by
 have yes:=ua (a:=0) (aam _) (by rw [aaA]; exact hx)
 have no:∀ k,k < p.length->¬ At x y x.length (0+k):=fun k hk=>Dr (a:=0) (by rw [aaA]; exact hx) hp hk
 rw [abu] at yes
 unfold Txt.partition
 rcases occ_head x y 1 (aac _) with ⟨_,h⟩ | ⟨i,s,e,h1,h2⟩
 ·exact absurd yes (h _)
 ·rw [e]
  have ei:i=p.length:=by
   rcases Nat.lt_trichotomy i p.length with h | h | h
   ·exact absurd (by rw [abu]; exact h1) (no i h)
   ·exact h
   ·exact absurd yes (h2 _ h)
  subst ei
  have hl:=congrArg List.length hx
  simp only [List.length_append] at hl
  show (strSub x 0 p.length,y,strSub x (p.length+y.length) x.length)=_
  have e1:strSub x 0 p.length=⟨p.toArray⟩:=by
   apply ai
   rw [strSub_toList,aaA,Nat.sub_zero,hx,List.append_assoc,List.take_left]
  have e2:strSub x (p.length+y.length) x.length=⟨r.toArray⟩:=by
   apply ai
   rw [strSub_toList,hx,af y,← List.length_append,List.drop_left]
   apply aah
   rw [af x,List.length_append]
   nofun
  rw [e1,e2]
theorem ub {x:Str}(h:∀ i,¬ At x y x.length i):(Txt.partition x y).1=x:=by
 unfold Txt.partition
 rcases occ_head x y 1 (aac _) with ⟨e,_⟩ | ⟨i,s,e,h1,h2⟩
 ·rw [e]
 ·exact absurd h1 (h i)
theorem qA {x:Str}{y':List Nat}(ey:y.cps.toList=c::y')(h:c ∉ x.cps.toList)(i:Nat):¬ At x y x.length i:=by
 intro ha
 obtain ⟨h1,h2⟩:=gK.mp ha
 rw [ey] at h2
 have e1:((x.cps.toList.drop i).take y.length)[0]?=some c:=by rw [h2]; rfl
 have hl:0 < y.length:=by rw [af,ey]; simp
 rw [List.getElem?_take_of_lt hl,List.getElem?_drop] at e1
 exact h (List.mem_of_getElem? e1)
end L2
namespace L2
open PySem PySem.Spec PyProof.Rows
open PySem.Builtin PySem.Builtin.Str
def oK:V->List V->Hp->VK->Prop:=fun x vs H Q=>∃ z:Str,x=.str z/\vs=[]/\tooLong (Txt.upper z).length=false/\Q (.str (Txt.upper z)) H
def iQ (z:Str)(n:Int):Str:=⟨(List.replicate n.toNat z.cps).foldl (·++·) #[]⟩
theorem qB (a:Array Nat)(n:Nat)(acc:Array Nat):((List.replicate n a).foldl (·++·) acc).toList=acc.toList++(List.replicate n a.toList).flatten:=by
 induction n generalizing acc with
 | zero=>simp
 | succ n ih=>rw [List.replicate_succ,abH,ih,abJ,List.replicate_succ,List.flatten_cons,List.append_assoc]
theorem iR (z:Str)(n:Int):(iQ z n).cps.toList=(List.replicate n.toNat z.cps.toList).flatten:=(qB _ _ _).trans (List.nil_append _)
theorem gu (z:Str)(n:Int):(iQ z n).length=z.length * n.toNat:=by
 have h:=congrArg List.length (iR z n)
 rw [List.length_flatten,List.map_replicate,List.sum_replicate_nat] at h
 exact h.trans (Nat.mul_comm _ _)
def G7:R2:=fun x y H Q=>∃ (z:Str) (n:Int),x=.str z/\y=.int n/\1 < n/\0 < z.length/\z.length * n.toNat<=16777216/\Q (.str (iQ z n)) H
section
variable {X:Cx}
theorem xJ:MtR X "str.upper" oK:=by
 intro pins s σ H x vs v us Q I rx rv h
 obtain ⟨z,rfl,rfl,hz,q⟩:=h
 obtain ⟨t,rfl⟩:=rx
 cases rv
 exact PySem.W.KXw.upper rfl hz fun t' k=>⟨.str _,H,I.tok k,⟨t',rfl⟩,q⟩
theorem xK:BMt X "str.upper" oK:=⟨xJ⟩
theorem xL:OpR X (binaryOp .Mult) G7:=by
 intro pins s σ H x y v u Q I rx ry h
 obtain ⟨z,n,rfl,rfl,h1,h0,hl,q⟩:=h
 obtain ⟨t,rfl⟩:=rx
 obtain ⟨t',rfl⟩:=ry
 have hn:n.toNat<=16777216:=aaq (Nat.le_mul_of_pos_left _ h0) hl
 have hz:z.length<=16777216:=aaq (Nat.le_mul_of_pos_right _ (by nofun)) hl
 have e1:(n == 1 || z.length == 0)=false:=by
  rw [Bool.or_eq_false_iff,beq_eq_false_iff_ne,beq_eq_false_iff_ne]
  exact ⟨by nofun,by nofun⟩
 refine PySem.P.mul_str (by rw [Bool.or_eq_false_iff,decide_eq_false_iff_not,decide_eq_false_iff_not]; exact ⟨by nofun,by nofun⟩) (fun _ _ hgt=>?_) (fun _ _=>?_) ?_
 ·have:((z.length * n.toNat:Nat):Int)=z.length * n:=by rw [Int.natCast_mul,Int.toNat_of_nonneg (by nofun)]
  have h2:(z.length:Int) * n<=2 ^ 63 - 1:=by nofun
  have:=Int.lt_iff_add_one_le.mp hgt
  have h3:=(Int.le_ediv_iff_mul_le (c:=n) (a:=(z.length:Int)) (b:=2 ^ 63 - 1) (by nofun)).mpr h2
  nofun
 ·have:=sizeLine_eq; unfold tooLong; simp; nofun
 ·rw [if_neg (by nofun),if_neg (by rw [e1]; decide)]
  refine ⟨?_,.str _,H,I.tok _,⟨_,rfl⟩,q⟩
  exact (gu z n).symm ▸ (by have:=sizeLine_eq; nofun)
end
section
variable {K:Frag} {μ:List Nat}
def Ki (d e:D)(P:OV->Prop):Prop:=match d with
 | .str z=>(match e with
  | .int n=>(1 < n/\0 < z.length/\z.length * n.toNat<=16777216)/\P (.fz (.str (iQ z n)))
  | _=>False)
 | _=>False
def fT0 (f:Str->(OV->Prop)->Prop)(fo:FE):FE:=fun ρ Q=>fo ρ fun r ρ1=>on1 ρ1 r fun d=>match d with
 | .str z=>f z fun o=>Q (.ov o) ρ1
 | _=>False
def uc (z:Str)(P:OV->Prop):Prop:=tooLong (Txt.upper z).length=false/\P (.fz (.str (Txt.upper z)))
theorem xM {to:TE}{fo:FE}(ho:EF K μ to fo):EF K μ (tBM K "str" oK to la) (fT0 uc fo):=⟨by
 intro F Z H τ σ ρ A Q P vw R h q
 refine ho.h vw R h fun r1 ρ1 x F1 H1 A1 B1 h1 s1 R1 v1 f1=>?_
 obtain ⟨d,e1,h2⟩:=bS h1
 cases d
 case str z =>
  have ex:=(R1.acc v1 e1).str_eq
  subst ex
  exact ⟨rfl,z,rfl,rfl,h2.1,ay (P:=fun o=>P (.ov o) ρ1) R1.fh (R1.after fun o v F3 H3 B p s3 R3 ow fr=>q _ _ _ _ _ _ _ p (s1.trans s3) R3 ow fr) (.str _) h2.2⟩
 all_goals exact False.elim h2⟩
end
end L2
namespace L2
open PySem PySem.Spec PyProof.Rows
variable{X:Cx}{e st elt iter tg:Expr}{te ta:TE}{p2 pos py spos:Pos}{μ ixs m:List Nat}{fe:FE}{A:Around}{E:XK}{s s0 s':Shared}{env:Env}{outer:List Env}{P:Program}{w:World}{mg:Str->Option Value}{base:Heap}{N T F ps:List Str}{qual y:Str}{scope:Scope}{f Ch C:Addr}{cd:Value}{H0 H:Hp}{pins:List (Addr×Obj)}{σ:St}{ifs:List Expr}{use:Option (Value->Sem Unit)}{QQ:Value->Shared->Prop}{wi:TI}{tc:TT}{i k n:Nat}{t:TA}{cr:List D->Prop}{fa:FA}
def RvR (X:Cx)(r:V->Hp->VK->Prop):Prop :=
 ∀ (pins:List (Addr×Obj)) (s:Shared) (σ:St) (H:Hp) (x:V) (v:Value) (t:Tok) (sl:Addr) (Q:VK),Inv X pins σ H s->RelV x v->s.heap.IsSliceOf sl .none .none (.int (-1) t)->r x H Q ->
  ∃ T id,typeLookup (.type T) "__getitem__" = pure (some (.builtin id))/\s.TypeIs v T/\wpAny (model X.prog X.w) X.A (getItem v (.ref sl)) (EP X pins σ Q) X.xe s
def tRv (r:V->Hp->VK->Prop)(te:TE):TE:=fun σ H Q=>te σ H fun x H1=>r x H1 Q
theorem G8 {r:V->Hp->VK->Prop}(hr:RvR X r)(he:PE X e te)(hst:PE X st (tC (.int (-1)))):PE X (.Subscript e (.Slice none none (some st) p2) pos) (tRv r te):=by
 intro pins s σ H Q I h
 refine Subscript_ (thn (he pins s σ H _ I h) fun v s1 ⟨x,H1,I1,r1,q1⟩=>?_)
 refine wpAny_Slice ?_
 rw [evalPart_none]
 refine aab (aab ?_)
 refine thn (hst pins s1 σ H1 (fun w H2=>w=.int (-1)/\H2=H1) I1 ⟨rfl,rfl⟩) fun vs s2 ⟨y,H2,I2,r2,q2⟩=>?_
 obtain ⟨rfl,rfl⟩:=q2
 obtain ⟨t,rfl⟩:=r2
 have I4:Inv X pins σ H2 { s2 with heap:=s2.heap.push { cls:=.type "slice", data:=.fields #[.none,.none,.int (-1) t] } }:=I2.kept (t':=s2.toks) fun b ob q=>Heap.get?_push_of_some _ q
 obtain ⟨T,id,hT,ht,hg⟩:=hr pins { s2 with heap:=s2.heap.push { cls:=.type "slice", data:=.fields #[.none,.none,.int (-1) t] } } σ H2 x v t s2.heap.objs.size Q I4 r1 (Heap.IsSliceOf.new ..) q1
 show wpAny (model X.prog X.w) X.A (subscriptTail e (.Slice none none (some st) p2) v (.ref s2.heap.objs.size)) (EP X pins σ Q) X.xe { s2 with heap:=s2.heap.push { cls:=.type "slice", data:=.fields #[.none,.none,.int (-1) t] } }
 exact tail_any (ops:=[v,.ref s2.heap.objs.size]) ht hT hg (by with_unfolding_all rfl)
def Kj (K:Frag):V->Hp->VK->Prop:=fun x H Q=>∃ a xs,x=.ref a/\SqL K H a xs/\∀ p,H p=none->Q (.ref p) (upd H p (.lst xs.reverse))
theorem Ds:RvR X (Kj X.K):=by
 intro pins s σ H x v t sl Q I rx hs h
 obtain ⟨a,xs,rfl,hx,q⟩:=h
 cases rx
 obtain ⟨its,r,ht,hz⟩:=I.list hx
 have hlen:=r.length
 refine ⟨"list", _,slot_list_getitem.lookup,ht.isList.typeIs,?_⟩
 refine wpAny_getItem_list_slice ht.isList hs .none .none (.int (-1) t) (by simp) ?_ (by rw [List.size_toArray] <;> nofun)
 rw [PySem.W.krv_pick]
 exact ⟨.ref s.heap.objs.size,_,I.laid (t':=s.toks) (o:=.lst xs.reverse) (fun b ob q=>Heap.get?_push_of_some _ q) (aac _) ⟨by rw [abm]; exact hz,_,0,r.reverse,Heap.get?_push_size _ rfl⟩,rfl,q _ (I.hok.fresh (aac _))⟩
def Im (z:Str):Str:=⟨z.cps.toList.reverse.toArray⟩
def Kk:V->Hp->VK->Prop:=fun x H Q=>∃ z:Str,x=.str z/\z.length<=sizeLine/\Q (.str (Im z)) H
theorem qC (z:Str)(t:Tok):(⟨((slicePicked z none none (some (-1,t))).filterMap (z.cps[·]?)).toArray⟩:Str)=Im z:=by
 refine eX ?_
 show ((Builtin.Str.strSliceIndices none none (-1) z.length).filterMap (z.cps[·]?)).toArray.toList=z.cps.toList.reverse.toArray.toList
 rw [picked_rev,abG,abG]
 rw [PyProof.Rows.filterMap_get,aaZ]
 ·refine List.ext_getElem (by simp [Str.length]) fun i h1 h2=>?_
  have hi:i < z.cps.size:=by simpa [Str.length] using h1
  have hj:z.cps.size - 1 - i < z.cps.size:=by nofun
  rw [List.getElem_map,List.getElem_range,List.getElem_reverse]
  show z.cps.getD (z.cps.size - 1 - i) 0=_
  rw [Array.getD_eq_getD_getElem?,Array.getElem?_eq_getElem hj]
  rfl
 ·intro i hi
  obtain ⟨k,hk,rfl⟩:=List.mem_map.mp hi
  have hk':k < z.length:=List.mem_range.mp hk
  show z.length - 1 - k < z.length
  nofun
theorem G9:RvR X Kk:=by
 intro pins s σ H x v t sl Q I rx hs h
 obtain ⟨z,rfl,hz,q⟩:=h
 obtain ⟨u,rfl⟩:=rx
 refine ⟨"str", _,PySem.F.slot_str_getitem.lookup,typeIs_str _ _ _,?_⟩
 obtain ⟨o,ho,hc,hd⟩:=hs
 refine aa1 (l:=none) (u:=none) (st:=some (-1,t)) ⟨o,ho,hc,hd⟩ rfl ?_
 show (Made.str _).post _ _
 rw [qC]
 exact ⟨by show (z.cps.toList.reverse.toArray).size<=sizeLine; rw [List.size_toArray,abm]; exact hz,.str _,H,I.tok _,⟨_,rfl⟩,q⟩
def Jp (K:Frag):V->Hp->VK->Prop:=fun x H Q=>Kk x H Q∨Kj K x H Q
theorem Ha:RvR X (Jp X.K):=by
 intro pins s σ H x v t sl Q I rx hs h
 rcases h with h | h
 ·exact G9 pins s σ H x v t sl Q I rx hs h
 ·exact Ds pins s σ H x v t sl Q I rx hs h
theorem Hb (K:Frag)(he:BE X e te)(hst:BE X st (tC (.int (-1))))(h:X.K=K):BE X (.Subscript e (.Slice none none (some st) p2) pos) (tRv (Jp K) te):=by
 subst h; exact ⟨G8 Ha he.h hst.h⟩
section
variable {K:Frag} 
def fRv (fe:FE):FE:=fun ρ Q=>fe ρ fun r ρ1=>on1 ρ1 r fun d=>match d with
 | .str z=>z.length<=sizeLine/\Q (.ov (.fz (.str (Im z)))) ρ1
 | .lst ds=>Q (.ov (.fl ds.reverse)) ρ1
 | _=>False
theorem Jq (he:EF K μ te fe):EF K μ (tRv (Jp K) te) (fRv fe):=⟨by
 intro F Z H τ σ ρ A Q P vw R h q
 refine he.h vw R h fun r1 ρ1 x F1 H1 A1 B1 h1 s1 R1 v1 f1=>?_
 obtain ⟨d,e1,h2⟩:=bS h1
 have n:=R1.after (P:=fun o=>P (.ov o) ρ1) fun o v F3 H3 B p s3 R3 ow fr=>q _ _ _ _ _ _ _ p (s1.trans s3) R3 ow fr
 cases d
 case str z=>exact .inl ⟨z,(R1.acc v1 e1).str_eq,h2.1,ay (P:=fun o=>P (.ov o) ρ1) R1.fh n (.str _) h2.2⟩
 case lst ds =>
  obtain ⟨a,xs,rfl,a1,a2⟩:=(R1.acc v1 e1).asL R1.fh
  exact .inr ⟨a,xs,rfl,a1,cm (P:=fun o=>P (.ov o) ρ1) R1.fh n a2.reverse h2⟩
 all_goals exact False.elim h2⟩
end
def Hc (B:Heap)(l:List Env)(ea:Addr)(cls a0 fl:Value)(h:Heap):Prop:=B.StaysIn h/\B.get? ea=none/\h.FunFrames B l/\h.TracedAtW B ea cls a0 fl
theorem l9 {B B' h h':Heap}:∀ {l:List Env},h.FunFrames B l->(∀ b ∈ frs l,∀ o,h.get? b=some o->(∀ vs,o.data≠.fields vs)->(∃ o',h'.get? b=some o'/\o'.data=o.data)/\B'.get? b=none)->h'.FunFrames B' l
 | [],_,_=>trivial
 | env::r,⟨q1,⟨L,o,q2,_,q3,q4⟩,q5⟩,k=>by
  have hin:L ∈ frs (env::r):=by unfold frs; rw [aaz,q2]; exact aad ..
  obtain ⟨⟨o',w1,w2⟩,w3⟩:=k L hin o q3 q4
  refine ⟨q1,⟨L,o',q2,w3,w1,fun vs z=>q4 vs (w2.symm.trans z)⟩,l9 q5 fun b hb=>k b ?_⟩
  unfold frs
  rw [aaz,q2]
  exact aag _ hb
section
variable {M:Model}  {E:Value->Shared->Prop} 
theorem ma {B:Heap}{L ea:Addr}{cls a0 fl:Value}{Q:Unit->Shared->Prop}(hfr:A.frames=some (env::outer))(hf:env.frame=some L)(hh:Hc B (env::outer) ea cls a0 fl s.heap)
  (hQ:∀ h',Heap.FlyingW B outer ea cls a0 h'->s.heap.UpToSlots h'->Q () { s with heap:=h' }):wpAny M A (leaving env (.ref ea)) Q E s:=by
 obtain ⟨b1,b2,b3,b4⟩:=hh
 by_cases hfl:fl=rawInt L
 ·subst hfl
  unfold leaving
  refine aaa (wpAny_noteFrame_againW hf b4 ?_)
  refine wpAny_landsW (base:=B) (l:=env::outer) (L:=L) ⟨b1,b2,b3,b4⟩ fun h' g up=>?_
  obtain ⟨g1,g2,⟨_,_,g3⟩,g4⟩:=g
  exact hQ h' ⟨g1,g2,g3,g4⟩ up
 ·obtain ⟨oe,xs,T,oT,ys,c1,⟨rfl,c2⟩,c3,c4,c5,c6,c7,c8,c9⟩:=b4
  unfold leaving noteFrame
  simp only [hf]
  refine aaa (aaa (abB c1 c3 c4 ?_))
  rw [if_pos (show (Value.ref T != Value.none)=true from rfl)]
  refine aaa (abB c7 c8 c9 ?_)
  rw [if_neg (fun z=>hfl (eq_of_beq z))]
  refine aaa (wpAny_setField c7 c8 (Array.getElem?_eq_some_iff.mp c9).1 ?_)
  have oth:∀ b,b≠T->(s.heap.update T (Obj.mapFields (·.setIfInBounds 3 Value.none))).get? b=s.heap.get? b:=fun b hb=>Heap.get?_update_other _ _ (abr hb)
  have nrec:∀ b o,s.heap.get? b=some o->(∀ vs,o.data≠.fields vs)->b≠T:=fun b o hb hnf q=>by
   rw [q,c7] at hb; cases hb; exact hnf ys c8
  refine wpAny_newEntryW hfr (b3.of_keeps fun b o hb hnf=>⟨o,(oth b (nrec b o hb hnf)).trans hb,rfl⟩) hf ((oth ea (abr c6)).trans c1)
   (fun b o hbo=>(oth b fun q=>by rw [q,c5] at hbo; cases hbo).trans (b1 b o hbo)) b2 c3 (Array.getElem?_eq_some_iff.mp c4).1 c2 fun h' g=>?_
  obtain ⟨g1,⟨_,_,g2⟩,g3,g4⟩:=g
  exact hQ h' ⟨g1,b2,g2,g3⟩ fun b o hb hnf=>g4 b o ((oth b (nrec b o hb hnf)).trans hb) hnf
end
def CXa (P:Program)(w:World)(Ch:Addr)(l:List Env)(H0 H:Hp)(s:Shared)(E:XK)(e:Value)(s':Shared):Prop:=∃ (ea C:Addr) (a0 fl:Value) (B:Heap) (H':Hp),e=.ref ea/\Hc B l ea (.ref C) a0 fl s'.heap/\HOk P w H' B/\Same H0 H' /\
 (∀ b o,s.heap.get? b=some o->H b=none->b ∉ frs l->b≠Ch->B.get? b=some o)/\(∀ b o,s.heap.get? b=some o->H b=none->H' b=none)/\(∀ b ∈ frs l,∀ o,s.heap.get? b=some o->∃ sl,s'.heap.get? b=some { o with slots:=sl }) /\
 s'.os=s.os/\AllBare s'.gens/\H' ea=none/\s.heap.get? ea=none/\E (.ref C) none H'
theorem jK {K:Frag}{e:Value}
  (I:Inv (dL (CXr P w) P w K mg base N qual scope f cd A outer s0 H0 E) pins σ H s) (hCh:s0.heap.objs.size<=Ch) (c:CXa P w Ch (envOfC qual scope s0.heap.objs.size f cd::outer) H0 H s E e s') :
  (dL (CXr P w) P w K mg base N qual scope f cd A outer s0 H0 E).xe e s':=by
 obtain ⟨ea,C,a0,fl,B,H',rfl,al,hok,same,bk,fre,slt,os,bare,n1,n2,he⟩:=c
 have hfr:(A.deeper (envOfC qual scope s0.heap.objs.size f cd)).frames=some (envOfC qual scope s0.heap.objs.size f cd::outer):=I.ok.frames
 have hbase:Un (frs outer) [] H0 H s0.heap s.heap:=I.base
 have hfunO:s0.heap.FunFrames base outer:=I.ok.funs
 have hfrf:∀ b ∈ frs outer,H0 b=none:=I.ok.frf
 have hos:s.os=s0.os:=I.os
 show wpAny (model P w) (A.deeper (envOfC qual scope s0.heap.objs.size f cd)) (leaving (envOfC qual scope s0.heap.objs.size f cd) (.ref ea)) (fun _ s''=>CXr P w outer H0 s0 E (.ref ea) s'') (fun e' s''=>CXr P w outer H0 s0 E e' s'') s'
 refine ma hfr rfl al fun h2 fl2 up=>?_
 refine ⟨ea,C,a0,B,H',rfl,fl2,hok,same,fun b o q n hb=>?_,fun b o q n=>?_,fun b hb o q=>?_,os.trans hos,bare,n1,?_,he⟩
 ·refine bk b o (hbase.keep b o q n hb (by simp)) (hbase.free b o q n (by simp)) (fun z=>?_) (fun z=>?_)
  ·unfold frs at z
   rw [aaz] at z
   rcases List.mem_cons.mp z with e | e
   ·have hlt:=aaf q
    rw [show b=s0.heap.objs.size from e] at hlt
    exact absurd hlt (aaI _)
   ·exact hb e
  ·have hlt:=aaf q
   rw [z] at hlt
   exact absurd (aan hlt hCh) (aaI _)
 ·obtain ⟨o',q'⟩:=hbase.there b o q (by simp)
  exact fre b o' q' (hbase.free b o q n (by simp))
 ·obtain ⟨sl,q1⟩:=hbase.slot b o q (hfrf b hb) hb (by simp)
  obtain ⟨_,o',q2,q3⟩:=hfunO.mem hb
  rw [q] at q2
  cases q2
  obtain ⟨sl1,q4⟩:=slt b (by unfold frs; rw [aaz]; exact aag _ hb) _ q1
  obtain ⟨sl2,q5⟩:=up b _ q4 q3
  exact ⟨sl2,q5⟩
 ·cases q:s0.heap.get? ea with
  | none=>rfl
  | some o =>
   obtain ⟨o',ho'⟩:=hbase.there ea o q (by simp)
   rw [n2] at ho'; cases ho'
section
variable {prog:Program}   {E:Value->Shared->Prop} {R:Result->Shared->Prop} 
theorem kt {target:Expr}{it acc:Value}(I:Nat->Shared->Prop)
  (turn:∀ n s,I n s->wpAny (model prog w) A (pyNext it) (fun r s₁=>match r with
   | none=>R (.ok .next) s₁
   | some v=>wpAny (model prog w) A (letOwnedTupleGo target it v) (fun _ s₁'=>wpAny (model prog w) A (assign target env v) (fun _ s₂ =>
     wpAny (model prog w) A (forIn ifs true fun c r=>if r=true then do let ok ← isTrue c env (eval c env); pure (ForInStep.yield ok) else pure (ForInStep.yield r)) (fun ok s₃ =>
      if ok=true then wpAny (model prog w) A (eval elt env) (fun x s₄ =>
       wpAny (model prog w) A (call (.builtin "list.append") [acc,x]) (fun _ s₅=>∃ m,m < n/\I m s₅) (fun _ _=>False) s₄) (notedBy (model prog w) A env fun e s'=>R (.error e) s') s₃
      else ∃ m,m < n/\I m s₃) (fun _ _=>False) s₂) (fun _ _=>False) s₁') (fun _ _=>False) s₁) (fun _ _=>False) s)
  (n:Nat) (h:I n s) :
  codeAny (model prog w) A (.compLoop (.ListComp elt [⟨target,iter,ifs,0⟩] scope pos) 0 it acc env) R s:=by
 refine codeAny_loop rfl I (fun n s hI=>?_) n h
 show wpAny _ A ((compTurn (.ListComp elt [⟨target,iter,ifs,0⟩] scope pos) 0 it acc env).onRaise (fun x=>do noteFrame x env; theTreesLotGoes x)) _ _ s
 refine wpAny_noted ?_
 rw [compTurn_list]
 refine aaa (wpAny_standAt (aaa (aaG (turn n s hI) (fun r s₁ h₁=>?_) fun _ _ h'=>h'.elim)))
 cases r with
 | none=>exact aab h₁
 | some v =>
  refine aaa (aaG h₁ (fun _ s₁' h₁'=>?_) fun _ _ h'=>h'.elim)
  refine aaa (aaG h₁' (fun _ s₂ h₂=>aaa (aaG h₂ (fun ok s₃ h₃=>?_) fun _ _ h'=>h'.elim)) fun _ _ h'=>h'.elim)
  cases ok with
  | false=>exact aab ⟨rfl,h₃⟩
  | true =>
   exact aaa (aaa (aaG h₃ (fun x s₄ h₄=>aaa (aaG h₄ (fun _ s₅ h₅=>aab (aab ⟨rfl,h₅⟩)) fun _ _ h'=>h'.elim)) fun _ _ h'=>h'))
end
def XEc (X Y:Cx)(E:XK)(e:Value)(s':Shared):Prop:=∃ (pinsY:List (Addr×Obj)) (σY:St) (HY:Hp) (sY:Shared),Inv Y pinsY σY HY sY/\CXr X.prog X.w X.stack HY sY E e s'
section
variable         {fp:List Addr}
theorem xN {cl:List (Str×Addr)}{e:Value}{acc:Value}(hstk:X.stack=X.env::X.outer/\X.env.frame=some X.env.locals)
  (hx:∀ (Ch:Addr) (σ:St) (H:Hp) (s:Shared) (e:Value) (s':Shared),Inv X pins σ H s->X.s₀.heap.objs.size<=Ch->CXa X.prog X.w Ch X.stack H0 H s E e s'->X.xe e s')
  (I:Inv X pins σ H s) (f3:∀ b ∈ fp,nF X pins H b) (c:XEc X (aL X N scope cl s.heap.objs.size s H fp) (fun c x H'=>E c x H'/\Same H0 H') e s') :
  notedBy (model X.prog X.w) X.A (compEnvC scope cl s.heap.objs.size X.env) (fun e s''=>compPost (model X.prog X.w) X.A X.xe use QQ acc s.heap.objs.size (.error e) s'') e s':=by
 obtain ⟨pinsY,σY,HY,sY,J,ea,Cc,a0,B,H',rfl,fl,hok,same,bk,fre,slt,os,bare,n1,n2,hE,hS⟩:=c
 have un:Un (frs X.stack) fp H HY s.heap sY.heap:=J.base
 have hosY:sY.os=s.os:=J.os
 have IX:Inv X pins σ HY sY:=I.call' hosY un J.hok J.bare fun b hb=>⟨(f3 b hb).2.2.2.1,(f3 b hb).2.1,(f3 b hb).2.2.2.2.1,(f3 b hb).2.2.2.2.2⟩
 have hst:=I.stack
 obtain ⟨m,⟨oC,es,ep,hoC,hdC,hsk,hm⟩,_⟩:=J.loc
 have hoC:sY.heap.get? s.heap.objs.size=some oC:=hoC
 have hfree:HY s.heap.objs.size=none:=J.free
 have hCn:s.heap.objs.size ∉ frs X.stack:=fun z=>by
  obtain ⟨_,o,ho,_⟩:=hst.mem z
  exact absurd (aaf ho) (aaI _)
 have hBC:B.get? s.heap.objs.size=some oC:=bk _ oC hoC hfree hCn
 have hfr:X.A.frames=some (X.env::X.outer):=by rw [← hstk.1]; exact I.ok.frames
 have fl':=fl
 rw [hstk.1] at fl'
 show wpAny (model X.prog X.w) X.A (noteFrame (.ref ea) X.env) _ _ s'
 refine wpAny_looks_onW hfr hstk.2 fl' fun h4 held up4=>?_
 obtain ⟨k1,k2,k3,oe,xs,Tb,oT,ys,c1,c2,c3,c4,c5,c6,c7,c8,c9⟩:=held
 have hC4:h4.get? s.heap.objs.size=some oC:=k1 _ _ hBC
 have neE:ea≠s.heap.objs.size:=fun z=>by rw [z,hC4] at c1; cases c1; rw [hdC] at c3; cases c3
 have neT:Tb≠s.heap.objs.size:=fun z=>by rw [z,hC4] at c7; cases c7; rw [hdC] at c8; cases c8
 have core:∃ m,h4.Ns s.heap.objs.size m/\∀ h5,Heap.SameBut s.heap.objs.size h4 h5->∀ cenv:Env,cenv.locals=s.heap.objs.size->wpAny (model X.prog X.w) X.A (passOn "comprehension.variables-let-go" (.ref ea) cenv:Sem Value) (fun _ _=>False) X.xe { s' with heap:=h5 }:=by
  refine ⟨m,⟨oC,es,ep,hC4,hdC,hsk,hm⟩,fun h5 sb cenv _=>?_⟩
  have e5:h5.get? ea=some oe:=(sb.2 ea neE).trans c1
  have t5:h5.get? Tb=some oT:=(sb.2 Tb neT).trans c7
  unfold PySem.passOn
  refine aaa (abB e5 c3 c4 ?_)
  rw [if_neg (show ¬ ((Value.ref Tb == Value.none)=true) from Bool.false_ne_true)]
  unfold setFlight
  refine aaa (aaa (abB e5 c3 c4 ?_))
  rw [if_pos (show (Value.ref Tb != Value.none)=true from rfl)]
  refine wpAny_setField t5 c8 (Array.getElem?_eq_some_iff.mp c9).1 (wpAny_throw ?_)
  generalize (cenv.frame.elim Value.none fun f=>rawInt f)=flv
  have oth:∀ b,b≠Tb->(h5.update Tb (Obj.mapFields (·.setIfInBounds 3 flv))).get? b=h5.get? b:=fun b hb=>Heap.get?_update_other _ _ (abr hb)
  refine hx s.heap.objs.size σ HY sY _ _ IX I.sz ⟨ea,Cc,a0,flv,PySem.W.hideAll B [s.heap.objs.size],H',rfl,⟨fun b o q=>?_,?_,?_,?_⟩,oF hok (fun b hb=>?_),hS,fun b o q n hb hc=>abD _ (bk b o q n hb) (by exists hc),fre,fun b hb o q=>?_,os,bare,n1,n2,hE⟩
  ·have q0:=aa5 _ q
   have nb:b≠s.heap.objs.size:=fun z=>by rw [z,PySem.W.hideAll_none _ (by simp)] at q; cases q
   exact (oth b fun z=>by rw [z,c5] at q0; cases q0).trans ((sb.2 b nb).trans (k1 b o q0))
  ·cases q:(PySem.W.hideAll B [s.heap.objs.size]).get? ea with
   | none=>rfl
   | some o=>have q0:=aa5 _ q; rw [k2] at q0; cases q0
  ·rw [hstk.1]
   refine l9 k3 fun b hb o ho hnf=>⟨⟨o,?_,rfl⟩,?_⟩
   ·have nb:b≠s.heap.objs.size:=fun z=>hCn (by rw [hstk.1,← z]; exact hb)
    exact (oth b fun z=>by rw [z,c7] at ho; cases ho; exact hnf ys c8).trans ((sb.2 b nb).trans ho)
   ·cases q:(PySem.W.hideAll B [s.heap.objs.size]).get? b with
    | none=>rfl
    | some o=>have q0:=aa5 _ q; rw [(k3.mem hb).1] at q0; cases q0
  ·refine ⟨oe,xs,Tb,_,_,(oth ea (abr c6)).trans e5,c2,c3,c4,?_,c6,Heap.get?_update_self _ t5 (Obj.isFreed_of_fields (Obj.data_mapFields c8 _)),Obj.data_mapFields c8 _,?_⟩
   ·cases q:(PySem.W.hideAll B [s.heap.objs.size]).get? Tb with
    | none=>rfl
    | some o=>have q0:=aa5 _ q; rw [c5] at q0; cases q0
   ·have:=(Array.getElem?_eq_some_iff.mp c9).1
    simp [this]
  ·have e:b=s.heap.objs.size:=(by exists hb)
   rw [e]
   exact fre _ oC hoC hfree
  ·obtain ⟨_,o0,w1,w2⟩:=hst.mem hb
   obtain ⟨_,oY,w3,w4⟩:=IX.stack.mem hb
   rw [q] at w3
   cases w3
   obtain ⟨sl1,q4⟩:=slt b hb o q
   obtain ⟨sl2,q5⟩:=up4 b _ q4 w4
   have nb:b≠s.heap.objs.size:=fun z=>hCn (by rw [← z]; exact hb)
   exact ⟨sl2,(oth b fun z=>by rw [z,c7] at q5; cases q5; exact w4 ys c8).trans ((sb.2 b nb).trans q5)⟩
 cases use <;> exact core
theorem ud {pos':Pos}{g:TG}(hc:X.calm=true)(S:CompScope X T F ixs scope)
  (hi:PI X tg iter wi)
  (hg:∀ C s H fp,PG (aL X (T++F) scope (am X.env scope.names []) C s H fp) tg g)
  (ht:∀ C s H fp,Ak (aL X (T++F) scope (am X.env scope.names []) C s H fp) ifs tc)
  (he:∀ C s H fp,PE ((aL X (T++F) scope (am X.env scope.names []) C s H fp).wish (XEc X (aL X (T++F) scope (am X.env scope.names []) C s H fp) fun c x H'=>E c x H'/\Same H0 H')) elt te)
  (hstk:X.stack=X.env::X.outer/\X.env.frame=some X.env.locals) (hx:∀ (pins:List (Addr×Obj)) (Ch:Addr) (σ:St) (H:Hp) (s:Shared) (e:Value) (s':Shared),Inv X pins σ H s->X.s₀.heap.objs.size<=Ch->CXa X.prog X.w Ch X.stack H0 H s E e s'->X.xe e s')
  (hs:∀ x,foldedSetIterable iter X.env x=pure x)       {Q:VK} (I:Inv X pins σ H s) (h:eL T.length ixs wi g tc te σ H Q)
  (fine:∀ (D C:Addr) (H5:Hp) (s6:Shared) (f:Flow),(∃ m,s6.heap.Ns C m)->H5 C=none->C≠X.env.locals->(∀ x c,X.env.cells.lookup x=some c->c≠C)->X.s₀.heap.objs.size<=C->(∀ p ∈ X.pn++pins,p.1≠C) ->
   (∀ h7,Heap.SameBut C s6.heap h7->Inv X pins σ H5 { s6 with heap:=h7 })->Q (.ref D) H5->compPost (model X.prog X.w) X.A X.xe use QQ (.ref D) C (.ok f) s6) :
  wpAny (model X.prog X.w) X.A (comprehension (.ListComp elt [⟨tg,iter,ifs,0⟩] scope pos) scope X.env pos' (newList []) false (eval iter X.env) use) QQ X.xe s:=by
 have hall:∀ y ∈ scope.names,y.2=.free->∃ c,X.env.cells.lookup y.1=some c:=fun y hy hf=>by
  rcases S.out y hy hf with e | e
  ·exact I.ok.has _ (.inl e)
  ·exact I.ok.has _ (.inr e)
 refine wpAny_comprehension_free (use:=use) (cl:=am X.env scope.names []) rfl hs (fN hall) S.kind S.names (thn (hi pins s σ H _ I h) fun v s1 h1=>thn h1 fun itv s2 h2=>?_)
 obtain ⟨it,fp,tn,J,H2,e,I2,TT,st2,f2,q2⟩:=h2
 subst e
 refine aaF ?_
 -- the list is laid
 have I3:Inv X pins σ (upd H2 s2.heap.objs.size (.lst [])) { s2 with heap:=s2.heap.push { cls:=.type "list", dict:=none,data:=.seq ([]:List Value).toArray } } :=
  I2.laid (t':=s2.toks) (fun b u q=>Heap.get?_push_of_some _ q) (aac _) ⟨aam _,[],0,.nil,Heap.get?_push_size _ rfl⟩
 have hD:H2 s2.heap.objs.size=none:=I2.hok.fresh (aac _)
 have hfo:∀ b ∈ fp,∃ o,s2.heap.get? b=some o:=fun b hb=>let ⟨o,e,_⟩:=TT.obj _ _ st2 b hb; ⟨o,e⟩
 have neD:∀ b ∈ fp,b≠s2.heap.objs.size:=fun b hb=>by obtain ⟨o,e⟩:=hfo b hb; exact aal (aaf e)
 have f3:∀ b ∈ fp,nF X pins (upd H2 s2.heap.objs.size (.lst [])) b:=fun b hb=>by
  obtain ⟨a1,a2⟩:=f2 b hb
  exact ⟨by rw [aU (neD b hb)]; exact a1,a2⟩
 obtain ⟨W,⟨m0,w0⟩,turn⟩:=q2 s2.heap.objs.size hD
 generalize hs3:({ s2 with heap:=s2.heap.push { cls:=.type "list", dict:=none,data:=.seq ([]:List Value).toArray } }:Shared)=s3 at I3 ⊢
 generalize hH3:upd H2 s2.heap.objs.size (.lst [])=H3 at I3 f3 w0
 have hfo3:∀ b ∈ fp,∃ o,s3.heap.get? b=some o:=fun b hb=>by
  obtain ⟨o,e⟩:=hfo b hb
  rw [← hs3]
  exact ⟨o,Heap.get?_push_of_some _ e⟩
 have st3:tn 0 s3.heap:=TT.keep _ _ _ st2 fun b hb o e=>by rw [← hs3]; exact Heap.get?_push_of_some _ e
 refine wpAny_newFunctionEnv S.nocell (by intro y hy; simp at hy) (fun h4 hns4 hsb4=>?_) S.kind
 have old:∀ b o,s3.heap.get? b=some o->h4.get? b=some o:=fun b o e=>hsb4.extBut b o (aal (aaf e)) (Heap.get?_push_of_some _ e)
 have J4:=nM I3 S f3 hfo3 (t':=s3.toks+([]:List (Str×Value)).length) old hns4
 generalize hs4:({ s3 with heap:=h4,toks:=s3.toks+([]:List (Str×Value)).length }:Shared)=s4 at J4 ⊢
 have st4:tn 0 s4.heap:=by rw [← hs4]; exact TT.keep _ _ _ st3 fun b hb o e=>old b o e
 have hg':=hg s3.heap.objs.size s3 H3 fp
 have ht':=ht s3.heap.objs.size s3 H3 fp
 have he':=he s3.heap.objs.size s3 H3 fp
 have err:∀ e s',XEc X (aL X (T++F) scope (am X.env scope.names []) s3.heap.objs.size s3 H3 fp) (fun c x H'=>E c x H'/\Same H0 H') e s'->notedBy (model X.prog X.w) X.A (compEnvC scope (am X.env scope.names []) s3.heap.objs.size X.env) (fun e s''=>compPost (model X.prog X.w) X.A X.xe use QQ (.ref s2.heap.objs.size) s3.heap.objs.size (.error e) s'') e s':=fun e s' c=>xN hstk (fun Ch σ H s e s'=>hx pins Ch σ H s e s') I3 f3 c
 generalize hY:aL X (T++F) scope (am X.env scope.names []) s3.heap.objs.size s3 H3 fp=Y at J4 hg' ht' he' err
 have yA:Y.A=X.A:=by rw [← hY]; rfl
 have yP:Y.prog=X.prog:=by rw [← hY]; rfl
 have yW:Y.w=X.w:=by rw [← hY]; rfl
 have yK:Y.K=X.K:=by rw [← hY]; rfl
 have yC:Y.calm=true:=by rw [← hY]; exact hc
 have yE:Y.env=compEnvC scope (am X.env scope.names []) s3.heap.objs.size X.env:=by rw [← hY]; rfl
 have yX:Y.xe=fun _ _=>False:=by rw [← hY]; rfl
 have fY:∀ {H':Hp},(∀ b ∈ fp,H' b=none)->∀ b ∈ fp,nF Y [] H' b:=fun hn b hb=>by
  have k:=J4.ok
  rw [← hY] at k ⊢
  exact ⟨hn b hb,(k.exf b hb).1,k.exfs b hb,.inl hb,(k.exf b hb).2,fun p hp=>absurd (show p ∈ ([]:List (Addr×Obj)) from hp) (by simp)⟩
 have loop:codeAny (model X.prog X.w) X.A (.compLoop (.ListComp elt [⟨tg,iter,ifs,0⟩] scope pos) 0 (.ref it) (.ref s2.heap.objs.size) (compEnvC scope (am X.env scope.names []) s3.heap.objs.size X.env))
   (compPost (model X.prog X.w) X.A X.xe use QQ (.ref s2.heap.objs.size) s3.heap.objs.size) s4:=by
  refine kt (fun n s'=>∃ i acc σ' H',Inv Y [] σ' H' s'/\tn i s'.heap/\(∀ b ∈ fp,H' b=none)/\W i n acc σ' H') ?_ m0 ⟨0,[],_,H3,J4,st4,fun b hb=>(f3 b hb).1,w0⟩
  rintro n s5 ⟨i,acc,σ5,H5,J5,st5,fr5,w5⟩
  rcases turn i n acc σ5 H5 w5 with ⟨stop,qn⟩ | ⟨go,N,hN,step⟩
  ·have fin:=TT.done Y yP yW yK yC i [] s5 σ5 H5 (fun _ _=>False) J5 (fY fr5) st5 stop
   rw [yA] at fin
   refine thn fin fun r s6 ⟨hr,J6⟩=>?_
   subst hr
   -- the block is left
   obtain ⟨m,hm,_⟩:=id J6.loc
   have hm:s6.heap.Ns s3.heap.objs.size m:=by rw [yE] at hm; exact hm
   have hb6:=J6.base
   have hos:=J6.os
   have hfree:=J6.free
   have hbare:=J6.bare
   have hok6:HOk X.prog X.w H5 s6.heap:=by have:=J6.hok; rw [yP,yW] at this; exact this
   rw [yE] at hfree
   have hfree:H5 s3.heap.objs.size=none:=hfree
   rw [← hY] at hb6 hos
   have hb6:Un (frs X.stack) fp H3 H5 s3.heap s6.heap:=hb6
   have hos:s6.os=s3.os:=hos
   have ltC:∀ b o,s3.heap.get? b=some o->b≠s3.heap.objs.size:=fun b o e=>aal (aaf e)
   refine fine _ _ H5 s6 _ ⟨m,hm⟩ hfree ?hl ?hcl I3.sz ?hpn (fun h7 hsb7=>?_) qn
   case hl=>exact fun z=>aaI _ (z ▸ I3.lt)
   case hcl=>exact fun x c e z=>by obtain ⟨v,o,ho,_⟩:=I3.cell x c e; exact ltC c o ho z
   case hpn=>exact fun p hp z=>ltC p.1 p.2 (I3.pin p hp).1 z
   have same:∀ b,b < s3.heap.objs.size->h7.get? b=s6.heap.get? b:=fun b hb=>hsb7.2 b (aal hb)
   have hok7:HOk X.prog X.w H5 h7:=fun b o e=>by
    refine (hok6 b o e).stay (fun c w' hc q=>(hsb7.2 c ?_).trans q) (fun _ q=>q) fun _ _ q=>q
    rintro rfl
    rcases hc with z | z
    ·rw [← z,hfree] at e; cases e
    ·rw [hfree] at z; cases z
   have un7:Un (frs X.stack) fp H3 H5 s3.heap h7 :=
    ⟨fun b o e n hb hx=>(same b (aaf e)).trans (hb6.keep b o e n hb hx),fun b o e n hb hx=>by
     obtain ⟨sl,q⟩:=hb6.slot b o e n hb hx
     exact ⟨sl,(same b (aaf e)).trans q⟩,hb6.free,fun b o e hx=>by
     obtain ⟨o',q⟩:=hb6.there b o e hx
     exact ⟨o',(same b (aaf e)).trans q⟩,hb6.tups,hb6.frzs,hb6.tbls⟩
   exact I3.call' (s':={ s6 with heap:=h7 }) hos un7 hok7 hbare fun b hb=>by
    obtain ⟨_,a2,a3,a4,a5,a6⟩:=f3 b hb
    exact ⟨a4,a2,a5,a6⟩
  ·have nx:=TT.item Y yP yW yK yC i [] s5 σ5 H5 (fun _ _=>False) J5 (fY fr5) st5 go
   rw [yA] at nx
   refine thn nx fun r s6 ⟨u,hr,h6⟩=>?_
   subst hr
   refine thn h6 fun _ s7 ⟨x,H7,J7,r7,y7,st7,fr7⟩=>?_
   have J7':=J7.pinned (fY fr7) (TT.obj _ _ st7)
   have asg:=hg' _ s7 σ5 H7 x u _ J7' r7 (step x H7 y7)
   rw [yA,yP,yW,yE,yX] at asg
   refine thn asg fun _ s8 ⟨σ8,H8,J8,q8⟩=>?_
   have tst:=ht' _ s8 σ8 H8 _ J8 q8
   rw [yA,yP,yW,yE,yX] at tst
   refine thn tst fun b s9 ⟨H9,J9,q9⟩=>?_
   have again:∀ {s':Shared} {acc':List V} {σ':St} {H':Hp},Inv Y ([]++gz fp s7.heap) σ' H' s'->N acc' σ' H'->∃ m,m < n/\∃ i acc σ' H',Inv Y [] σ' H' s'/\tn i s'.heap/\(∀ b ∈ fp,H' b=none)/\W i m acc σ' H':=fun {s' acc' σ' H'} K7 n7=>by
    obtain ⟨m',hm,w7⟩:=hN acc' σ' H' n7
    refine ⟨m',hm,i+1,acc',σ',H',K7.unpinned,TT.keep _ _ _ st7 fun b hb o e=>(K7.pin (b,o) (aao _ (aao _ (cI hb e)))).1,fun b hb=>?_,w7⟩
    obtain ⟨o,e,d⟩:=TT.obj _ _ st7 b hb
    exact (K7.pin (b,o) (aao _ (aao _ (cI hb e)))).2.1
   cases b with
   | false =>
    rw [if_neg Bool.false_ne_true] at q9 ⊢
    exact again J9 q9
   | true =>
    rw [if_pos rfl] at q9 ⊢
    have elv:=he' _ s9 σ8 H9 _ (J9.wish _) q9
    have elv:wpAny (model Y.prog Y.w) Y.A (eval elt Y.env) _ (XEc X Y fun c x H'=>E c x H'/\Same H0 H') s9:=elv
    rw [yA,yP,yW,yE] at elv
    refine aaG elv (fun u10 s10 ⟨y,H10,J10',r10,q10⟩=>?_) fun e s' c=>err e s' c
    have J10:=J10'.unwish
    obtain ⟨hl,hz,qN⟩:=q10
    have app:=ig (X:=Y) ([]++gz fp s7.heap) s10 σ8 H10 (.ref s2.heap.objs.size) [y] (.ref s2.heap.objs.size) [u10] (fun _ H'=>N (acc++[y]) σ8 H') J10 rfl (.cons r10 .nil) ⟨_,acc,y,rfl,rfl,hl,hz,qN⟩
    rw [yA,yP,yW,yX] at app
    exact thn app fun _ s11 ⟨_,H11,J11,_,q11⟩=>again J11 q11
 exact codeAny_compStart_list loop (TT.self _ 0 _ _ _ st4 loop)
theorem xO {g:TG}(hc:X.calm=true)(S:CompScope X T F ixs scope)
  (hi:PI X tg iter wi)
  (hg:∀ C s H fp,PG (aL X (T++F) scope (am X.env scope.names []) C s H fp) tg g)
  (ht:∀ C s H fp,Ak (aL X (T++F) scope (am X.env scope.names []) C s H fp) ifs tc)
  (he:∀ C s H fp,PE ((aL X (T++F) scope (am X.env scope.names []) C s H fp).wish (XEc X (aL X (T++F) scope (am X.env scope.names []) C s H fp) fun c x H'=>E c x H'/\Same H0 H')) elt te)
  (hstk:X.stack=X.env::X.outer/\X.env.frame=some X.env.locals) (hxe:∀ (pins:List (Addr×Obj)) (Ch:Addr) (σ:St) (H:Hp) (s:Shared) (e:Value) (s':Shared),Inv X pins σ H s->X.s₀.heap.objs.size<=Ch->CXa X.prog X.w Ch X.stack H0 H s E e s'->X.xe e s')
  (hs:∀ x,foldedSetIterable iter X.env x=pure x) (hN:X.N.Nodup) (hix:X.N[i]?=some y) (hx:Loc X.env.scope y)
  (hsw:swapsWith (.ListComp elt [⟨tg,iter,ifs,0⟩] scope pos) (some (.Name y py)) spos.line X.env=pure true) (hf:X.fn y=true∨X.env.scope.names.lookup y=some .local) :
  PS X (.Assign [.Name y py] (.ListComp elt [⟨tg,iter,ifs,0⟩] scope pos) spos) (pO (eL T.length ixs wi g tc te) (fJ i)):=by
 intro pins s σ H D I h
 rw [exec_Assign_Name_used _ _ _ _ hsw]
 refine aaa (wpAny_standAt (aaa ?_))
 show wpAny _ X.A (do let _ ← comprehension (.ListComp elt [⟨tg,iter,ifs,0⟩] scope pos) scope X.env _ (newList []) false (eval iter X.env) (some (assign (.Name y py) X.env))) _ _ s
 refine aaa (thn (ud (use:=some (assign (.Name y py) X.env)) (QQ:=fun _ s'=>SP X pins D .next s') hc S hi hg ht he hstk hxe hs I h fun D' C H5 s6 f ⟨m,hm⟩ fC lC cC zC pC inv q=>?_) fun _ s' hq=>aab (aab hq))
 have I6:Inv X pins σ H5 s6:=inv s6.heap (Heap.SameBut.refl _ _)
 refine wpAny_assign_Name (hU I6 hN hix hx (show RelV (.ref D') (.ref D') from rfl) (fun s7 I7 ⟨a,sb,ha⟩=>?_) hf)
 have aC:C≠a:=by
  rcases ha with rfl | ha
  ·exact lC
  ·exact fun z=>cC y a ha z.symm
 refine ⟨m,hm.sameBut sb aC,fun h8 k8=>⟨_,H5,?_,q⟩⟩
 exact I7.turned (t':=s7.toks) (fun b o hb e=>(k8.2 b hb).trans e) fC lC (.inr zC) cC pC
end
def ER:List RV->Option (List D)
 | []=>some []
 | .ov (.fz d)::rs=>match ER rs with
  | some ds=>some (d::ds)
  | none=>none
 | _::_=>none
structure EFX (K:Frag)(μ:List Nat)(G:Hp->Prop)(t:TE)(f:FE):Prop where
 h:∀ {F Z H:Hp} {τ σ:St} {ρ:FSt} {A:List Addr} {Q:VK} {P:RV->FSt->Prop},(∀ H',Same F H'->Same Z H'->G H')->View μ τ σ->Rel K F Z H σ ρ A->f ρ P ->
  (∀ r ρ' v F' H' A' B,P r ρ'->Same F F'->Rel K F' Z H' σ ρ' A'->RV1 K F' H' σ v r B->Fresh F' Z A' B->Q v H')->t τ H Q
structure AFX (K:Frag)(μ:List Nat)(G:Hp->Prop)(t:TA)(f:FA):Prop where
 h:∀ {F Z H:Hp} {τ σ:St} {ρ:FSt} {A:List Addr} {Q:List V->Hp->Prop} {P:List RV->FSt->Prop},(∀ H',Same F H'->Same Z H'->G H')->View μ τ σ->Rel K F Z H σ ρ A->f ρ P ->
  (∀ rs ρ' vs F' H' A' B,P rs ρ'->Same F F'->Rel K F' Z H' σ ρ' A'->RVL K F' H' σ vs rs B->Fresh F' Z A' B->Q vs H')->t τ H Q
def Kl (t u:TE):TE:=fun σ H Q=>t σ H Q∨u σ H Q
def AM (c:Ct)(cr:List D->Prop)(fa:FA):FE:=fun ρ Q=>ak c fa ρ Q∨fa ρ fun rs _=>∃ ds,ER rs=some ds/\cr ds
theorem Hd {t u:TE}(h1:BE X e t)(h2:BE X e u):BE X e (Kl t u):=⟨fun pins s σ H Q I h=>h.elim (h1.h pins s σ H Q I) (h2.h pins s σ H Q I)⟩
structure OwnR (P:Program)(w:World)(K:Frag)(mg:Str->Option Value)(base:Heap)(x:Str)(k:Nat)(ps:List Str)(sp:Sp):Prop where
 ex:∃ (f:Addr) (fd:FuncData),FnOk P w K mg base (CXr P w) k f fd ps sp/\mg x=some (.ref f)/\PySem.W.keepIn K (.ref f)=true/\Binds K fd ps []
theorem ue {x:Str}{sp:Sp}{es:List Expr}{p:Pos}(O:OwnR X.prog X.w X.K X.mg X.base x k ps sp)(hr:Room k X.A)(hx:jl (CXr X.prog X.w) X E)(ha:BA X (e::es) t)(hg:X.env.kindOf x=some .globalImplicit)(hn:(e::es).all bL=true)
  (hdb:autoParam ((x == ("__debug__" : Str))=false) L2.aD._auto_1):BE X (.Call (.Name x p) (e::es) [] pos) (jc sp [] E t):=⟨by
 obtain ⟨f,fd,F,hm,hk,hb⟩:=O.ex
 have h:=hn
 rw [aaK,Bool.and_eq_true] at h
 exact rG F hr hg hm hk hb .nil hx ha.h hdb (bz h.1) (dc h.2)⟩
section
variable {K:Frag}  {G:Hp->Prop}
theorem jL {F:Hp}{rs:List RV}{vs:List V}{B:List Addr}(h:RVL K F H σ vs rs B):∀ {ds:List D},ER rs=some ds->Dens K F vs ds:=by
 induction h with
 | nil=>intro ds e; cases e; exact .nil
 | @cons v r vs rs A B h t ih =>
  intro ds e
  cases r with
  | br i=>cases e
  | ov o =>
   cases o with
   | fz d =>
    unfold ER at e
    cases q:ER rs with
    | none=>rw [q] at e; cases e
    | some ds' =>
     rw [q] at e
     cases e
     cases h with
     | fz dn=>exact .cons dn (ih q)
   | fl _=>cases e
   | fd _ _=>cases e
theorem xP {c:Ct}(ha:AF K μ t fa)(hE:∀ H',G H'->E (.ref C) none H'):EFX K μ G (Kl (jc (spM K c) [] E0 t) (jc (spR K cr C) [] E t)) (AM c cr fa):=⟨by
 intro F Z H τ σ ρ A Q P gg vw R h q
 rcases h with h | h
 ·exact .inl ((gl (E:=E0) ha).h vw R h q)
 ·refine .inr (ha.h vw R h fun rs ρ1 vs F1 H1 A1 B1 h1 s1 R1 v1 f1=>?_)
  obtain ⟨ds,e,hc⟩:=h1
  rw [aaJ]
  exact ⟨F1,ds,R1.fh,jL v1 e,hc,fun H' s=>hE H' (gg H' ((s1.trans R1.fh).trans s) (R1.zh.trans s))⟩⟩
theorem xQ {tr:TA}{fa:FE}{fr:FA}(ha:EF K μ ta fa)(hr:AFX K μ G tr fr):AFX K μ G (dI ta tr) (aa fa fr):=⟨by
 intro F Z H τ σ ρ A Q P gg vw R h q
 refine ha.h vw R h fun r1 ρ1 x F1 H1 A1 B1 h1 s1 R1 v1 f1=>?_
 obtain ⟨Z',sz,R1',zl,back⟩:=R1.hold v1.live f1
 refine hr.h (fun H' a b=>gg H' (s1.trans a) (sz.trans b)) vw R1' h1 fun r2 ρ2 y F2 H2 A2 B2 h2 s2 R2 v2 f2=>?_
 obtain ⟨R2',f1',k1⟩:=back _ _ _ _ s2 R2
 refine q _ _ _ _ _ _ _ h2 (s1.trans s2) R2' (.cons (v1.keep s2 k1) v2) ⟨List.nodup_append.mpr ⟨f1'.nd,f2.nd,fun a ha b hb z=>?_⟩,fun b hb=>?_⟩
 ·obtain ⟨u,hu⟩:=zl a ha
  rw [z,(f2.fr b hb).2.1] at hu; cases hu
 ·rcases List.mem_append.mp hb with z | z
  ·exact f1'.fr b z
  ·exact ⟨(f2.fr b z).1,sz.free (f2.fr b z).2.1,(f2.fr b z).2.2⟩⟩
theorem xR {fa:FE}(ha:EFX K μ G ta fa):AFX K μ G (dI ta la) (aa fa ag):=⟨by
 intro F Z H τ σ ρ A Q P gg vw R h q
 refine ha.h gg vw R h fun r1 ρ1 x F1 H1 A1 B1 h1 s1 R1 v1 f1=>?_
 have f2:Fresh F1 Z A1 (B1++[]):=by rw [aaJ]; exact f1
 exact q _ _ _ _ _ _ _ h1 s1 R1 (.cons v1 .nil) f2⟩
theorem Dt (ha:AFX K μ G t fa):EFX K μ G (Ia t) (qi fa):=⟨by
 intro F Z H τ σ ρ A Q P gg vw R h q
 refine ha.h gg vw R h fun rs ρ1 xs F1 H1 A1 B1 h1 s1 R1 v1 f1=>?_
 split at h1
 ·rename_i ds ρ2 e
  obtain ⟨F2,A2,s2,R2,dn⟩:=R1.frzL v1 f1 e
  refine ⟨by rw [dn.length]; exact h1.1,fun p hp=>?_⟩
  have hf:F2 p=none:=R2.fh.free hp
  refine R2.after (P:=fun o=>P (.ov o) ρ2) (fun o v F3 H3 B p s3 R3 ow fr=>q _ _ _ _ _ _ _ p ((s1.trans s2).trans s3) R3 ow fr) _ _ (upd F2 p (.tup xs)) _ [] h1.2 (Pure.frz R2.fh hp) (.fz (.tup (SqT.of ao) (dn.mono (bn hf)))) New.nil
 ·exact h1.elim⟩
theorem xS {no:Nat}{fi:FI}{g:TG}{fg:FG}{T:List Nat}{fc:FT}(hi:ITF K μ wi fi)(hix:∀ j ∈ ixs,j < μ.length)(hg:GF K (muC no ixs μ) T g fg)(hT:∀ i ∈ T,i < no)
  (hc:TF K (muC no ixs μ) tc fc) (he:EFX K (muC no ixs μ) G te fe):EFX K μ G (eL no ixs wi g tc te) (qt no fi fg fc fe):=⟨by
 intro F Z H τ σ ρ A Q P gg vw R h q
 refine hi.h vw R h fun ds ρ1 J F1 H1 A1 h1 s1 R1 wk=>?_
 rw [cF] at h1
 intro a ha
 have hF1:F1 a=none:=R1.fh.free ha
 have hZ1:Z a=none:=R1.zh.free ha
 have hA1:a ∉ A1:=fun z=>by
  obtain ⟨u,hu⟩:=R1.sl.live a z
  rw [ha] at hu; cases hu
 have R1':Rel K F1 Z (upd H1 a (.lst [])) (List.replicate no none++σ) (List.replicate no none++ρ1) A1:=by
  have:=R1.write (o:=.lst []) hA1 hF1 hZ1
  exact ⟨this.sl.none_app no,this.nd,this.fr,this.fh,this.zh,this.dj⟩
 have hfin:∀ F' H' σ' ρ' A' acc as,Same F1 F'->Rel K F' Z H' σ' ρ' A'->(∀ i,no<=i->σ'[i]?=(List.replicate no none++σ)[i]?)->H' a=some (.lst acc)->F' a=none->a ∉ A'->Dens K F' acc as->P (.ov (.fl as)) (ρ'.drop no)->Q (.ref a) H':=by
  intro F' H' σ' ρ' A' acc as s' R' k ha' hF' hA' dn p
  obtain ⟨A2,B2,e2,sl2⟩:=R'.sl.dropN no
  have es:σ'.drop no=σ:=by
   apply List.ext_getElem?
   intro i
   rw [List.getElem?_drop,k (no+i) (by omega),List.getElem?_append_right (by simp),aay,aaM]
  rw [es] at sl2
  have m2:∀ b ∈ A2,b ∈ A':=fun b hb=>by rw [e2]; exact List.mem_append.mpr (.inr hb)
  have R2:Rel K F' Z H' σ (ρ'.drop no) A2:=⟨sl2,by have:=R'.nd; rw [e2,abt] at this; exact this.2.1,fun b hb=>R'.fr b (m2 b hb),R'.fh,R'.zh,R'.dj⟩
  exact q _ _ _ _ _ _ [a] p (s1.trans s') R2 (.fl ha' dn) ⟨by simp,fun b hb=>by
   have:b=a:=(by exists hb)
   subst this
   exact ⟨hF',hZ1,fun z=>hA' (m2 _ z)⟩⟩
 refine ⟨fun i k acc τ' H'=>k=ds.length - i/\i<=ds.length/\w6 K fg fc fe P no (muC no ixs μ) F1 Z σ a (ds.drop i) acc τ' H',
  ⟨_,rfl,aam _,F1,_,A1,_,[],Same.refl _,R1',iB vw hix,fun _ _=>rfl,ao,hF1,hA1,.nil,by rw [aaA]; exact h1⟩,?_⟩
 rintro i k acc τ' H' ⟨rfl,hle,F',ρ',A',σ',as,s',R',vw',kp,hD,hFD,hAD,dn,h'⟩
 by_cases hlt:i < ds.length
 ·rw [aaw hlt,iA] at h'
  refine .inr ⟨wk.go H' i (s'.trans R'.fh) hlt,fun acc τ' H'=>w6 K fg fc fe P no (muC no ixs μ) F1 Z σ a (ds.drop (i+1)) acc τ' H',fun acc' σ2 H2 z=>⟨_,by omega,rfl,hlt,z⟩,fun x H2 y=>?_⟩
  obtain ⟨rfl,d,hd,dx⟩:=wk.yld H' i x H2 (s'.trans R'.fh) hlt y
  rw [List.getElem?_eq_getElem hlt] at hd
  cases hd
  refine hg.h vw' R' (dx.mono s') h' fun τ2 σ2 ρ2 A2 p2 vw2 R2 k2 kl2 _ m2=>?_
  have kp2:∀ i,no<=i->σ2[i]?=(List.replicate no none++σ)[i]?:=fun i hi=>by
   rw [k2 i fun z=>by have:=hT i z; omega]; exact kp i hi
  have fD:Fresh F' Z A2 [a]:=⟨by simp,fun b hb=>by
   have:b=a:=(by exists hb)
   subst this
   exact ⟨hFD,hZ1,fun z=>hAD (m2 _ z)⟩⟩
  obtain ⟨Z',sz,R2',zl,back⟩:=R2.hold (B:=[a]) (fun b hb=>by
   have:b=a:=(by exists hb)
   subst this
   exact ⟨_,hD⟩) fD
  refine hc.h vw2 R2' p2 fun b ρ3 F3 H3 A3 p3 s3 R3=>?_
  cases b with
  | false =>
   replace p3:=qY p3
   rw [if_neg Bool.false_ne_true]
   obtain ⟨R3',f3,k3⟩:=back _ _ _ _ s3 R3
   have fa:=f3.fr a (by simp)
   exact ⟨F3,ρ3,A3,σ2,as,s'.trans s3,R3',vw2,kp2,k3 a _ (by simp) hD,fa.1,fa.2.2,dn.mono s3,p3⟩
  | true =>
   replace p3:=qX p3
   rw [if_pos rfl]
   refine he.h (fun H' x y=>gg H' (((s1.trans s').trans s3).trans x) (sz.trans y)) vw2 R3 p3 fun r ρ4 v F4 H4 A4 B4 p4 s4 R4 v4 f4=>?_
   split at p4
   ·rename_i y ρ5 e5
    obtain ⟨F5,A5,s5,R5,dy,_,_⟩:=R4.frz v4 f4 e5
    obtain ⟨R5',f5,k5⟩:=back _ _ _ _ ((s3.trans s4).trans s5) R5
    have fa:=f5.fr a (by simp)
    refine ⟨k5 a _ (by simp) hD,by rw [dn.length]; exact p4.1,F5,ρ5,A5,σ2,as++[y],((s'.trans s3).trans s4).trans s5,R5'.write fa.2.2 fa.1 hZ1,vw2,kp2,ao,fa.1,fa.2.2,(dn.mono ((s3.trans s4).trans s5)).snoc dy,p4.2⟩
   ·exact p4.elim
 ·have e:i=ds.length:=by omega
  subst e
  rw [aa2,iz] at h'
  exact .inl ⟨wk.stop H' (s'.trans R'.fh),hfin _ _ _ _ _ _ _ s' R' kp hD hFD hAD dn h'⟩⟩
theorem Du (he:EFX K (List.range n) G te fe):SFX K n m G (EL te) (bp fe):=⟨by
 intro F Z H σ0 σ ρ A D fD gg R p E h
 refine he.h gg (View.id p.1) R h fun r ρ1 v F1 H1 A1 B1 h1 s1 R1 v1 f1=>?_
 split at h1
 ·rename_i o ρ2 e
  obtain ⟨C,A2,R2,o2,f2,_,_⟩:=R1.takeR v1 f1 e
  exact E.rt _ _ _ _ _ _ _ _ s1 R2 p o2 f2 h1
 ·exact h1.elim⟩
theorem xT (he:EFX K (List.range n) G te fe)(hi:i ∉ m):SFX K n m G (pO te (fJ i)) (gO i fe):=⟨by
 intro F Z H σ0 σ ρ A D fD gg R p E h
 refine he.h gg (View.id p.1) R h fun r ρ1 v F1 H1 A1 B1 h1 s1 R1 v1 f1=>?_
 cases r with
 | ov o =>
  obtain ⟨A2,R2,_⟩:=R1.assign (i:=i) v1 f1
  exact E.nx _ _ _ _ _ s1 R2 (p.set hi) h1
 | br j=>exact h1.elim⟩
end
theorem Fun.okY {K:Frag}{x:Str}{st:Stmt}{fd:FuncData}{fs:FS}(F:Fun K x qual st f fd)(S:FnScope N ps (aj st))
  (hlen:∀ ds,cr ds->ds.length=ps.length) (hpl:ps.length<=N.length)
  (n:Nat) (hn:N.length=n)
  (hbody:∀ (cdv:Value) (A:Around) (outer:List Env) (s:Shared) (H:Hp) (E:XK),(∀ H',Same H H'->E (.ref C) none H')->Room k (A.deeper (envOfC qual (aj st) s.heap.objs.size f cdv)) ->
   (∀ pins σ H1 s1 h' ea args,Inv (dL (CXr P w) P w K mg base N qual (aj st) f cdv A outer s H E) pins σ H1 s1->Same H H1->Heap.MadeExcOf s1.heap h' ea (.ref C) args->(dL (CXr P w) P w K mg base N qual (aj st) f cdv A outer s H E).xe (.ref ea) { s1 with heap:=h' }) ->
   ∃ t,BSs (dL (CXr P w) P w K mg base N qual (aj st) f cdv A outer s H E) (bT st) t/\SFX K n [] (Same H) t fs)
  (hc:∀ ds,cr ds->fs { nx:=fun _=>False,rt:=fun _ _=>False } (aw n (ds.map .fz))):FnOk P w K mg base (CXr P w) (k+1) f fd ps (spR K cr C):=by
 subst hn
 obtain ⟨oc,od,kV,doc,pm,an,cdv,ct,osl,rfl,lk,hcd⟩:=F.ex
 refine Fp lk hcd S (fun vs H Q E h=>?_) fun A outer s H vs Q E hr hsp=>?_
 ·obtain ⟨F1,ds,_,hd,hcc,_⟩:=h
  rw [hd.length]; exact hlen ds hcc
 ·obtain ⟨F1,ds,sf,hd,hcc,hE⟩:=hsp
  obtain ⟨t,ht,hs⟩:=hbody cdv A outer s H E hE hr fun pins σ H1 s1 h' ea args I g m=>l0 hE I g m
  refine ⟨t,ht.h,?_⟩
  have hl:=hlen ds hcc
  have hvl:=hd.length
  obtain ⟨Z,z1,z2⟩:∃ Z:Hp,(∀ b,F1 b=none->Z b=H b)/\∀ b o,F1 b=some o->Z b=none:=by
   classical
   exact ⟨fun b=>if F1 b=none then H b else none,fun b hb=>if_pos hb,fun b o hb=>if_neg (by rw [hb]; exact fun z=>nomatch z)⟩
  have sz:Same Z H:=fun b o z=>by
   cases q:F1 b with
   | none=>rw [z1 b q] at z; exact z
   | some u=>rw [z2 b u q] at z; cases z
  have hn:(dh N vs).length=N.length:=by unfold dh; simp; nofun
  have R:Rel K F1 Z H (dh N vs) (aw N.length (ds.map .fz)) []:=by
   refine ⟨?_,aaP,(fun _ z=>nomatch z),sf,sz,z2⟩
   unfold dh aw
   rw [hvl,List.length_map]
   exact Slots.of_ows _ (tS hd)
  refine hs.h (fD:={ nx:=fun _=>False,rt:=fun _ _=>False }) (fun H' a b=>fun c o hc=>?_) R (Pin.refl hn) ⟨fun _ _ _ _ _ _ _ _ z=>z.elim,fun _ _ _ _ _ _ _ _ _ _ _ _ _ z=>z.elim,fun _ _ _ _ _ _ _ _ z=>z.elim,fun _ _ _ _ _ _ _ _ z=>z.elim⟩ (hc ds hcc)
  cases q:F1 c with
  | none=>exact b c o (by rw [z1 c q]; exact hc)
  | some u =>
   have e:=sf c u q
   rw [hc] at e
   cases e
   exact a c _ q
abbrev Jr (H0:Hp)(E:XK):XK:=fun c x H'=>E c x H'/\Same H0 H'
theorem uf {l:List Env}{e:Value}(c:CXr P w l H s (Jr H0 E) e s'):CXa P w Ch l H0 H s E e s':=by
 obtain ⟨ea,C,a0,B,H',rfl,fl,hok,same,bk,fre,slt,os,bare,n1,n2,hE,hS⟩:=c
 exact ⟨ea,C,a0,.none,B,H',rfl,fl,hok,hS,fun b o q n hb _=>bk b o q n hb,fre,slt,os,bare,n1,n2,hE⟩
theorem xU {K:Frag} :
  jl (CXr P w) (dL (CXr P w) P w K mg base N qual scope f cd A outer s0 H0 E) (Jr H0 E):=fun pins σ H s e s' I c=>jK I (aac _) (uf c)
theorem ug {Y:Cx}(hp:Y.prog=X.prog)(hw:Y.w=X.w)(hs:Y.stack=X.stack):jl (CXr X.prog X.w) (Y.wish (XEc X Y E)) E:=fun pins σ H s e s' I c=>⟨pins,σ,H,s,I.unwish,by
 have c:CXr X.prog X.w Y.stack H s E e s':=c
 rw [hs] at c
 exact c⟩
theorem xV {K:Frag}{N0:List Str}{sc:Scope}
        {g:TG}   (S:CompScope (dL (CXr P w) P w K mg base N0 qual sc f cd A outer s0 H0 E) T F ixs scope)
  (hi:BI (dL (CXr P w) P w K mg base N0 qual sc f cd A outer s0 H0 E) tg iter wi)
  (hg:∀ C s H fp,BG (aL (dL (CXr P w) P w K mg base N0 qual sc f cd A outer s0 H0 E) (T++F) scope (am (dL (CXr P w) P w K mg base N0 qual sc f cd A outer s0 H0 E).env scope.names []) C s H fp) tg g)
  (ht:∀ C s H fp,BIf (aL (dL (CXr P w) P w K mg base N0 qual sc f cd A outer s0 H0 E) (T++F) scope (am (dL (CXr P w) P w K mg base N0 qual sc f cd A outer s0 H0 E).env scope.names []) C s H fp) ifs tc)
  (he:∀ C s H fp,BE ((aL (dL (CXr P w) P w K mg base N0 qual sc f cd A outer s0 H0 E) (T++F) scope (am (dL (CXr P w) P w K mg base N0 qual sc f cd A outer s0 H0 E).env scope.names []) C s H fp).wish (XEc (dL (CXr P w) P w K mg base N0 qual sc f cd A outer s0 H0 E) (aL (dL (CXr P w) P w K mg base N0 qual sc f cd A outer s0 H0 E) (T++F) scope (am (dL (CXr P w) P w K mg base N0 qual sc f cd A outer s0 H0 E).env scope.names []) C s H fp) (Jr H0 E))) elt te)
  (hs:∀ x,foldedSetIterable iter (dL (CXr P w) P w K mg base N0 qual sc f cd A outer s0 H0 E).env x=pure x) (hN:N0.Nodup) (hix:N0[i]?=some y) (hx:Loc (dL (CXr P w) P w K mg base N0 qual sc f cd A outer s0 H0 E).env.scope y)
  (hsw:swapsWith (.ListComp elt [⟨tg,iter,ifs,0⟩] scope pos) (some (.Name y py)) spos.line (dL (CXr P w) P w K mg base N0 qual sc f cd A outer s0 H0 E).env=pure true) (hf:(dL (CXr P w) P w K mg base N0 qual sc f cd A outer s0 H0 E).fn y=true∨(dL (CXr P w) P w K mg base N0 qual sc f cd A outer s0 H0 E).env.scope.names.lookup y=some .local) :
  BS (dL (CXr P w) P w K mg base N0 qual sc f cd A outer s0 H0 E) (.Assign [.Name y py] (.ListComp elt [⟨tg,iter,ifs,0⟩] scope pos) spos) (pO (eL T.length ixs wi g tc te) (fJ i)) :=
 ⟨xO (H0:=H0) (E:=E) rfl S hi.h (fun C s H fp=>(hg C s H fp).h) (fun C s H fp=>(ht C s H fp).h) (fun C s H fp=>(he C s H fp).h) ⟨rfl,rfl⟩ (fun pins Ch σ H s e s' I hc c=>jK I hc c) hs hN hix hx hsw hf⟩
end L2
namespace L2
open PySem PySem.W PySem.Spec PyProof.Rows
variable{X:Cx}{k iN iY:Nat}{f C:Addr}{fd:FuncData}{ps:List Str}{cx n y yy:Str}{p cpos spos yyp cp yp np asp hpos tpos:Pos}{e:Expr}{es:List Expr}{t:TA}{tA:TS}
def Dv (K:Frag)(cr:List L2.D->Prop)(C:Addr)(iY iN:Nat)(tA:TS)(t:TA):TS:=fun Dn σ H=>tA Dn σ H∨t σ H fun vs H1=>spR K cr C vs H1 (fun _ _=>False) (fun c _ _=>c=.ref C)/\Same H H1/\∀ ea H2,Same H1 H2->H2 ea=some (l6 ea C)->Dn.nx ((σ.set iY (some (.ref ea))).set iN none) H2
theorem Dw {D:Addr}{cr:List L2.D->Prop}{x:Str}(hA:PS X.nox (.Assign [.Name yy yyp] (.Call (.Name x p) (e::es) [] cpos) spos) tA)
  (F:FnOk X.prog X.w X.K X.mg X.base (CXr X.prog X.w) k f fd ps (spR X.K cr C)) (hr:Room k X.A) (hg:Gl X x) (hm:X.mg x=some (.ref f)) (hk:PySem.W.keepIn X.K (.ref f)=true) (hb:Binds X.K fd ps [])
  (ha:PA X.nox (e::es) t) (hstk:X.stack=X.env::X.outer/\X.env.frame=some X.env.locals) (hgD:Gl X cx) (hmD:X.mg cx=some (.ref D)) (hx:exmOne X.K (.ref C) (.ref D)=some true)
  (hN:X.N.Nodup) (hiN:X.N[iN]?=some n) (hlN:X.env.scope.names.lookup n=some .local) (hiY:X.N[iY]?=some y) (hlY:X.env.scope.names.lookup y=some .local) (hNY:iN≠iY)
  (hdb:(x == ("__debug__" : Str))=false) (hdD:(cx == ("__debug__" : Str))=false) (hdn:(n == ("__debug__" : Str))=false) (hcn:(n == ("__classdict__" : Str))=false) (he:starEach (e::es) X.env=(false,eval e X.env)::starEach es X.env) (hpl:(backTo cpos (starEach es X.env)).any (·.1)=false)
  (hsw:swapsWith (.Call (.Name x p) (e::es) [] cpos) (some (.Name yy yyp)) spos.line X.env=pure false) (hsw2:swapsWith (.Name n np) (some (.Name y yp)) asp.line X.env=pure false) :
  PS X (.Try [.Assign [.Name yy yyp] (.Call (.Name x p) (e::es) [] cpos) spos] [.ExceptHandler (some (.Name cx cp)) (some n) [.Assign [.Name y yp] (.Name n np) asp] hpos] [] [] tpos)
   (Dv X.K cr C iY iN tA t):=by
 intro pins s σ H Dn I h
 rcases h with h | h
 ·refine wpAny_Try_except (aaG (mJ hA pins s σ H Dn (I.wish _) h) (fun fl s1 q=>?_) fun _ _ w=>w.elim)
  have q:=SP.unwish q
  cases fl with
  | next=>exact aa7 q
  | brk=>exact q
  | cont=>exact q
  | ret u=>exact q
 refine wpAny_Try_except (abw (wpAny_Assign_Name ?_ hsw))
 refine qz F hr hg hm hk hb ha I _ h (fun H1 s1 e s' I1 sm z c=>?_) hdb he hpl
 obtain ⟨ea,C',a0,B,H',rfl,fl,hok,same,bk,fre,slt,os,bare,n1,n2,hE⟩:=c
 have eC:C'=C:=Value.ref.inj hE
 subst eC
 have hfr:X.A.frames=some (X.env::X.outer):=by rw [← hstk.1]; exact I1.ok.frames
 have hst:=I1.stack
 have hsf:=I1.stkFree
 rw [hstk.1] at fl
 refine wpAny_looks_onW hfr hstk.2 fl fun h4 held up4=>?_
 refine wpAny_landsW held fun h5 fl5 up5=>?_
 have upT:∀ {a b c:Heap},a.UpToSlots b->b.UpToSlots c->a.UpToSlots c:=fun x y=>x.trans y
 have inv:∀ {h6:Heap},Heap.FlyingW B (X.env::X.outer) ea (.ref C') a0 h6->s'.heap.UpToSlots h6->Inv X pins σ (upd H' ea (l6 ea C')) { s' with heap:=h6 }:=fun {h6} fl6 up6=>by
  rw [← hstk.1] at fl6
  obtain ⟨un6,hok6⟩:=CXr.caught (E:=fun _ _ _=>True) (e:=.ref ea) hst fl6 hok same bk fre slt n1 n2 up6 hsf
  have nea:∀ b u,H' b=some u->b≠ea:=fun b u q z=>by rw [z,n1] at q; cases q
  refine I1.call' (s':={ s' with heap:=h6 }) (ch:=[]) os ⟨un6.keep,un6.slot,fun b o q n hx=>?_,un6.there,fun b xs q=>?_,fun b o u q=>?_,fun b ps q=>?_⟩ (fun b u q=>?_) bare (fun _ z=>nomatch z)
  ·rw [aU fun y=>by rw [y,n2] at q; cases q]; exact un6.free b o q n hx
  ·have q':=un6.tups b xs q
   rw [aU (nea _ _ q')]; exact q'
  ·have q':=un6.frzs b o u q
   rw [aU (nea _ _ q')]; exact q'
  ·obtain ⟨mo,q'⟩:=un6.tbls b ps q
   exact ⟨mo,by rw [aU (nea _ _ q')]; exact q'⟩
  ·by_cases hb:b=ea
   ·subst hb
    rw [ao] at q
    cases q
    obtain ⟨oe,vs,T,oT,ts,q1,q2,q3,_⟩:=fl6.2.2.2
    exact ⟨⟨oe,q1,q2.1,vs,q3⟩,⟨oe,q1⟩,fun h1 h2 ⟨o1,w1,w2⟩ k=>⟨o1,k o1 w1,w2⟩⟩
   ·rw [aU hb] at q
    exact (hok6 b u q).stay (fun _ _ _ z=>z) (fun c z=>by rw [aU (nea _ _ z)]; exact z) fun c xs z=>by rw [aU (nea _ _ z)]; exact z
 have I5:=inv fl5 (upT up4 up5)
 obtain ⟨ob,hob,hobc⟩:=fl5.there
 have LT:Looks (model X.prog X.w) h5 (typeOf (.ref ea)) (.ref C'):=hobc ▸ (Looks.ld hob).andThen .now
 have LM:=exm_one (M:=model X.prog X.w) (h:=h5) I5.kIn LT hx
 refine wpAny_handleBy_cons (codeAny_handlers_test (hV (I5.suite (.ref ea)) hgD hmD (LM.at ?_) hdD)) (by intro q; cases q)
 refine codeAny_handlers_suite_as (lands_againW fl5 fun h6 fl6 up6=>?_)
 have I6:=inv fl6 (upT (upT up4 up5) up6)
 refine jW I6 hN hiN (Or.inl hlN) (v:=.ref ea) rfl (fun s7 I7=>?_) (.inr hlN)
 have hiσ:iN < σ.length:=by rw [I6.len]; exact (List.getElem?_eq_some_iff.mp hiN).1
 refine aaG (mJ (X:=X.suite (.ref ea)) (Ae hN hiY (Or.inl hlY) (Ad hiN (Or.inl hlN) hdn hcn) hsw2 (.inr hlY)) pins s7 _ _ { nx:=fun σ' H'=>σ'=(σ.set iN (some (.ref ea))).set iY (some (.ref ea))/\H'=upd _ ea (l6 ea C'),rt:=fun _ _=>False } (I7.suite (.ref ea)) ⟨.ref ea,by simp [hiσ],rfl,rfl⟩) (fun fw s8 q=>?_) fun _ _ w=>w.elim
 cases fw with
 | next =>
  obtain ⟨σ',H2,I8,rfl,rfl⟩:=q
  have I9:=I8.unsuite I6.ok
  obtain ⟨m,hn,hl⟩:=id I9.loc
  refine wpAny_nameGoes_keeps (show X.env.kindOf n=some .local from hlN) hn (by rw [I9.ok.kind]; rfl) fun h9 v hn9 sb9=>?_
  refine ⟨_,_,I9.unbind hn hiN hlN hN hl hn9 sb9,?_⟩
  have w:=z ea _ (same.trans (bn n1)) ao
  rw [List.set_comm _ _ (abr hNY)] at w
  rw [List.set_comm _ _ (abr hNY),List.set_set]
  exact w
 | brk=>obtain ⟨_,_,_,w⟩:=q; exact w.elim
 | cont=>obtain ⟨_,_,_,w⟩:=q; exact w.elim
 | ret u=>obtain ⟨_,_,_,_,_,w⟩:=q; exact w.elim
theorem uh {D:Addr}{cr:List L2.D->Prop}{x:Str}(K:Frag)(hK:X.K=K)(hA:BS X.nox (.Assign [.Name yy yyp] (.Call (.Name x p) (e::es) [] cpos) spos) tA)
  (O:OwnR X.prog X.w X.K X.mg X.base x k ps (spR X.K cr C)) (hr:Room k X.A) (hg:Gl X x) (ha:BA X.nox (e::es) t) (hstk:X.stack=X.env::X.outer/\X.env.frame=some X.env.locals) (hgD:Gl X cx) (hmD:X.mg cx=some (.ref D)) (hx:exmOne X.K (.ref C) (.ref D)=some true)
  (hN:X.N.Nodup) (hiN:X.N[iN]?=some n) (hlN:X.env.scope.names.lookup n=some .local) (hiY:X.N[iY]?=some y) (hlY:X.env.scope.names.lookup y=some .local) (hNY:iN≠iY)
  (hdb:(x == ("__debug__" : Str))=false) (hdD:(cx == ("__debug__" : Str))=false) (hdn:(n == ("__debug__" : Str))=false) (hcn:(n == ("__classdict__" : Str))=false) (hn:(e::es).all bL=true)
  (hsw:swapsWith (.Call (.Name x p) (e::es) [] cpos) (some (.Name yy yyp)) spos.line X.env=pure false) (hsw2:swapsWith (.Name n np) (some (.Name y yp)) asp.line X.env=pure false) :
  BS X (.Try [.Assign [.Name yy yyp] (.Call (.Name x p) (e::es) [] cpos) spos] [.ExceptHandler (some (.Name cx cp)) (some n) [.Assign [.Name y yp] (.Name n np) asp] hpos] [] [] tpos) (Dv K cr C iY iN tA t):=⟨by
 subst hK
 obtain ⟨f,fd,F,hm,hk,hb⟩:=O.ex
 have h:=hn
 rw [aaK,Bool.and_eq_true] at h
 exact Dw hA.h F hr hg hm hk hb ha.h hstk hgD hmD hx hN hiN hlN hiY hlY hNY hdb hdD hdn hcn (bz h.1) (dc h.2) hsw hsw2⟩
theorem Dx {K:Frag}{n:Nat}{m:List Nat}{cr:List D->Prop}{fA:FS}(hA:SF K n m tA fA):SF K n m (Dv K cr C iY iN tA t) fA:=⟨by
 intro F Z H σ0 σ ρ A D fD R p E h
 exact .inl (hA.h R p E h)⟩
theorem FnOk.or {P:Program}{w:World}{K:Frag}{mg:Str->Option Value}{base:Heap}{CX:CXT}{sp sp':Sp}(F:FnOk P w K mg base CX k f fd ps sp)(G:FnOk P w K mg base CX k f fd ps sp'):FnOk P w K mg base CX k f fd ps (fun vs H Q E=>sp vs H Q E∨sp' vs H Q E) :=
 ⟨fun vs H Q E h=>h.elim (F.len vs H Q E) (G.len vs H Q E),fun A outer s H args us vs Q E hr e b v h=>h.elim (F.run A outer s H args us vs Q E hr e b v) (G.run A outer s H args us vs Q E hr e b v)⟩
theorem Dy {K:Frag}{c:Ct}{vs:List V}{H F1:Hp}{Q:VK}{E:XK}{ds:List D}{d:D}(sf:Same F1 H)(hd:Dens K F1 vs ds)(h:c (ds.map .fz) fun o _=>o=.fz d)(q:∀ v F' H',Same H H'->Same F' H'->Den K F' v d->Q v H'):spM K c vs H Q E:=by
 obtain ⟨Z,z1,z2⟩:∃ Z:Hp,(∀ b,F1 b=none->Z b=H b)/\∀ b o,F1 b=some o->Z b=none:=by
  classical
  exact ⟨fun b=>if F1 b=none then H b else none,fun b hb=>if_pos hb,fun b o hb=>if_neg (by rw [hb]; exact fun z=>nomatch z)⟩
 have sz:Same Z H:=fun b o z=>by
  cases q:F1 b with
  | none=>rw [z1 b q] at z; exact z
  | some u=>rw [z2 b u q] at z; cases z
 refine ⟨F1,Z,ds.map .fz,[],_,sf,sz,z2,tS hd,aaP,(fun _ z=>nomatch z),h,fun o os' v F' H' C' B e s1 s2 s3 dj ow1 ow nd fr=>?_⟩
 subst e
 cases ow with
 | fz dn =>
  refine q v F' H' (fun b o hb=>?_) s2 dn
  cases qF:F1 b with
  | none=>exact s3 b o (by rw [z1 b qF]; exact hb)
  | some u =>
   have e:=sf b u qF
   rw [hb] at e
   cases e
   exact s2 b _ (s1 b _ qF)
end L2
namespace L2
open PySem PySem.Spec PyProof.Rows
variable{X:Cx}{pos pa pb apos cpos:Pos}{op:CmpOp}{r:R2}{j i:Nat}{a:List Stmt}{t:TS}{o:Expr}{to:TE}{b:Str}
def PTk (X:Cx)(e:Expr)(t:TT):Prop :=
 ∀ (pins:List (Addr×Obj)) (s:Shared) (σ:St) (H:Hp) (Q:Bool->Hp->Prop),Inv X pins σ H s->t σ H Q->wpAny (model X.prog X.w) X.A (isTrue e X.env (eval e X.env)) (fun b s'=>1<=s'.toks/\TP X pins σ Q b s') X.xe s
def PSk (X:Cx)(st:Stmt)(t:TS):Prop :=
 ∀ (pins:List (Addr×Obj)) (s:Shared) (σ:St) (H:Hp) (D:Ends),Inv X pins σ H s->1<=s.toks->t D σ H->wpAny (model X.prog X.w) X.A (exec st X.env) (SP X pins D) X.xe s
theorem iS {α:Type}{M:Model}{A:Around}{t:Sem α}{Q:α->Shared->Prop}{E:Value->Shared->Prop}{s:Shared}{n:Nat}(hn:n<=s.toks)(h:wpAny M A t Q E s):wpAny M A t (fun a s'=>n<=s'.toks/\Q a s') E s :=
 aaG (wpAny_toks_of hn h) (fun _ _ q=>q) fun _ _ q=>q.2
theorem Dz {a:Expr}{ta:TE}{i:Int}{p:Pos}(ho:OpR X (compareOp op) r)(ha:PE X a ta)(hm:behindInMarks op (.Constant (.int i) j p)=false):PTk X (.Compare a [op] [.Constant (.int i) j p] pos) (mL (tOp r ta (tC (.int i)))):=by
 intro pins s σ H Q I h
 refine wpAny_isTrue_Compare1 (thn (ha pins s σ H _ I h) fun v s1 ⟨x,H1,I1,r1,q1⟩=>wpAny_Constant_int ?_) hm
 refine thn (iS (n:=1) (Nat.le_add_left 1 s1.toks) (ho pins { s1 with toks:=s1.toks+1 } σ H1 x (.int i) v (.int i s1.toks) _ (I1.tok _) r1 ⟨_,rfl⟩ q1)) fun c s3 ⟨k1,z,H3,I3,r3,k,e,q3⟩=>?_
 subst e
 cases r3
 exact aaL ⟨k1,H3,I3,q3⟩
theorem DA {c:Expr}{st:Stmt}{tc:TT}{u:TS}(hc:PTk X c tc)(ha:PSs X a t)(h2:PSk X st u):PSs X [.If c a [] pos,st] (EK (EM tc t rc) u):=by
 intro pins s σ H D I h
 have cont:∀ (f:Flow) (s1:Shared),1<=s1.toks->SP X pins { D with nx:=u D } f s1->(match f with | .next=>wpAny (model X.prog X.w) X.A (execs [st] X.env) (SP X pins D) X.xe s1 | f=>SP X pins D f s1):=fun f s1 k q=>by
  cases f with
  | next =>
   obtain ⟨σ',H',I',q⟩:=q
   refine abw (thn (h2 pins s1 σ' H' D I' k q) fun g s2 q2=>?_)
   cases g with
   | next=>exact aa7 q2
   | ret v=>exact q2
   | brk=>exact q2
   | cont=>exact q2
  | ret v=>exact q
  | brk=>exact q
  | cont=>exact q
 refine abw (wpAny_If (thn (hc pins s σ H _ I h) fun d s1 ⟨k1,H1,I1,q1⟩=>?_))
 cases d with
 | true=>exact thn (iS k1 (ha pins s1 σ H1 { D with nx:=u D } I1 q1)) fun f s2 ⟨k2,q2⟩=>cont f s2 k2 q2
 | false=>exact aa7 (cont .next s1 k1 ⟨σ,H1,I1,q1⟩)
def DB (a b:Str)(to:TE):TE:=fun σ H Q=>to σ H fun x H1=>∃ z:Str,x=.str z/\z.length+(z.length+1) * b.length<=16777216/\Q (.str (Txt.replace z a b)) H1
theorem nh   {a:Str}   (hab:(a == b)=false) (ho:PE X o to) (hbase:attributeBase o "replace" X.env (eval o X.env)=eval o X.env) (hline:(apos.endLine == cpos.line)=true) :
  PSk X (.Return (some (.Call (.Attribute o "replace" apos) [.Constant (.str a) i pa,.Constant (.str b) j pb] [] cpos)) pos) (EL (DB a b to)):=by
 intro pins s σ H D I k h
 refine wpAny_Return_some ?_
 refine wpAny_Call_method_late hbase rfl hline rfl (thn (iS k (ho pins s σ H _ I h)) fun v s1 ⟨k1,x,H1,I1,r1,z,ex,hl,q1⟩=>?_)
 subst ex
 obtain ⟨t,rfl⟩:=r1
 refine ⟨"str", "str.replace", aaY,PySem.F.slot_str_replace,by first | exact PySem.F.type_str_replace | rfl | decide +kernel,typeIs_str _ _ _,(fun _ e=>nomatch e),?_⟩
 refine abq rfl (abx ?_)
 show wpAny _ _ (spliced [(false,eval (.Constant (.str a) i pa) X.env),(false,eval (.Constant (.str b) j pb) X.env)]) _ _ s1
 refine abp (Calls.Constant_str (abp (Calls.Constant_str (Calls.spliced_nil ?_))))
 exact SC.replace (by show s1.toks≠0; nofun) (by show s1.toks+1≠0; nofun) (by show s1.toks≠s1.toks+1; nofun) hab hl fun t' k'=>⟨.str _,σ,H1,I1.tok k',⟨t',rfl⟩,q1⟩
section
variable {K:Frag} {μ:List Nat}
def He (a b:Str)(fo:FE):FE:=fun ρ Q=>fo ρ fun r ρ1=>on1 ρ1 r fun d=>match d with
 | .str z=>z.length+(z.length+1) * b.length<=16777216/\Q (.ov (.fz (.str (Txt.replace z a b)))) ρ1
 | _=>False
theorem DC {a:Str}{fo:FE}(ho:EF K μ to fo):EF K μ (DB a b to) (He a b fo):=⟨by
 intro F Z H τ σ ρ A Q P vw R h q
 refine ho.h vw R h fun r1 ρ1 x F1 H1 A1 B1 h1 s1 R1 v1 f1=>?_
 obtain ⟨d,e1,h2⟩:=bS h1
 cases d
 case str z=>exact ⟨z,(R1.acc v1 e1).str_eq,h2.1,q _ _ _ _ _ _ _ h2.2 s1 R1 (.fz (.str _)) Fresh.nil⟩
 all_goals exact False.elim h2⟩
theorem DD {x y:Str}{rpos:Pos}{n:Int}{jn:Nat}{pn cp:Pos}{e:Expr}{te:TE}(hop:BOp X (compareOp op) r)(hee:BE X e te)(hm:behindInMarks op (.Constant (.int n) jn pn)=false)
  (ha:BSs X a t) (hxy:(x == y)=false) (ho:BE X o to) (hbase:attributeBase o "replace" X.env (eval o X.env)=eval o X.env) (hline:(apos.endLine == cpos.line)=true) :
  BSs X [.If (.Compare e [op] [.Constant (.int n) jn pn] cp) a [] pos,.Return (some (.Call (.Attribute o "replace" apos) [.Constant (.str x) i pa,.Constant (.str y) j pb] [] cpos)) rpos] (EK (EM (mL (tOp r te (tC (.int n)))) t rc) (EL (DB x y to))) :=
 ⟨DA (Dz hop.h hee.h hm) ha.h (nh hxy ho.h hbase hline)⟩
end
end L2
namespace L2
open PySem PySem.Spec PyProof.Rows
open PySem.Builtin PySem.Builtin.Str PySem.StrLaws
def uk:R2:=fun x y H Q=>∃ (z:Str) (n:Int),x=.str z/\y=.int n/\1<=n/\0 < z.length/\z.length * n.toNat<=16777216/\Q (.str (iQ z n)) H
theorem qD (z:Str):iQ z 1=z:=by
 apply ai
 rw [iR]
 simp
section
variable {X:Cx}
theorem qE:BOp X (binaryOp .Mult) uk:=⟨by
 intro pins s σ H x y v u Q I rx ry h
 obtain ⟨z,n,rfl,rfl,h1,h0,hl,q⟩:=h
 by_cases hn:n=1
 ·subst hn
  rw [qD] at q
  obtain ⟨t,rfl⟩:=rx
  obtain ⟨t',rfl⟩:=ry
  refine PySem.P.mul_str (by decide) (fun _ h=>absurd h (by simp)) (fun _ h=>absurd h (by simp)) ?_
  rw [if_neg (by decide),if_pos (by simp)]
  exact ⟨.str z,H,I,⟨_,rfl⟩,q⟩
 ·exact xL pins s σ H _ _ v u Q I rx ry ⟨z,n,rfl,rfl,by nofun,h0,hl,q⟩⟩
theorem Js {j:Nat}{p pos:Pos}:BE X (.UnaryOp .USub (.Constant (.int 1) j p) pos) (tC (.int (-1))):=⟨fun pins s σ H Q I h=>Ap (X:=X) sk |>.h pins s σ H Q I ⟨1,rfl,h⟩⟩
end
section
variable {K:Frag} {μ:List Nat}
def ni (d e:D)(P:OV->Prop):Prop:=match d with
 | .str z=>(match e with
  | .int n=>(1<=n/\0 < z.length/\z.length * n.toNat<=16777216)/\P (.fz (.str (iQ z n)))
  | _=>False)
 | _=>False
theorem qG:OpF K uk ni:=⟨by
 intro F H x y d e Q P s hx hy f n
 cases d with
 | str z =>
  cases e with
  | int i=>exact ⟨z,i,hx.str_eq,hy.int_eq,f.1.1,f.1.2.1,f.1.2.2,ay s n (.str _) f.2⟩
  | _=>exact False.elim f
 | _=>exact False.elim f⟩
theorem ul {to:TE}{fo:FE}(ho:EF K μ to fo):EF K μ (Ib K "str" oK to) (fT0 uc fo):=⟨(xM ho).h⟩
end
theorem g5 (x y:Str):((Txt.partition x y).1=x/\(Txt.partition x y).2.2=Str.empty)∨x=(Txt.partition x y).1++y++(Txt.partition x y).2.2:=by
 unfold Txt.partition
 rcases occ_head x y 1 (aac _) with ⟨e,_⟩ | ⟨i,s,e,h1,_⟩
 ·rw [e]; exact .inl ⟨rfl,rfl⟩
 ·rw [e]
  refine .inr ?_
  obtain ⟨h2,h3⟩:=gK.mp h1
  apply ai
  show x.cps.toList=(strSub x 0 i++y++strSub x (i+y.length) x.length).cps.toList
  rw [aN,aN,strSub_toList,strSub_toList,aaA,Nat.sub_zero,← h3]
  have e1:((x.cps.toList.drop (i+y.length)).take (x.length - (i+y.length)))=x.cps.toList.drop (i+y.length):=by
   apply aah
   rw [List.length_drop,← af]
   nofun
  rw [e1,← abg,List.append_assoc,aaC,aaC]
end L2
namespace L2
open PySem PySem.Spec PyProof.Rows
variable{μ ixs T m:List Nat}{n no i k:Nat}{te:TE}{fe:FE}{c:Ct}{t:TA}{wi:TI}{fg:FG}{tc:TT}{fc:FT}{ds:List D}{st:Stmt}{f:Addr}{fd:FuncData}{ps:List Str}{P:Program}{w:World}{mg:Str->Option Value}{base h:Heap}{sp:Sp}
def cj (fa:FE):FT:=ax fa
def cV (_:List Nat)(no:Nat)(fi:FI)(fg:FG)(ft:FT)(fe:FE):FE:=qt no fi fg ft fe
def um (_:List Nat)(no i:Nat)(fg:FG)(ft:FT)(fe:FE):FE:=oB no i fg ft fe
section
variable {K:Frag}  {j:Nat}  
theorem Hf (ha:EF K μ te fe):TF K μ (tB te) (cj fe):=⟨(ix ha).h⟩
theorem xW {fa:FA}(ha:AF K μ t fa):EF K μ (jc (spM K c) [] E0 t) (ak c fa):=gl ha
theorem Jt (h:μ[μ.idxOf i]?=some i):EF K μ (nE (μ.idxOf i)) (ac i):=sR h
theorem gf_c (h:decide (i < no)=true)(hn:(muC no ixs μ).Nodup):GF K (muC no ixs μ) [i] (fJ i) (ad i):=mY (by
 unfold muC
 rw [List.getElem?_append_left (by rw [List.length_range]; exact of_decide_eq_true h)]
 simp [of_decide_eq_true h]) hn
theorem Ju {fi:FI}{g:TG}(hi:ITF K μ wi fi)(hg:GF K (muC no ixs μ) T g fg)(hT:∀ i ∈ T,i < no)(hix:∀ j ∈ ixs,j < μ.length)
  (hc:TF K (muC no ixs μ) tc fc) (he:EF K (muC no ixs μ) te fe):EF K μ (eL no ixs wi g tc te) (cV ixs no fi fg fc fe):=CK hi hix hg hT hc he
theorem Jv {g:TG}(h:j < n)(hg:GF K (muC no ixs (List.range n)) T g fg)(hT:∀ i ∈ T,i < no)(hix:∀ j ∈ ixs,j < (List.range n).length)
  (hc:TF K (muC no ixs (List.range n)) tc fc) (he:EF K (muC no ixs (List.range n)) te fe):EF K (List.range n) (eL no ixs (mK K (nE j)) g tc te) (um ixs no j fg fc fe):=tQ h hix hg hT hc he
end
def DE:List D->List Str
 | .str z::ds=>z::DE ds
 | _=>[]
theorem Jw {K:Frag}(h:(DE ds).map D.str=ds):EF K μ (tGU K ((DE ds).map V.str)) (fC (.tup ds)):=Jj fun _=>by
 conv=>arg 4; rw [← h]
 exact Dens.strs _
def toV:D->V
 | .int i=>.int i
 | .str z=>.str z
 | _=>.non
def trs0 (ks:List Key)(ds:List D):List (TE×TE):=(ks.zip (ds.map toV)).map fun kv=>(tC (kV kv.1),tC kv.2)
theorem Hg {K:Frag}{ks:List Key}{ty tx:TE}{fx:FE}(h:(decide (ks.length<=15) && decide (ks.length=ds.length) && ds.all fun d=>match d with | .int _=>true | .str _=>true | _=>false)=true)(hm:ii [] (ks.zip (ds.map toV))=ks.zip (ds.map toV))
  (he:EF K μ ty fe) (hx:EF K μ tx fx):EF K μ (nL (wu (trs0 ks ds)) ty tx) (tZ ks ds fe fx):=by
 simp only [Bool.and_eq_true,decide_eq_true_eq] at h
 have hl:ks.length=(ds.map toV).length:=by rw [List.length_map]; exact h.1.2
 refine xE (ks.zip (ds.map toV)) (fun σ H Q q=>?_) (by rw [List.length_zip,← hl]; have:=h.1.1; nofun) hm (List.map_fst_zip (Nat.le_of_eq hl)) (fun F=>?_) he hx
 ·show ls ((ks.zip (ds.map toV)).map fun kv=>(tC (kV kv.1),tC kv.2)) σ H Q
  generalize ks.zip (ds.map toV)=kvs at q
  clear hm
  induction kvs generalizing Q with
  | nil=>exact q
  | cons kv kvs ih=>exact ih _ q
 ·rw [List.map_snd_zip (Nat.le_of_eq hl.symm)]
  have h2:=h.2
  clear h hm hl
  induction ds with
  | nil=>exact .nil
  | cons d ds ih =>
   rw [aaK,Bool.and_eq_true] at h2
   refine .cons ?_ (ih h2.2)
   cases d with
   | int i=>exact .int i
   | str z=>exact .str z
   | _=>exact nomatch h2.1
def Io (m:List Nat):Nat->List OV->Bool
 | _,[]=>true
 | i,o::os=>(m.contains i || v6 o) && Io m (i+1) os
theorem uo {m:List Nat}:∀ {os:List OV} {i:Nat},Io m i os=true->∀ j o,os[j]?=some o->i+j ∉ m->v6 o=true
 | [],_,_,_,_,e,_=>nomatch e
 | a::os,i,h,j,o,e,n=>by
  rw [Io,Bool.and_eq_true,Bool.or_eq_true] at h
  cases j with
  | zero =>
   cases e
   exact h.1.elim (fun z=>absurd (List.contains_iff_mem.mp z) n) id
  | succ j=>exact uo h.2 j o e (by rw [Nat.add_right_comm]; exact n)
theorem lo_of {os:List OV}(h1:os.length=n)(h2:Io m 0 os=true):os.length=n/\∀ j o,os[j]?=some o->j ∉ m->v6 o=true:=⟨h1,fun j o e hj=>uo h2 j o e (by rw [abu]; exact hj)⟩
def tgN:Expr->List Str
 | .Name x _=>[x]
 | .Tuple es _ _=>es.filterMap fun e=>match e with
  | .Name x _=>some x
  | _=>none
 | _=>[]
def fvN (X:Cx)(ixs:List Nat):List Str:=ixs.map fun i=>X.N.getD i ""
theorem Jx {l:List Str}(h:decide l.Nodup=true):l.Nodup:=of_decide_eq_true h
section
variable {X:Cx}   {scope:Scope} {elt tg iter:Expr} {ifs:List Expr} {pos:Pos}  {g:TG}  
theorem Jy (hT:(tgN tg).length=no)(hc:X.calm=true)(S:CompScope X (tgN tg) (fvN X ixs) ixs scope)(hi:BI X tg iter wi)
  (hg:∀ C s H fp,BG (aL X (tgN tg++fvN X ixs) scope (am X.env scope.names []) C s H fp) tg g) (ht:∀ C s H fp,BIf (aL X (tgN tg++fvN X ixs) scope (am X.env scope.names []) C s H fp) ifs tc) (he:∀ C s H fp,BE (aL X (tgN tg++fvN X ixs) scope (am X.env scope.names []) C s H fp) elt te)
  (hs:∀ x,foldedSetIterable iter X.env x=pure x):BE X (.ListComp elt [⟨tg,iter,ifs,0⟩] scope pos) (eL no ixs wi g tc te):=hT ▸ Ce hc S hi hg ht he hs
theorem Jz {y:Str}{py spos:Pos}(hsw:swapsWith (.ListComp elt [⟨tg,iter,ifs,0⟩] scope pos) (some (.Name y py)) spos.line X.env=pure true)(hT:(tgN tg).length=no)(hc:X.calm=true)(S:CompScope X (tgN tg) (fvN X ixs) ixs scope)(hi:BI X tg iter wi)
  (hg:∀ C s H fp,BG (aL X (tgN tg++fvN X ixs) scope (am X.env scope.names []) C s H fp) tg g) (ht:∀ C s H fp,BIf (aL X (tgN tg++fvN X ixs) scope (am X.env scope.names []) C s H fp) ifs tc) (he:∀ C s H fp,BE (aL X (tgN tg++fvN X ixs) scope (am X.env scope.names []) C s H fp) elt te)
  (hs:∀ x,foldedSetIterable iter X.env x=pure x) (hN:X.N.Nodup) (hix:X.N[i]?=some y) (hx:Loc X.env.scope y) (hf:X.fn y=true∨X.env.scope.names.lookup y=some .local) :
  BS X (.Assign [.Name y py] (.ListComp elt [⟨tg,iter,ifs,0⟩] scope pos) spos) (pO (eL no ixs wi g tc te) (fJ i)):=hT ▸ Cz hc S hi hg ht he hs hN hix hx hsw hf
theorem xX {x:Str} {p:Pos} {e:Expr} {es:List Expr}  {f:Value} {r:List V->Hp->VK->Prop} (hc:BCall X f r) (hm:X.mg x=none) (hv:bootBuiltins x=some f) (hf:(∃ id,f=.builtin id)∨∃ T,f=.type T) (ha:BA X (e::es) t) (hg:X.env.kindOf x=some .globalImplicit) (hns:(e::es).all bL=true) (hn:(x == "__name__")=false)
  (hdb:(x == ("__debug__" : Str))=false):BE X (.Call (.Name x p) (e::es) [] pos) (tCB r t):=by
 have hn':x ≠ "__name__" := fun z=>by rw [z] at hn; exact absurd hn (by decide)
 rcases hf with ⟨id,rfl⟩ | ⟨T,rfl⟩
 ·exact cS hc hm hv ha hg hns hn' hdb
 ·exact nV hc hm hv ha hg hns hn' hdb
end
structure Df (K:Frag)(x:Str)(st:Stmt)(f:Addr)(fd:FuncData):Prop where
 ns:PySem.W.nsIn K mainGlobals x=some (some (.ref f))
 fn:Fun K x x st f fd
theorem df_mk {K:Frag}{x:Str}{oc:Value}{od an:Option Addr}{osl:Array (Option Value)}{kV doc pm cdv ct:Value}(a:PySem.W.nsIn K mainGlobals x=some (some (.ref f)))(l:K.lookup f=some ⟨oc,od,.func (PySem.W.fnOf x x (dl st) (bT st) (aj st) .none kV doc pm an cdv ct),osl⟩)
  (c:PySem.W.codeIn K cdv x=true) (k:PySem.W.keepIn K (.ref f)=true):Df K x st f (PySem.W.fnOf x x (dl st) (bT st) (aj st) .none kV doc pm an cdv ct):=⟨a,FF l c k⟩
abbrev Lh (c:Ct)(n:Nat)(m:List Nat):Prop:=∀ os P,c os P->os.length=n/\∀ j o,os[j]?=some o->j ∉ m->v6 o=true
abbrev Hh (c:Ct)(f:FS)(m:List Nat)(n:Nat):Prop:=∀ os P,c os P->f { nx:=fin m os P (.fz .non),rt:=fin m os P } (aw n os)
structure Zz where
 P:Program
 w:World
 K:Frag
 mg:Str->Option Value
 base:Heap
 h:Heap
structure TopZ (Z:Zz)(T:Prop):Prop where
 X:Z.K.In Z.h
 G:Z.h.Ns mainGlobals Z.mg
 T:T
abbrev dJ (Z:Zz)(x:Str)(k:Nat)(ps:List Str)(c:Ct):Prop:=Own Z.P Z.w Z.K Z.mg Z.base x k ps (spM Z.K c)
section
variable {Z:Zz} {T:Prop} {x:Str}      {fs:FS}  
theorem Hi (N:List Str)(t:TopZ Z T)(D:Df Z.K x st f fd)(hlen:Lh c ps.length m)(hc:Hh c fs m n)(S:FnScope N ps (aj st))
  (hbody:∀ (cdv:Value) (A:Around) (outer:List Env) (s:Shared) (H:Hp) (E:XK),T->N.Nodup->Room k (A.deeper (envOfC x (aj st) s.heap.objs.size f cdv)) ->
   ∃ t,SF Z.K n m t fs/\BSs (dL CX0 Z.P Z.w Z.K Z.mg Z.base N x (aj st) f cdv A outer s H E).nox (bT st) t) (hn:autoParam (N.length=n) L2.aR._auto_1) (hN:autoParam (ps.length<=n) L2.aD._auto_1) (hm:autoParam (∀ i ∈ m,i < ps.length) L2.aD._auto_1):FnOk Z.P Z.w Z.K Z.mg Z.base CX0 (k+1) f fd ps (spM Z.K c) :=
 Fun.okG n m D.fn S hn hN hlen hm (fun cdv A outer s H E hr=>let ⟨t,a,b⟩:=hbody cdv A outer s H E t.T S.nd hr; ⟨t,b,a⟩) hc
theorem aW (N:List Str)(t:TopZ Z T)(D:Df Z.K x st f fd)(hlen:Lh c ps.length m)(hc:Hh c fs m n)
  (hb:∀ (kV doc pm:Value) (an:Option Addr) (cdv ct:Value) (us:List Value),us.length=ps.length->bindArgs (PySem.W.fnOf x x (dl st) (bT st) (aj st) .none kV doc pm an cdv ct) ⟨us,[]⟩=pure (ps.zip us)) (S:FnScope N ps (aj st))
  (hbody:∀ (cdv:Value) (A:Around) (outer:List Env) (s:Shared) (H:Hp) (E:XK),T->N.Nodup->Room k (A.deeper (envOfC x (aj st) s.heap.objs.size f cdv)) ->
   ∃ t,SF Z.K n m t fs/\BSs (dL CX0 Z.P Z.w Z.K Z.mg Z.base N x (aj st) f cdv A outer s H E).nox (bT st) t) (hn:autoParam (N.length=n) L2.aR._auto_1) (hN:autoParam (ps.length<=n) L2.aD._auto_1) (hm:autoParam (∀ i ∈ m,i < ps.length) L2.aD._auto_1):dJ Z x (k+1) ps c :=
 ⟨f,fd,Hi N t D hlen hc S hbody hn hN hm,aap t.X t.G D.ns,D.fn.kp,D.fn.binds hb⟩
end
theorem AN {K:Frag}{x:Str}(X:K.In h)(G:h.Ns mainGlobals mg)(D:Df K x st f fd)(ok:FnOk P w K mg base CX0 k f fd ps sp)
  (hb:∀ (kV doc pm:Value) (an:Option Addr) (cdv ct:Value) (us:List Value),us.length=ps.length->bindArgs (PySem.W.fnOf x x (dl st) (bT st) (aj st) .none kV doc pm an cdv ct) ⟨us,[]⟩=pure (ps.zip us)):Own P w K mg base x k ps sp:=⟨f,fd,ok,aap X G D.ns,D.fn.kp,D.fn.binds hb⟩
theorem nj {K:Frag}{x:Str}(X:K.In h)(G:h.Ns mainGlobals mg)(D:Df K x st f fd)(ok:FnOk P w K mg base (CXr P w) k f fd ps sp)
  (hb:∀ (kV doc pm:Value) (an:Option Addr) (cdv ct:Value) (us:List Value),us.length=ps.length->bindArgs (PySem.W.fnOf x x (dl st) (bT st) (aj st) .none kV doc pm an cdv ct) ⟨us,[]⟩=pure (ps.zip us)):OwnR P w K mg base x k ps sp:=⟨f,fd,ok,aap X G D.ns,D.fn.kp,D.fn.binds hb⟩
end L2
local macro_rules | `(tactic| delta $c:ident) => `(tactic| (intro os P h; unfold $c at h; (repeat (obtain ⟨x, h⟩ := h)); subst_vars; exact L2.lo_of rfl rfl))
namespace KR
open PySem L2
variable{b1 b2 m n b0 a:Int}{P:OV->List OV->Prop}{w:World}{mg:Str->Option Value}{base:Heap}{z word y:Str}{i c:Nat}{Q:D->Prop}{zs:List Str}{α β:Type}{d:D}{p:Prop}{b:Bool}{xs ds:List D}{C f:Addr}{fd:FuncData}{ws:List Int}
def top (i:Nat):Stmt:=PySem.Challenge.pw_keptreading_k48_texts_of_no_book.main.body.getD i (.Pass ⟨0,0,0,0⟩)
structure Txt (K:Frag)(mg:Str->Option Value):Prop where
 n_len:mg "len" = none
 n_max:mg "max" = none
 n_min:mg "min" = none
 n_isinstance:mg "isinstance" = none
 n_all:mg "all" = none
 n_sorted:mg "sorted" = none
 n_range:mg "range" = none
 n_str:mg "str" = none
 n_list:mg "list" = none
 n_tuple:mg "tuple" = none
 n_set:mg "set" = none
 n_ord:mg "ord" = none
 n_ValueError:mg "ValueError" = none
 g_LETTERS:Glo mg "LETTERS" (.str "abcdefghijklmnopqrstuvwxyz")
 g_MOST_LETTERS:Glo mg "MOST_LETTERS" (.int 8)
 g_MOST_SIGNS:Glo mg "MOST_SIGNS" (.int 40)
 g_MOST_PARTS:Glo mg "MOST_PARTS" (.int 8)
 g_BARRED_SIGN:Glo mg "BARRED_SIGN" (.int 37)
 g_WORDS_ALONE:Ii K mg "WORDS_ALONE" [.str "none", .str "any"]
 g_WORDS_WITH_ONE:Ii K mg "WORDS_WITH_ONE" [.str "again", .str "ahead", .str "not"]
 g_WORDS_WITH_SOME:Ii K mg "WORDS_WITH_SOME" [.str "row", .str "first"]
abbrev bC (b0 b1 b2:Int):OV:=.fl [.int b0,.int b1,.int b2]
def BagB (b1 b2 n:Int):Prop:=0<=b1/\b1 < 2 ^ 200/\0<=b2/\b2<=n
theorem BagB.mono (h:BagB b1 b2 m)(e:m<=n):BagB b1 b2 n:=⟨h.1,h.2.1,h.2.2.1,Int.le_trans h.2.2.2 e⟩
theorem lez (n:Nat)(h:autoParam (n<=16777216) L2.aD._auto_1):n<=sizeLine:=by rw [sizeLine_eq]; exact h
@[irreducible] def bv:Ct:=fun os P=>∃ (ns:List Int) (k:Nat),os=[.fz (.lst (ns.map .int)),.fz (.int k)]/\∀ z:Int,P (.fz (.int z)) os
@[irreducible] def cq:Ct:=fun os P=>∃ (z:Int) (k:Nat),os=[.fz (.int z),.fz (.int k)]/\k<=100/\∀ b0 b1 b2,BagB b1 b2 0->P (bC b0 b1 b2) os
@[irreducible] def ae:Ct:=fun os P=>∃ (b0 b1 b2 m n:Int),os=[bC b0 b1 b2,.fz (.int m)]/\BagB b1 b2 n/\n < 2 ^ 40/\0 < m/\m < 1000000/\∀ r b0' b1' b2',0<=r->r < m->BagB b1' b2' (n+1)->P (.fz (.int r)) [bC b0' b1' b2',.fz (.int m)]
section
variable {P:Program}  {K:Frag}  
abbrev AO:Stmt:=top 36
abbrev Hj:FS :=
  (ap (fIf (ax (fOp (fI (fun i j=>decide (i < j)) aQ) (ac 1) (fCB dY (aa (ac 0) ag))))
   (bp (fOp aIx (ac 0) (ac 1)))
   az)
  (bp (fC (.int 0))))
abbrev Hk:Stmt:=top 37
abbrev JA:FS :=
  (bp (fq (aa (fCB Ij (aa (fC (.int 0)) (aa (fOp (aI0 fun i j=>.int (i - j)) (ac 0) (fOp (aIC Fc fun i j=>.int (i ^ j.toNat)) (fC (.int 10)) (fC (.int 18)))) ag))) (aa (fOp ja (fOp (aIC (fun _ j=>0 < j) fun i j=>.int (i % j)) (ac 0) (fC (.int 170141183460469231731687303715884105727))) (fOp (aIC CMul fun i j=>.int (i * j)) (fC (.int 982451653)) (ac 1))) (aa (fC (.int 0)) ag)))))
abbrev AQ:Stmt:=top 38
abbrev Hl:FS :=
  (ap (fIf (ax (fOp (fI (fun i j=>decide (j < i)) fun i j=>aQ j i) (fOp aIx (ac 0) (fC (.int 0))) (fC (.int 1))))
   (ap (bB (fOp (aIC (fun _ j=>0 < j) fun i j=>.int (i % j)) (fOp aIx (ac 0) (fC (.int 0))) (ac 1)) (ad 2))
  (ap (iC 0 (fOp (aIC rm fun i j=>.int (i / j)) (fOp aIx (ac 0) (fC (.int 0))) (ac 1)) (fC (.int 0)))
  (bp (ac 2))))
   az)
  (ap (iC 0 (fOp ja (fOp aIx (ac 0) (fC (.int 2))) (fC (.int 1))) (fC (.int 2)))
  (ap (bB (fOp (aIC (fun _ j=>0 < j) fun i j=>.int (i % j)) (fOp (aIC pY fun i j=>.int (i ^ j.toNat)) (fOp ja (fOp aIx (ac 0) (fC (.int 1))) (fOp (aIC CMul fun i j=>.int (i * j)) (fC (.int 7368787)) (fOp aIx (ac 0) (fC (.int 2))))) (fC (.int 3))) (fC (.int 170141183460469231731687303715884105727))) (ad 3))
  (ap (bB (fOp (aIC (fun _ j=>0 < j) fun i j=>.int (i % j)) (fOp (aIC pY fun i j=>.int (i ^ j.toNat)) (fOp ja (ac 3) (fOp (aIC CMul fun i j=>.int (i * j)) (fC (.int 15485863)) (fOp aIx (ac 0) (fC (.int 2))))) (fC (.int 3))) (fC (.int 162259276829213363391578010288127))) (ad 3))
  (bp (fOp (aIC (fun _ j=>0 < j) fun i j=>.int (i % j)) (fOp (aIC rm fun i j=>.int (i / j)) (ac 3) (fC (.int 1024))) (ac 1)))))))
theorem Hm:Lh bv 2 []:=by delta bv
theorem Hn:Hh bv Hj [] 2:=by
 intro os P h
 unfold bv at h
 obtain ⟨ns,k,rfl,q⟩:=h
 ext
 refine bd ?_
 ext
 refine ah ((k:Int) < (ns.map D.int).length) (by simp) (fun hk=>?_) (fun _=>?_)
 ·ext
  have hk':k < ns.length:=by rw [List.length_map] at hk; nofun
  have e:atI (ns.map D.int) (k:Int)=some (.int ns[k]):=di (by simp [hk'])
  show match atI (ns.map D.int) (k:Int) with
   | some d=>_
   | none=>False
  rw [e]
  exact q _
 ·ext
  exact q _
theorem JB:Lh cq 2 []:=by delta cq
theorem JC:Hh cq JA [] 2:=by
 intro os P h
 unfold cq at h
 obtain ⟨z,k,rfl,hk,q⟩:=h
 ext
 refine ⟨⟨by decide,by decide,by decide⟩,?_⟩
 ext
 refine ⟨(by decide:(0:Int) < 170141183460469231731687303715884105727),?_⟩
 ext
 refine ⟨.inl ⟨by decide,by decide⟩,?_⟩
 ext
 refine ⟨by show 3<=sizeLine; decide,?_⟩
 ext
 refine q _ _ _ ⟨?_,?_,by nofun,by nofun⟩
 ·have:=Int.emod_nonneg z (show (170141183460469231731687303715884105727:Int)≠0 by decide)
  show 0<=z % 170141183460469231731687303715884105727+982451653 * (k:Int)
  nofun
 ·have:=Int.emod_lt_of_pos z (show (0:Int) < 170141183460469231731687303715884105727 by decide)
  show z % 170141183460469231731687303715884105727+982451653 * (k:Int) < 2 ^ 200
  nofun
theorem oM {x:Int}(h0:0<=x)(h:x < 2 ^ 300):x.natAbs < 2 ^ 1000:=by
 have:(2:Nat) ^ 300 < 2 ^ 1000:=by decide +kernel
 nofun
theorem Ho:Lh ae 2 [0]:=by delta ae
theorem Hq:Hh ae Hl [0] 4:=by
 intro os P h
 unfold ae at h
 obtain ⟨b0,b1,b2,m,n,rfl,⟨h1,h1',h2,h2'⟩,hn,hm,hm',q⟩:=h
 ext
 refine bd ?_
 ext
 refine ah (b0 > 1) (by simp) (fun hk=>?_) (fun hk=>?_)
 ·ext
  refine ⟨hm,?_⟩
  ext
  refine ⟨⟨hm,by nofun⟩,?_⟩
  ext
  refine ⟨rfl,?_⟩
  ext
  exact q _ _ _ _ (Int.emod_nonneg _ (by nofun)) (Int.emod_lt_of_pos _ hm) ⟨h1,h1',h2,by nofun⟩
 ·ext
  refine ⟨rfl,?_⟩
  ext
  refine ⟨.inl ⟨by decide,by decide⟩,?_⟩
  ext
  refine ⟨⟨by decide,by decide,oM (x:=b1+7368787 * (b2+1)) (by nofun) (by nofun)⟩,?_⟩
  ext
  refine ⟨(by decide:(0:Int) < 170141183460469231731687303715884105727),?_⟩
  have hx0:0<=(b1+7368787 * (b2+1)) ^ (3:Int).toNat % 170141183460469231731687303715884105727:=Int.emod_nonneg _ (by decide)
  have hx1:(b1+7368787 * (b2+1)) ^ (3:Int).toNat % 170141183460469231731687303715884105727 < 170141183460469231731687303715884105727:=Int.emod_lt_of_pos _ (by decide)
  ext
  refine ⟨.inl ⟨by decide,by decide⟩,?_⟩
  ext
  refine ⟨⟨by decide,by decide,oM (x:=(b1+7368787 * (b2+1)) ^ (3:Int).toNat % 170141183460469231731687303715884105727+15485863 * (b2+1)) (by nofun) (by nofun)⟩,?_⟩
  ext
  refine ⟨(by decide:(0:Int) < 162259276829213363391578010288127),?_⟩
  ext
  refine ⟨⟨by decide,by decide⟩,?_⟩
  ext
  refine ⟨hm,?_⟩
  ext
  exact q _ _ _ _ (Int.emod_nonneg _ (by nofun)) (Int.emod_lt_of_pos _ hm) ⟨h1,h1',by nofun,by nofun⟩
theorem aq (n:Int){P:OV->List OV->Prop}(hb:BagB b1 b2 n)(hn:n < 2 ^ 40)(hm:0 < m)(hm':m < 1000000)(h:∀ r b0' b1' b2',0<=r->r < m->BagB b1' b2' (n+1)->P (.fz (.int r)) [bC b0' b1' b2',.fz (.int m)]) :
  ae [bC b0 b1 b2,.fz (.int m)] P:=by
 unfold ae
 exact ⟨b0,b1,b2,m,n,rfl,hb,hn,hm,hm',h⟩
end
def v7 (l:List Nat):Prop:=∀ c ∈ l,97<=c/\c<=122
def a7 (z:Str):Prop:=1<=z.cps.toList.length/\z.cps.toList.length<=8/\v7 z.cps.toList
theorem g6 {a b:List Nat}(ha:v7 a)(hb:v7 b):v7 (a++b):=fun c h=>(List.mem_append.mp h).elim (ha c) (hb c)
abbrev abc:Str := "abcdefghijklmnopqrstuvwxyz"
theorem uq:v7 abc.cps.toList:=by
 have h:(abc.cps.toList.all fun c=>decide (97<=c/\c<=122))=true:=by decide +kernel
 intro c hc
 exact of_decide_eq_true (List.all_eq_true.mp h c hc)
theorem ur:abc.cps.toList.length=26:=by decide +kernel
theorem cB (z:Str)(lo hi:Option Int):(cG z lo hi).cps.toList=cg z.cps.toList lo hi:=by simp [cG]
theorem bH:sizeLine=16777216:=sizeLine_eq
@[irreducible] def b5:Ct:=fun os P=>∃ (b0 b1 b2 n:Int) (last:Str),os=[bC b0 b1 b2,.fz (.str last)]/\BagB b1 b2 n/\n < 2 ^ 39/\v7 last.cps.toList/\last.cps.toList.length<=8/\∀ z b0' b1' b2',a7 z->BagB b1' b2' (n+12)->P (.fz (.str z)) [bC b0' b1' b2',.fz (.str last)]
section
variable {P:Program}  {K:Frag}  
abbrev AR:Stmt:=top 39
abbrev Hr:FS :=
  (ap (bB (fC (.str "abcdefghijklmnopqrstuvwxyz")) (ad 2))
  (ap (bB (ak ae (aa (ac 0) (aa (fC (.int 6)) ag))) (ad 3))
  (ap (bB (fOp aIx (ac 2) (ak ae (aa (ac 0) (aa (fC (.int 26)) ag)))) (ad 4))
  (ap (fIf (Aw (ax (fOp aEq (ac 3) (fC (.int 0)))) (ax (jw (fI (fun i j=>decide (i < j)) aQ) (fI (fun i j=>decide (i < j)) aQ) (fC (.int 0)) (fCB dY (aa (ac 1) ag)) (fC (.int 8)))))
   (bp (fOp ja (ac 1) (ac 4)))
   az)
  (ap (fIf (Aw (ax (fOp aEq (ac 3) (fC (.int 1)))) (ax (fOp (fI (fun i j=>decide (j < i)) fun i j=>aQ j i) (fCB dY (aa (ac 1) ag)) (fC (.int 1)))))
   (bp (fSl aSl (ac 1) (bh (fC (.int 1))) au))
   az)
  (ap (fIf (Aw (ax (fOp aEq (ac 3) (fC (.int 2)))) (ax (fOp aNe (ac 1) (fC (.str "")))))
   (ap (bB (ak ae (aa (ac 0) (aa (fFz (fCB dY (aa (ac 1) ag))) ag))) (ad 5))
  (bp (fOp ja (fOp ja (fSl aSl (ac 1) au (bh (ac 5))) (ac 4)) (fSl aSl (ac 1) (bh (fOp ja (ac 5) (fC (.int 1)))) au))))
   az)
  (bp (fOp ja (ac 4) (gP (fC (.str "")) (cV [2,0] 1 (dS (aa (ak ae (aa (ac 0) (aa (fC (.int 8)) ag))) ag)) (ad 0) mG (fOp aIx (ac 3) (ak ae (aa (ac 1) (aa (fC (.int 26)) ag))))))))))))))
theorem Hs:Lh b5 2 [0]:=by delta b5
theorem Ht:Hh b5 Hr [0] 6:=by
 intro os P h
 unfold b5 at h
 obtain ⟨b0,b1,b2,n,last,rfl,hb,hn,hlow,hlen,q⟩:=h
 have sz:=bH
 have hll:last.length=last.cps.toList.length:=dt last
 have hn0:0<=n:=Int.le_trans hb.2.2.1 hb.2.2.2
 ext
 refine aq n hb (by nofun) (by decide) (by decide) fun way b0 b1 b2 w0 w1 hb1=>?_
 ext
 refine aq (n+1) hb1 (by nofun) (by decide) (by decide) fun r b0 b1 b2 r0 r1 hb2=>?_
 ext
 refine ⟨by decide +kernel,?_⟩
 refine fF r0 (by rw [show (Str.ofString "abcdefghijklmnopqrstuvwxyz").cps.toList.length=26 from ur]; exact r1) fun c hcm=>?_
 have hcl:=uq c hcm
 have cl1:v7 [c]:=fun d hd=>by
  have:d=c:=(by exists hd)
  rw [this]; exact hcl
 have cs:(⟨#[c]⟩:Str).cps.toList=[c]:=rfl
 have cl:(⟨#[c]⟩:Str).length=1:=rfl
 ext
 refine bo True (fun _=>?_) (fun rest=>?_)
 rotate_left
 ·-- way == 0 and 0 < len(last) < 8
  ext
  refine ⟨aA,?_⟩
  ext
  refine ah (way=0) aV (fun hw=>?_) (fun _=>?_)
  ·ext
   refine ⟨by nofun,?_⟩
   ext
   refine ah ((0:Int) < last.length) (by simp) (fun h1=>?_) (fun _=>?_)
   ·ext
    refine ah ((last.length:Int) < 8) (by simp) (fun h2=>?_) (fun _=>?_)
    ·ext
     refine ⟨by nofun,?_⟩
     ext
     refine q _ _ _ _ ⟨?_,?_,?_⟩ (hb2.mono (by nofun))
     ·rw [cM,List.length_append,cs,aat]; nofun
     ·rw [cM,List.length_append,cs,aat]; nofun
     ·rw [cM,cs]; exact g6 hlow cl1
    ·exact rest trivial
   ·ext
    exact gX (rest trivial)
  ·ext
   exact gX (rest trivial)
 ext
 refine bo True (fun _=>?_) (fun rest=>?_)
 rotate_left
 ·-- way == 1 and len(last) > 1
  ext
  refine ⟨aA,?_⟩
  ext
  refine ah (way=1) aV (fun hw=>?_) (fun _=>?_)
  ·ext
   refine ⟨by nofun,?_⟩
   ext
   refine ah ((1:Int) < last.length) (by simp) (fun h1=>?_) (fun _=>?_)
   ·ext
    refine ⟨by nofun,?_⟩
    ext
    refine q _ _ _ _ ⟨?_,?_,?_⟩ (hb2.mono (by nofun))
    ·rw [cB,show (1:Int)=((1:Nat):Int) from rfl,db,List.length_drop]; nofun
    ·rw [cB]; exact aaq (ik _ _ _) hlen
    ·rw [cB]; exact fun d hd=>hlow d (nS hd)
   ·exact rest trivial
  ·ext
   exact gX (rest trivial)
 ext
 refine bo True (fun _=>?_) (fun rest=>?_)
 rotate_left
 ·-- way == 2 and last != ''
  ext
  refine ⟨aA,?_⟩
  ext
  refine ah (way=2) aV (fun hw=>?_) (fun _=>?_)
  ·ext
   refine ⟨aM,?_⟩
   ext
   refine ah (last ≠ "") xu (fun h1=>?_) (fun _=>?_)
   ·have h1':0 < last.cps.toList.length:=by
     refine Nat.pos_of_ne_zero fun z=>h1 (eX ?_)
     rw [aar z]
     rfl
    ext
    refine ⟨by nofun,?_⟩
    ext
    refine aq (n+1+1) hb2 (by nofun) (by nofun) (by nofun) fun at' b0 b1 b2 a0 a1 hb3=>?_
    obtain ⟨k,rfl⟩:=aaV a0
    ext
    refine ⟨by nofun,?_⟩
    have hy1:=(cB last none (some (k:Int))).trans (il last.cps.toList k)
    have l1:(cG last none (some (k:Int))).length=k:=by rw [mU hy1,aau]; nofun
    ext
    refine ⟨by rw [l1,cl]; nofun,?_⟩
    ext
    refine ⟨by nofun,?_⟩
    have hy2:=(cB last (some ((k:Int)+1)) none).trans (db last.cps.toList (k+1))
    have l2:(cG last (some ((k:Int)+1)) none).length=last.cps.toList.length - (k+1):=by rw [mU hy2,List.length_drop]
    have l12:(cG last none (some (k:Int))++(⟨#[c]⟩:Str)).length=k+1:=by rw [dt,cM,List.length_append,← dt,l1]; rfl
    ext
    refine ⟨by rw [l12,l2]; nofun,?_⟩
    ext
    refine q _ _ _ _ ⟨?_,?_,?_⟩ (hb3.mono (by nofun))
    ·rw [cM,List.length_append,← dt,← dt,l12,l2]; nofun
    ·rw [cM,List.length_append,← dt,← dt,l12,l2]; nofun
    ·rw [cM,cM,hy1,hy2]
     exact g6 (g6 (fun d hd=>hlow d (List.mem_of_mem_take hd)) cl1) fun d hd=>hlow d (List.mem_of_mem_drop hd)
   ·exact rest trivial
  ·ext
   exact gX (rest trivial)
 -- the last row
 ext
 refine aq (n+1+1) hb2 (by nofun) (by decide) (by decide) fun many b0 b1 b2 m0 m1 hb3=>?_
 ext
 refine ⟨⟨by nofun,by nofun⟩,?_⟩
 ext
 refine bM (fun i as ρ=>∃ (zs:List Str) (x:Option OV) (b0 b1 b2:Int),as=zs.map .str/\zs.length=i/\(∀ z ∈ zs,z.cps.toList.length=1/\v7 z.cps.toList)/\BagB b1 b2 (n+3+i) /\
   ρ=[x,some (bC b0 b1 b2),some (.fz (.str last)),some (.fz (.str abc)),some (.fz (.int way)),some (.fz (.str ⟨#[c]⟩)),none])
  ⟨[],none,b0,b1,b2,rfl,rfl,(fun _ h=>by cases h),hb3.mono (by nofun),rfl⟩ ?_ ?_
 ·rintro i d as ρ R hd ⟨zs,x,b0,b1,b2,rfl,hl,hz,hb4,rfl⟩ k
  obtain ⟨hi,rfl⟩:=bW hd
  ext
  refine dM ?_
  ext
  refine aq _ hb4 (by nofun) (by decide) (by decide) fun r5 b0 b1 b2 r50 r51 hb5=>?_
  ext
  refine ⟨by decide +kernel,?_⟩
  refine fF r50 (by rw [show (Str.ofString "abcdefghijklmnopqrstuvwxyz").cps.toList.length=26 from ur]; exact r51) fun d hdm=>?_
  ext
  refine ⟨by rw [List.length_map]; nofun,k _ _ ⟨zs++[⟨#[d]⟩],some (.fz (.int (0+i))),b0,b1,b2,by rw [aae]; rfl,by simp [hl],fun z hz'=>?_,hb5.mono (by nofun),rfl⟩⟩
  rcases List.mem_append.mp hz' with h | h
  ·exact hz z h
  ·have:z=⟨#[d]⟩:=(by exists h)
   rw [this]
   exact ⟨rfl,fun y hy=>by
    have:y=d:=(by exists hy)
    rw [this]; exact uq d hdm⟩
 ·rintro as ρ ⟨zs,x,b0,b1,b2,rfl,hl,hz,hb4,rfl⟩
  rw [df] at hl hb4
  have hlz:(zs.map fun z=>z.cps.toList).flatten.length=zs.length:=by
   rw [List.length_flatten,aaZ]
   have:zs.map ((fun l:List Nat=>l.length) ∘ fun z:Str=>z.cps.toList)=zs.map fun _=>1:=abl fun z hz'=>(hz z hz').1
   rw [show (List.map (List.length ∘ fun z:Str=>z.cps.toList) zs)=zs.map fun _=>1 from this]
   exact gW zs
  have hls:(zs.map (·.length)).sum=zs.length:=by
   have:zs.map (·.length)=zs.map fun _=>1:=abl fun z hz'=>by rw [dt]; exact (hz z hz').1
   rw [this]
   exact gW zs
  have hg:(Builtin.Str.glued (Str.ofString "") zs).cps.toList=(zs.map fun z=>z.cps.toList).flatten:=lx zs
  have hgl:(Builtin.Str.glued (Str.ofString "") zs).length=zs.length:=by rw [mU hg,hlz]
  ext
  refine cA ⟨by rw [hls]; show zs.length+zs.length * 0<=_; nofun,?_⟩
  ext
  refine ⟨by rw [cl,hgl]; nofun,?_⟩
  ext
  refine q _ _ _ _ ⟨?_,?_,?_⟩ (hb4.mono (by nofun))
  ·rw [cM,List.length_append,cs,aat]; nofun
  ·rw [cM,List.length_append,cs,aat,← dt,hgl]; nofun
  ·rw [cM,cs,hg]
   refine g6 cl1 fun y hy=>?_
   obtain ⟨l,hl',hy'⟩:=List.mem_flatten.mp hy
   obtain ⟨z,hz',rfl⟩:=List.mem_map.mp hl'
   exact (hz z hz').2 y hy'
theorem DF {last:Str}{P:OV->List OV->Prop}(hb:BagB b1 b2 n)(hn:n < 2 ^ 39)(hl:v7 last.cps.toList)(h8:last.cps.toList.length<=8)(h:∀ z b0' b1' b2',a7 z->BagB b1' b2' (n+12)->P (.fz (.str z)) [bC b0' b1' b2',.fz (.str last)]) :
  b5 [bC b0 b1 b2,.fz (.str last)] P:=by
 unfold b5
 exact ⟨b0,b1,b2,n,last,rfl,hb,hn,hl,h8,h⟩
@[irreducible] def bF:Ct:=fun os P=>∃ (b0 b1 b2 n:Int) (k:Nat),os=[bC b0 b1 b2,.fz (.int k)]/\BagB b1 b2 n/\n < 2 ^ 38/\k<=100/\∀ (zs:List Str) (b0' b1' b2':Int),zs.Nodup->(1<=k->1<=zs.length)->zs.length<=k->(∀ z ∈ zs,a7 z)->BagB b1' b2' (n+12 * k)->P (.fl (zs.map .str)) [bC b0' b1' b2',.fz (.int k)]
abbrev ut:Stmt:=top 40
abbrev DG:FS :=
  (ap (gO 2 Gm)
  (ap (bB (fC (.str "")) (ad 3))
  (ap (wY (dS (aa (ac 1) ag)) (ad 4)
   (ap (bB (ak b5 (aa (ac 0) (aa (fFz (ac 3)) ag))) (ad 3))
  (Gx 2 (fC (.bl true)) (ac 3))))
  (bp (fCB GR (aa (ac 2) ag))))))
theorem DH:Lh bF 2 [0]:=by delta bF
theorem DI:Hh bF DG [0] 5:=by
 intro os P h
 unfold bF at h
 obtain ⟨b0,b1,b2,n,k,rfl,hb,hn,hk,q⟩:=h
 have sz:=bH
 have hn0:0<=n:=Int.le_trans hb.2.2.1 hb.2.2.2
 ext
 refine ⟨⟨by nofun,by nofun⟩,?_⟩
 refine cU (fun i ρ=>∃ (zs:List Str) (ds:List D) (name:Str) (x:Option OV) (b0 b1 b2:Int),zs.Nodup/\(∀ z ∈ zs,a7 z)/\zs.length<=i/\(1<=i->1<=zs.length)/\v7 name.cps.toList/\name.cps.toList.length<=8/\BagB b1 b2 (n+12 * i) /\
   ρ=[some (bC b0 b1 b2),some (.fz (.int k)),some (.fd (zs.map Sum.inr) ds),some (.fz (.str name)),x])
  ⟨[],[], "", none,b0,b1,b2,aaP,by simp,by simp,by nofun,(by intro c hc; cases hc),aam _,hb.mono (by nofun),rfl⟩ ?_ ?_
 ·rintro i d ρ R hd ⟨zs,ds,name,x,b0,b1,b2,hnd,hnm,hzl,hz1,hlow,hl8,hb1,rfl⟩ kk
  obtain ⟨hi,rfl⟩:=bW hd
  ext
  refine DF hb1 (by nofun) hlow hl8 fun z b0 b1 b2 hz hb2=>?_
  ext
  refine ⟨rfl,?_⟩
  ext
  refine ⟨by rw [List.length_map]; nofun,?_⟩
  obtain ⟨l1,l2,l3⟩:=ju zs z
  refine kk _ ⟨KS.dedup1 zs z,(AC (zs.map Sum.inr) ds (.inr z) (.bl true)).2,z,some (.fz (.int (0+i))),b0,b1,b2,gC hnd,fun y hy=>?_,by nofun,fun _=>l3,hz.2.2,hz.2.1,hb2.mono (by nofun),?_⟩
  ·rcases jt.mp hy with h | h
   ·exact hnm y h
   ·rw [h]; exact hz
  ·rw [← tN (ds:=ds) (d:=.bl true)]; rfl
 ·rintro ρ ⟨zs,ds,name,x,b0,b1,b2,hnd,hnm,hzl,hz1,hlow,hl8,hb1,rfl⟩
  rw [df] at hzl hz1 hb1
  ext
  have e:(zs.map Sum.inr).map Ik=zs.map D.str:=tO zs
  have hq:=q zs b0 b1 b2 hnd (fun h=>hz1 (by nofun)) (by nofun) hnm (hb1.mono (by nofun))
  rw [← e] at hq
  exact hq
theorem xY {k:Nat}{P:OV->List OV->Prop}(hb:BagB b1 b2 n)(hn:n < 2 ^ 38)(hk:k<=100)(h:∀ (zs:List Str) (b0' b1' b2':Int),zs.Nodup->(1<=k->1<=zs.length)->zs.length<=k->(∀ z ∈ zs,a7 z)->BagB b1' b2' (n+12 * k)->P (.fl (zs.map .str)) [bC b0' b1' b2',.fz (.int k)]) :
  bF [bC b0 b1 b2,.fz (.int k)] P:=by
 unfold bF
 exact ⟨b0,b1,b2,n,k,rfl,hb,hn,hk,h⟩
end
def cP (z:Str):Prop:=1<=z.cps.toList.length/\z.cps.toList.length<=40/\z.cps.toList.Pairwise (· < ·)/\∀ c ∈ z.cps.toList,32<=c/\c<=126/\c≠37
abbrev eM:Str := " !\"#$&'()*+,-./0123456789:;<=>?\x40ABCDEFGHIJKLMNOPQRSTUVWXYZ[\\]^_`abcdefghijklmnopqrstuvwxyz{|}~"
theorem uu:eM.cps.toList.length=94:=by decide +kernel
theorem xZ:∀ c ∈ eM.cps.toList,32<=c/\c<=126/\c≠37:=by
 have h:(eM.cps.toList.all fun c=>decide (32<=c/\c<=126/\c≠37))=true:=by decide +kernel
 intro c hc
 exact of_decide_eq_true (List.all_eq_true.mp h c hc)
theorem ya (h:z.cps.toList.length=1):∃ c,z=⟨#[c]⟩:=by
 obtain ⟨c,hc⟩:=List.length_eq_one_iff.mp h
 exact ⟨c,eX (by rw [hc])⟩
theorem oN:∀ {ss:List Str},(∀ z ∈ ss,z.cps.toList.length=1)->∃ cs:List Nat,ss=cs.map fun c=>(⟨#[c]⟩:Str)
 | [],_=>⟨[],rfl⟩
 | s::ss,h=>by
  obtain ⟨c,rfl⟩:=ya (h s (aad ..))
  obtain ⟨cs,rfl⟩:=oN (ss:=ss) fun z hz=>h z (aag _ hz)
  exact ⟨c::cs,rfl⟩
theorem jM:∀ cs:List Nat,((cs.map fun c=>(⟨#[c]⟩:Str)).map fun z=>z.cps.toList).flatten=cs
 | []=>rfl
 | c::cs=>by simp only [List.map_cons,List.flatten_cons,jM cs]; rfl
theorem qH {cs:List Nat}(h:(cs.map fun c=>(⟨#[c]⟩:Str)).Pairwise fun a b=>da a b=true)(hn:(cs.map fun c=>(⟨#[c]⟩:Str)).Nodup):cs.Pairwise (· < ·):=by
 rw [List.Nodup] at hn
 have h2:=h.and hn
 rw [List.pairwise_map] at h2
 refine h2.imp fun {a b} hab=>?_
 have h3:¬ ([b] < [a]):=dU.mp hab.1
 have h4:¬ (b < a):=fun z=>h3 (List.Lex.rel z)
 have h5:a≠b:=fun z=>hab.2 (by rw [z])
 nofun
@[irreducible] def bO:Ct:=fun os P=>∃ (b0 b1 b2 n:Int),os=[bC b0 b1 b2]/\BagB b1 b2 n/\n < 2 ^ 38/\∀ (z:Str) (b0' b1' b2':Int),cP z->BagB b1' b2' (n+42)->P (.fz (.str z)) [bC b0' b1' b2']
section
variable {P:Program}  {K:Frag}  
abbrev uv:Stmt:=top 41
abbrev DJ:FS :=
  (ap (bB (fC (.str " !\"#$&'()*+,-./0123456789:;<=>?\x40ABCDEFGHIJKLMNOPQRSTUVWXYZ[\\]^_`abcdefghijklmnopqrstuvwxyz{|}~")) (ad 1))
  (ap (bB (fOp ja (fC (.int 1)) (ak ae (aa (ac 0) (aa (fFz (fOp aIx (fq (aa (fC (.int 6)) (aa (fC (.int 40)) ag))) (fOp (aIC rm fun i j=>.int (i / j)) (ak ae (aa (ac 0) (aa (fC (.int 8)) ag))) (fC (.int 7))))) ag)))) (ad 2))
  (bp (gP (fC (.str "")) (kg (cV [1,0] 1 (dS (aa (ac 2) ag)) (ad 0) mG (fOp aIx (ac 2) (ak ae (aa (ac 1) (aa (fC (.int 94)) ag))))))))))
theorem DK:Lh bO 1 [0]:=by delta bO
theorem yb {b:Int}{i:Int}(h0:0<=i)(h:i < 2)(q:∀ m,(m=a∨m=b)->Q (.int m)):match atI [D.int a,D.int b] i with
  | some d=>Q d
  | none=>False:=iL h0 h fun d hd=>by
 simp only [List.mem_cons,List.not_mem_nil,or_false] at hd
 rcases hd with rfl | rfl
 ·exact q a (.inl rfl)
 ·exact q b (.inr rfl)
theorem DL:Hh bO DJ [0] 3:=by
 intro os P h
 unfold bO at h
 obtain ⟨b0,b1,b2,n,rfl,hb,hn,q⟩:=h
 have sz:=bH
 have hn0:0<=n:=Int.le_trans hb.2.2.1 hb.2.2.2
 ext
 refine ⟨lez 2,?_⟩
 ext
 refine aq n hb (by nofun) (by decide) (by decide) fun r b0 b1 b2 r0 r1 hb1=>?_
 ext
 refine ⟨⟨by decide,by decide⟩,?_⟩
 ext
 refine yb (by nofun) (by nofun) fun m hm=>?_
 ext
 refine aq (n+1) hb1 (by nofun) (by nofun) (by nofun) fun r3 b0 b1 b2 r30 r31 hb3=>?_
 ext
 refine ⟨⟨by nofun,by nofun⟩,?_⟩
 ext
 refine bM (fun i as ρ=>∃ (zs:List Str) (x:Option OV) (b0 b1 b2:Int),as=zs.map .str/\zs.length=i/\(∀ z ∈ zs,z.cps.toList.length=1/\∀ c ∈ z.cps.toList,32<=c/\c<=126/\c≠37)/\BagB b1 b2 (n+2+i) /\
   ρ=[x,some (bC b0 b1 b2),some (.fz (.str eM)),some (.fz (.int (1+r3)))])
  ⟨[],none,b0,b1,b2,rfl,rfl,(fun _ h=>by cases h),hb3.mono (by nofun),rfl⟩ ?_ ?_
 ·rintro i d as ρ R hd ⟨zs,x,b0,b1,b2,rfl,hl,hz,hb4,rfl⟩ k
  obtain ⟨hi,rfl⟩:=bW hd
  ext
  refine dM ?_
  ext
  refine aq _ hb4 (by nofun) (by decide) (by decide) fun r5 b0 b1 b2 r50 r51 hb5=>?_
  ext
  refine ⟨by decide +kernel,?_⟩
  refine fF r50 (by rw [show eM.cps.toList.length=94 from uu]; exact r51) fun d hdm=>?_
  ext
  refine ⟨by rw [List.length_map]; nofun,k _ _ ⟨zs++[⟨#[d]⟩],some (.fz (.int (0+i))),b0,b1,b2,by rw [aae]; rfl,by simp [hl],fun z hz'=>?_,hb5.mono (by nofun),rfl⟩⟩
  rcases List.mem_append.mp hz' with h | h
  ·exact hz z h
  ·have:z=⟨#[d]⟩:=(by exists h)
   rw [this]
   exact ⟨rfl,fun y hy=>by
    have:y=d:=(by exists hy)
    rw [this]; exact xZ d hdm⟩
 ·rintro as ρ ⟨zs,x,b0,b1,b2,rfl,hl,hz,hb4,rfl⟩
  rw [df] at hl hb4
  have hsub:(kf zs).length<=zs.length:=xw zs
  ext
  refine cA ⟨⟨by show _ < 4096; nofun,by nofun⟩,?_⟩
  have hmz:∀ z ∈ kf zs,z.cps.toList.length=1/\∀ c ∈ z.cps.toList,32<=c/\c<=126/\c≠37:=fun z hz'=>hz z (gZ.mp hz')
  have hpos:1<=(kf zs).length:=by
   have h0:1<=zs.length:=by nofun
   cases zs with
   | nil=>simp at h0
   | cons z zs=>exact List.length_pos_of_mem (gZ.mpr (aad ..))
  have hs1:=m7 zs
  have hs2:=gp zs
  generalize kf zs=ss at hsub hmz hpos hs1 hs2 ⊢
  obtain ⟨cs,rfl⟩:=oN fun z hz'=>(hmz z hz').1
  have hpw:=qH hs1 hs2
  rw [List.length_map] at hsub hpos
  ext
  have hls:((cs.map fun c=>(⟨#[c]⟩:Str)).map (·.length)).sum=cs.length:=by
   rw [aaZ]
   exact gW cs
  refine cA ⟨by rw [hls,List.length_map]; show cs.length+cs.length * 0<=_; nofun,?_⟩
  have hg:(Builtin.Str.glued (Str.ofString "") (cs.map fun c=>(⟨#[c]⟩:Str))).cps.toList=cs:=(lx _).trans (jM cs)
  ext
  refine q _ _ _ _ ⟨by rw [hg]; nofun,by rw [hg]; nofun,by rw [hg]; exact hpw,fun c hc=>?_⟩ (hb4.mono (by nofun))
  rw [hg] at hc
  exact (hmz ⟨#[c]⟩ (List.mem_map.mpr ⟨c,hc,rfl⟩)).2 c (by simp)
theorem yc {P:OV->List OV->Prop}(hb:BagB b1 b2 n)(hn:n < 2 ^ 38)(h:∀ (z:Str) (b0' b1' b2':Int),cP z->BagB b1' b2' (n+42)->P (.fz (.str z)) [bC b0' b1' b2']) :
  bO [bC b0 b1 b2] P:=by
 unfold bO
 exact ⟨b0,b1,b2,n,rfl,hb,hn,h⟩
def uw (zs:List Str)(word:Str)(rest:List Str):Prop :=
 ((word = "none" ∨ word = "any")/\rest=[])∨(word = "signs" /\ ∃ z,rest=[z]/\cP z) ∨
 ((word = "again" ∨ word = "ahead" ∨ word = "not")/\rest.length=1/\∀ z ∈ rest,z ∈ zs)∨((word = "row" ∨ word = "first")/\1<=rest.length/\rest.length<=8/\∀ z ∈ rest,z ∈ zs)
abbrev ci (word:Str)(rest:List Str):D:=.tup (.str word::rest.map .str)
@[irreducible] def b6:Ct:=fun os P=>∃ (b0 b1 b2 n:Int) (zs:List Str),os=[bC b0 b1 b2,.fz (.lst (zs.map .str))]/\BagB b1 b2 n/\n < 2 ^ 37/\1<=zs.length/\zs.length<=1000 /\
 ∀ (word:Str) (rest:List Str) (b0' b1' b2':Int),uw zs word rest->BagB b1' b2' (n+50)->P (.fz (ci word rest)) [bC b0' b1' b2',.fz (.lst (zs.map .str))]
abbrev AS:Stmt:=top 42
abbrev Hu:FS :=
  (ap (bB (fq (aa (fC (.str "none")) (aa (fC (.str "any")) (aa (fC (.str "signs")) (aa (fC (.str "row")) (aa (fC (.str "row")) (aa (fC (.str "first")) (aa (fC (.str "first")) (aa (fC (.str "again")) (aa (fC (.str "ahead")) (aa (fC (.str "not")) ag))))))))))) (ad 2))
  (ap (bB (fOp aIx (ac 2) (ak ae (aa (ac 0) (aa (fC (.int 10)) ag)))) (ad 3))
  (ap (fIf (fOr (ax (fOp aEq (ac 3) (fC (.str "none")))) (ax (fOp aEq (ac 3) (fC (.str "any")))))
   (bp (qi (aa (ac 3) ag)))
   az)
  (ap (fIf (ax (fOp aEq (ac 3) (fC (.str "signs"))))
   (bp (qi (aa (ac 3) (aa (ak bO (aa (ac 0) ag)) ag))))
   az)
  (ap (bB (fC (.int 1)) (ad 4))
  (ap (fIf (fOr (ax (fOp aEq (ac 3) (fC (.str "row")))) (ax (fOp aEq (ac 3) (fC (.str "first")))))
   (bB (fOp ja (fC (.int 1)) (ak ae (aa (ac 0) (aa (fFz (fOp aIx (fq (aa (fC (.int 3)) (aa (fC (.int 8)) ag))) (ak ae (aa (ac 0) (aa (fC (.int 2)) ag))))) ag)))) (ad 4))
   az)
  (bp (fCB iH (aa (fOp ja (fq (aa (ac 3) ag)) (cV [1,0] 1 (dS (aa (ac 4) ag)) (ad 0) mG (fOp aIx (ac 2) (ak ae (aa (ac 1) (aa (fFz (fCB dY (aa (ac 2) ag))) ag)))))) ag)))))))))
theorem Hv:Lh b6 2 [0]:=by delta b6
abbrev md:List Str:=["none", "any", "signs", "row", "row", "first", "first", "again", "ahead", "not"]
theorem Hw:Hh b6 Hu [0] 5:=by
  intro os P h
  unfold b6 at h
  obtain ⟨B0,B1,B2,n,zs,rfl,hb,hn,hz1,hz,ret⟩:=h
  have sz:=bH
  have hn0:0<=n:=Int.le_trans hb.2.2.1 hb.2.2.2
  ext
  refine ⟨lez 10,?_⟩
  ext
  refine aq n hb (by nofun) (by decide) (by decide) fun r b0 b1 b2 r0 r1 hb1=>?_
  ext
  refine iL (xs:=md.map D.str) r0 (by show r < 10; exact r1) fun c hcm=>?_
  obtain ⟨word,hw,rfl⟩:=List.mem_map.mp hcm
  ext
  refine bo (word ≠ "none" /\ word ≠ "any") (fun hw1=>?_) (fun rest=>?_)
  rotate_left
  · ext
    refine ⟨aM,?_⟩
    ext
    refine ah (word = "none") bi (fun hw'=>?_) (fun ha=>?_)
    · ext
      refine dM ?_
      ext
      refine ⟨lez 1,?_⟩
      ext
      exact ret word [] _ _ _ (.inl ⟨.inl hw',rfl⟩) (hb1.mono (by nofun))
    · ext
      refine ⟨aM,?_⟩
      ext
      refine ah (word = "any") bi (fun hw'=>?_) (fun hb'=>?_)
      · ext
        refine ⟨lez 1,?_⟩
        ext
        exact ret word [] _ _ _ (.inl ⟨.inr hw',rfl⟩) (hb1.mono (by nofun))
      · exact rest ⟨ha,hb'⟩
  ext
  refine bo (word ≠ "signs") (fun hw2=>?_) (fun rest=>?_)
  rotate_left
  · ext
    refine ⟨aM,?_⟩
    ext
    refine ah (word = "signs") bi (fun hw'=>?_) (fun ha=>?_)
    · ext
      refine yc hb1 (by nofun) fun z b0 b1 b2 hz3 hb3=>?_
      ext
      refine ⟨lez 2,?_⟩
      ext
      exact ret word [z] _ _ _ (.inr (.inl ⟨hw',z,rfl,hz3⟩)) (hb3.mono (by nofun))
    · exact rest ha
  -- the last row,by how many
  have last:∀ (m:Nat) (b0 b1 b2:Int),1<=m->m<=8->(m=1∨word = "row" ∨ word = "first")->BagB b1 b2 (n+3) ->
      (bp (fCB iH (aa (fOp ja (fq (aa (ac 3) ag)) (qt 1 (dS (aa (ac 4) ag)) (ad 0) mG (fOp aIx (ac 2) (ak ae (aa (ac 1) (aa (fFz (fCB dY (aa (ac 2) ag))) ag)))))) ag)))
        { nx:=fin [0] [bC B0 B1 B2,.fz (.lst (zs.map .str))] P (.fz .non),rt:=fin [0] [bC B0 B1 B2,.fz (.lst (zs.map .str))] P }
        [some (bC b0 b1 b2),some (.fz (.lst (zs.map .str))),some (.fz (.lst (md.map .str))),some (.fz (.str word)),some (.fz (.int m))]:=by
    intro m b0 b1 b2 hm1 hm8 hmw hb3
    ext
    refine ⟨lez 1,?_⟩
    ext
    refine ⟨⟨by nofun,by nofun⟩,?_⟩
    ext
    refine bM (fun i as ρ=>∃ (ys:List Str) (x:Option OV) (b0 b1 b2:Int),as=ys.map .str/\ys.length=i/\(∀ y ∈ ys,y ∈ zs)/\BagB b1 b2 (n+3+i) /\
        ρ=[x,some (bC b0 b1 b2),some (.fz (.lst (zs.map .str))),some (.fz (.lst (md.map .str))),some (.fz (.str word)),some (.fz (.int m))])
      ⟨[],none,b0,b1,b2,rfl,rfl,(fun _ h=>by cases h),hb3.mono (by nofun),rfl⟩ ?_ ?_
    · rintro i d as ρ R hd ⟨ys,x,b0,b1,b2,rfl,hl,hy,hb5,rfl⟩ k
      obtain ⟨hi,rfl⟩:=bW hd
      ext
      refine dM ?_
      ext
      have el:((zs.map D.str).length:Int)=zs.length:=by rw [List.length_map]
      refine aq (m:=((zs.map D.str).length:Int)) _ hb5 (by nofun) (by nofun) (by nofun) fun r6 b0 b1 b2 r60 r61 hb6=>?_
      ext
      refine iL r60 r61 fun c hcm=>?_
      obtain ⟨y,hyz,rfl⟩:=List.mem_map.mp hcm
      ext
      refine ⟨by rw [List.length_map]; nofun,k _ _ ⟨ys++[y],some (.fz (.int (0+i))),b0,b1,b2,by rw [aae]; rfl,by simp [hl],fun y' hy'=>?_,hb6.mono (by nofun),rfl⟩⟩
      rcases List.mem_append.mp hy' with h | h
      · exact hy y' h
      · have:y'=y:=(by exists h)
        rw [this]; exact hyz
    · rintro as ρ ⟨ys,x,b0,b1,b2,rfl,hl,hy,hb5,rfl⟩
      rw [df] at hl hb5
      have hl':ys.length=m:=by nofun
      ext
      refine ⟨by rw [sz,List.length_map]; show 1+_<=_; nofun,?_⟩
      ext
      refine ret word ys _ _ _ ?_ (hb5.mono (by nofun))
      have hw9:word = "none" ∨ word = "any" ∨ word = "signs" ∨ word = "row" ∨ word = "first" ∨ word = "again" ∨ word = "ahead" ∨ word = "not" := by
        simp only [md,List.mem_cons,List.not_mem_nil,or_false] at hw
        rcases hw with h | h | h | h | h | h | h | h | h | h <;> simp [h]
      rcases hw9 with h | h | h | h | h | h | h | h
      · exact absurd h hw1.1
      · exact absurd h hw1.2
      · exact absurd h hw2
      · exact .inr (.inr (.inr ⟨.inl h,by nofun,by nofun,hy⟩))
      · exact .inr (.inr (.inr ⟨.inr h,by nofun,by nofun,hy⟩))
      all_goals
        have hm':m=1:=by
          rcases hmw with z | z | z
          · exact z
          · rw [h] at z; exact absurd z (by decide)
          · rw [h] at z; exact absurd z (by decide)
        refine .inr (.inr (.inl ⟨?_,by nofun,hy⟩))
        simp [h]
  ext
  refine bo True (fun _=>(cF _ _).mpr (last 1 _ _ _ (by nofun) (by nofun) (.inl rfl) (hb1.mono (by nofun)))) (fun rest=>?_)
  have more:(word = "row" ∨ word = "first")->(bB (fOp ja (fC (.int 1)) (ak ae (aa (ac 0) (aa (fFz (fOp aIx (fq (aa (fC (.int 3)) (aa (fC (.int 8)) ag))) (ak ae (aa (ac 0) (aa (fC (.int 2)) ag))))) ag)))) (ad 4))
        { nx:=fun ρ'=>jh ρ' ((bp (fCB iH (aa (fOp ja (fq (aa (ac 3) ag)) (qt 1 (dS (aa (ac 4) ag)) (ad 0) mG (fOp aIx (ac 2) (ak ae (aa (ac 1) (aa (fFz (fCB dY (aa (ac 2) ag))) ag)))))) ag)))
            { nx:=fin [0] [bC B0 B1 B2,.fz (.lst (zs.map .str))] P (.fz .non),rt:=fin [0] [bC B0 B1 B2,.fz (.lst (zs.map .str))] P }),rt:=fin [0] [bC B0 B1 B2,.fz (.lst (zs.map .str))] P }
        [some (bC b0 b1 b2),some (.fz (.lst (zs.map .str))),some (.fz (.lst (md.map .str))),some (.fz (.str word)),some (.fz (.int 1))]:=by
    intro hw'
    ext
    refine ⟨lez 2,?_⟩
    ext
    refine aq _ hb1 (by nofun) (by decide) (by decide) fun r4 b0 b1 b2 r40 r41 hb4=>?_
    ext
    refine yb r40 r41 fun m hm=>?_
    ext
    refine aq _ hb4 (by nofun) (by nofun) (by nofun) fun r5 b0 b1 b2 r50 r51 hb5=>?_
    obtain ⟨k,rfl⟩:=aaV r50
    have:=last (k+1) b0 b1 b2 (by nofun) (by nofun) (.inr hw') (hb5.mono (by nofun))
    rw [show ((k+1:Nat):Int)=1+(k:Int) by nofun] at this
    exact (cF _ _).mpr this
  ext
  refine ⟨aM,?_⟩
  ext
  refine ah (word = "row") bi (fun hw'=>?_) (fun ha=>?_)
  · ext
    exact dM (more (.inl hw'))
  · ext
    refine ⟨aM,?_⟩
    ext
    refine ah (word = "first") bi (fun hw'=>?_) (fun hb'=>?_)
    · exact more (.inr hw')
    · exact rest trivial
theorem ux {P:OV->List OV->Prop}(hb:BagB b1 b2 n)(hn:n < 2 ^ 37)(h1:1<=zs.length)(h2:zs.length<=1000)(h:∀ (word:Str) (rest:List Str) (b0' b1' b2':Int),uw zs word rest->BagB b1' b2' (n+50)->P (.fz (ci word rest)) [bC b0' b1' b2',.fz (.lst (zs.map .str))]) :
  b6 [bC b0 b1 b2,.fz (.lst (zs.map .str))] P:=by
 unfold b6
 exact ⟨b0,b1,b2,n,zs,rfl,hb,hn,h1,h2,h⟩
end
abbrev Rw:=Str×Str×List Str
variable{rows:List Rw}{r:Rw}
abbrev cu (r:Rw):D:=.tup [.str r.1,ci r.2.1 r.2.2]
def yd (zs:List Str)(word:Str)(rest:List Str):Prop:=(∀ z ∈ zs,a7 z)/\uw zs word rest
def aT (word:Str)(rest:List Str):Prop:=∃ zs:List Str,yd zs word rest
theorem qI {ws:List Str}{rest:List Str}(h:uw ws word rest)(s:∀ z ∈ ws,z ∈ zs):uw zs word rest:=by
 rcases h with h | h | ⟨h1,h2,h3⟩ | ⟨h1,h2,h3,h4⟩
 ·exact .inl h
 ·exact .inr (.inl h)
 ·exact .inr (.inr (.inl ⟨h1,h2,fun z hz=>s z (h3 z hz)⟩))
 ·exact .inr (.inr (.inr ⟨h1,h2,h3,fun z hz=>s z (h4 z hz)⟩))
structure BookL (rows:List Rw):Prop where
 nd:(rows.map (·.1)).Nodup
 ok:∀ r ∈ rows,a7 r.1/\aT r.2.1 r.2.2
 few:rows.length<=30
 pool:∃ zs:List Str,zs.length<=45/\∀ r ∈ rows,yd zs r.2.1 r.2.2
theorem BookL.perm {rows':List Rw}(h:BookL rows)(p:rows'.Perm rows):BookL rows':=⟨((p.map (·.1)).nodup_iff).mpr h.nd,fun r hr=>h.ok r (p.mem_iff.mp hr),by rw [p.length_eq]; exact h.few,by
 obtain ⟨zs,hl,hp⟩:=h.pool
 exact ⟨zs,hl,fun r hr=>hp r (p.mem_iff.mp hr)⟩⟩
@[irreducible] def b7:Ct:=fun os P=>∃ (b0 b1 b2 n:Int),os=[bC b0 b1 b2]/\BagB b1 b2 n/\n < 2 ^ 36/\∀ (rows:List Rw) (b0' b1' b2':Int),BookL rows->BagB b1' b2' (n+5000)->P (.fl (rows.map cu)) [bC b0' b1' b2']
section
variable {P:Program}  {K:Frag}  
theorem cD (f:α->β)(xs:List α)(lo hi:Option Int):cg (xs.map f) lo hi=(cg xs lo hi).map f:=by
 unfold cg
 rw [List.length_map,List.map_take,List.map_drop]
abbrev AT:Stmt:=top 43
abbrev Hx:FS :=
  (ap (bB (ak ae (aa (ac 0) (aa (fC (.int 2)) ag))) (ad 1))
  (ap (bB (fOp aIx (fq (aa (fC (.int 9)) (aa (fC (.int 31)) ag))) (fOp (aIC rm fun i j=>.int (i / j)) (ak ae (aa (ac 0) (aa (fC (.int 8)) ag))) (fC (.int 7)))) (ad 2))
  (ap (bB (ak ae (aa (ac 0) (aa (fFz (ac 2)) ag))) (ad 3))
  (ap (bB (ak bF (aa (ac 0) (aa (fFz (fOp ja (ac 3) (fOp aIx (fq (aa (fC (.int 2)) (aa (fC (.int 10)) ag))) (fOp (aIC rm fun i j=>.int (i / j)) (ak ae (aa (ac 0) (aa (fC (.int 4)) ag))) (fC (.int 3)))))) ag))) (ad 4))
  (ap (bB (fCB Jk (aa (ac 3) (aa (fCB dY (aa (ac 4) ag)) ag))) (ad 3))
  (ap (gO 5 (fq ag))
  (ap (wY (dS (aa (ac 3) ag)) (ad 6)
   (sW (EO 5 (qi (aa (fOp aIx (ac 4) (ac 6)) (aa (ak b6 (aa (ac 0) (aa (fFz (Ke (fSl aSl (ac 4) (bh (fOp (aIC CMul fun i j=>.int (i * j)) (fOp ja (ac 6) (fC (.int 1))) (ac 1))) au) (ac 4))) ag))) ag))))))
  (bp (fCB lX (aa (ac 5) ag))))))))))
theorem Hy:Lh b7 1 [0]:=by delta b7
theorem Hz:Hh b7 Hx [0] 7:=by
 intro os P h
 unfold b7 at h
 obtain ⟨B0,B1,B2,n,rfl,hb,hn,q⟩:=h
 have sz:=bH
 have hn0:0<=n:=Int.le_trans hb.2.2.1 hb.2.2.2
 ext
 refine aq n hb (by nofun) (by decide) (by decide) fun later b0 b1 b2 la0 la1 hb1=>?_
 ext
 refine ⟨lez 2,?_⟩
 ext
 refine aq _ hb1 (by nofun) (by decide) (by decide) fun r b0 b1 b2 r0 r1 hb2=>?_
 ext
 refine ⟨⟨by decide,by decide⟩,?_⟩
 ext
 refine yb (by nofun) (by nofun) fun most hmost=>?_
 ext
 refine aq _ hb2 (by nofun) (by nofun) (by nofun) fun many b0 b1 b2 m0 m1 hb3=>?_
 ext
 refine ⟨lez 2,?_⟩
 ext
 refine aq _ hb3 (by nofun) (by decide) (by decide) fun r b0 b1 b2 r0 r1 hb4=>?_
 ext
 refine ⟨⟨by decide,by decide⟩,?_⟩
 ext
 refine yb (by nofun) (by nofun) fun ext hext=>?_
 obtain ⟨nn,hnn⟩:=aaV (show 0<=many+ext by nofun)
 have e0:many+ext=(nn:Int):=hnn
 ext
 show bF [bC b0 b1 b2,.fz (.int (many+ext))] _
 rw [e0]
 refine xY (k:=nn) hb4 (by nofun) (by nofun) fun zs b0 b1 b2 hnd hz1 hzl hnm hb5=>?_
 have hz1':=hz1 (by nofun)
 ext
 refine ⟨aam _,?_⟩
 have em:∃ mm:Nat,(if ((zs.map D.str).length:Int) < many then ((zs.map D.str).length:Int) else many)=(mm:Int)/\mm<=zs.length/\mm<=30:=by
  rw [List.length_map]
  split
  ·exact ⟨zs.length,rfl,by nofun,by nofun⟩
  ·exact ⟨many.toNat,by nofun,by nofun,by nofun⟩
 obtain ⟨mm,hmm,hmz,hm30⟩:=em
 ext
 rw [hmm]
 refine ⟨⟨by nofun,by nofun⟩,?_⟩
 ext
 refine cU (fun i ρ=>∃ (rows:List Rw) (x:Option OV) (b0 b1 b2:Int),rows.map (·.1)=zs.take i/\(∀ r ∈ rows,a7 r.1/\yd zs r.2.1 r.2.2)/\BagB b1 b2 (n+5+12 * 40+50 * i) /\
   ρ=[some (bC b0 b1 b2),some (.fz (.int later)),some (.fz (.int most)),some (.fz (.int (mm:Int))),some (.fz (.lst (zs.map .str))),some (.fl (rows.map cu)),x])
  ⟨[],none,b0,b1,b2,by simp,(fun _ h=>by cases h),hb5.mono (by nofun),rfl⟩ ?_ ?_
 ·rintro i d ρ R hd ⟨rows,x,b0,b1,b2,hrz,hrok,hb6,rfl⟩ kk
  obtain ⟨hi,rfl⟩:=bW hd
  have hrl:rows.length=i:=by have:=congrArg List.length hrz; rw [List.length_map,aau] at this; nofun
  have hiz:i < zs.length:=by nofun
  have ei:atI (zs.map D.str) (0+(i:Int))=some (.str zs[i]):=by rw [Int.zero_add]; exact di (by simp [hiz])
  have item:∀ {Q:D->Prop},Q (.str zs[i])->match atI (zs.map D.str) (0+(i:Int)) with
    | some d=>Q d
    | none=>False:=fun {Q} q=>by rw [ei]; exact q
  have more:∀ (word:Str) (rest:List Str) (b0 b1 b2:Int),yd zs word rest->BagB b1 b2 (n+5+12 * 40+50 * i+50)->((rows.map cu).length < sizeLine/\R [some (bC b0 b1 b2),some (.fz (.int later)),some (.fz (.int most)),some (.fz (.int (mm:Int))),some (.fz (.lst (zs.map .str))),some (.fl (rows.map cu++[.tup [.str zs[i],ci word rest]])),some (.fz (.int (0+(i:Int))))]):=by
   intro word rest b0 b1 b2 hf hb7
   refine ⟨by rw [List.length_map]; nofun,kk _ ⟨rows++[(zs[i],word,rest)],some (.fz (.int (0+(i:Int)))),b0,b1,b2,?_,fun r hr=>?_,hb7.mono (by nofun),by rw [aae]; rfl⟩⟩
   ·rw [aae,hrz,List.take_succ,List.getElem?_eq_getElem hiz]; rfl
   ·rcases List.mem_append.mp hr with h | h
    ·exact hrok r h
    ·have:r=(zs[i],word,rest):=(by exists h)
     rw [this]; exact ⟨hnm _ (aaS hiz),hf⟩
  ext
  refine ⟨rfl,?_⟩
  ext
  refine item ?_
  ext
  refine ⟨.inl ⟨by nofun,by nofun⟩,?_⟩
  ext
  show br (!(cg (zs.map D.str) (some ((0+(i:Int)+1) * later)) none).isEmpty) _ _
  rw [cD]
  have hsub:∀ z ∈ cg zs (some ((0+(i:Int)+1) * later)) none,z ∈ zs:=fun z hz=>nS hz
  have hle:=ik zs (some ((0+(i:Int)+1) * later)) none
  generalize cg zs (some ((0+(i:Int)+1) * later)) none=ws at hsub hle
  refine ah (1<=ws.length) (by cases ws <;> simp) (fun h1=>?_) (fun _=>?_)
  ·ext
   refine ux hb6 (by nofun) h1 (by nofun) fun word rest b0 b1 b2 hf hb7=>?_
   ext
   refine ⟨lez 2,?_⟩
   ext
   exact more word rest b0 b1 b2 ⟨hnm,qI hf hsub⟩ hb7
  ·ext
   refine ux hb6 (by nofun) hz1' (by nofun) fun word rest b0 b1 b2 hf hb7=>?_
   ext
   refine ⟨lez 2,?_⟩
   ext
   exact more word rest b0 b1 b2 ⟨hnm,hf⟩ hb7
 ·rintro ρ ⟨rows,x,b0,b1,b2,hrz,hrok,hb6,rfl⟩
  rw [df] at hrz hb6
  have hrl:rows.length=mm:=by have:=congrArg List.length hrz; rw [List.length_map,aau] at this; nofun
  ext
  have hB:BookL rows:=⟨by rw [hrz]; exact hnd.sublist (List.take_sublist ..),fun r hr=>⟨(hrok r hr).1,zs,(hrok r hr).2⟩,by nofun,zs,by nofun,fun r hr=>(hrok r hr).2⟩
  refine tP (name:=fun r:Rw=>r.1) (rest:=fun r:Rw=>[ci r.2.1 r.2.2]) hB.nd (by nofun) fun rows' hp=>?_
  ext
  exact q rows' _ _ _ (hB.perm hp) (hb6.mono (by nofun))
theorem DM {P:OV->List OV->Prop}(hb:BagB b1 b2 n)(hn:n < 2 ^ 36)(h:∀ (rows:List Rw) (b0' b1' b2':Int),BookL rows->BagB b1' b2' (n+5000)->P (.fl (rows.map cu)) [bC b0' b1' b2']) :
  b7 [bC b0 b1 b2] P:=by
 unfold b7
 exact ⟨b0,b1,b2,n,rfl,hb,hn,h⟩
end
def eN:D->Prop
 | .str z=>a7 z
 | _=>False
def jN:D->Prop
 | .str z=>cP z
 | _=>False
def jj (word:Str)(rest:List D):Prop :=
 ((word = "none" ∨ word = "any")/\rest=[])∨(word = "signs" /\ ∃ x,rest=[x]/\jN x)∨((word = "again" ∨ word = "ahead" ∨ word = "not")/\∃ x,rest=[x]/\eN x) ∨
  ((word = "row" ∨ word = "first")/\1<=rest.length/\rest.length<=8/\∀ x ∈ rest,eN x)
def gQ (d:D):Prop:=∃ (word:Str) (rest:List D),d=.tup (.str word::rest)/\jj word rest
theorem ku {rest:List D}:gQ (.tup (.str word::rest))↔jj word rest:=by
 constructor
 ·rintro ⟨w,r,e,h⟩
  cases e
  exact h
 ·exact fun h=>⟨word,rest,rfl,h⟩
theorem nk  {rest:List D} (hw:word = "none" ∨ word = "any"):jj word rest↔rest=[]:=by
 constructor
 ·intro h
  rcases h with ⟨_,h⟩ | ⟨h,_⟩ | ⟨h,_⟩ | ⟨h,_⟩
  ·exact h
  all_goals (rcases hw with rfl | rfl <;> exact absurd h (by decide))
 ·exact fun h=>.inl ⟨hw,h⟩
theorem g7  {rest:List D} (hw:word = "signs"):jj word rest↔∃ x,rest=[x]/\jN x:=by
 constructor
 ·intro h
  rcases h with ⟨h,_⟩ | ⟨_,h⟩ | ⟨h,_⟩ | ⟨h,_⟩
  ·rw [hw] at h; exact absurd h (by decide)
  ·exact h
  all_goals (rw [hw] at h; exact absurd h (by decide))
 ·exact fun h=>.inr (.inl ⟨hw,h⟩)
theorem uy  {rest:List D} (hw:word = "again" ∨ word = "ahead" ∨ word = "not"):jj word rest↔∃ x,rest=[x]/\eN x:=by
 constructor
 ·intro h
  rcases h with ⟨h,_⟩ | ⟨h,_⟩ | ⟨_,h⟩ | ⟨h,_⟩
  ·rcases hw with rfl | rfl | rfl <;> exact absurd h (by decide)
  ·rcases hw with rfl | rfl | rfl <;> exact absurd h (by decide)
  ·exact h
  ·rcases hw with rfl | rfl | rfl <;> exact absurd h (by decide)
 ·exact fun h=>.inr (.inr (.inl ⟨hw,h⟩))
theorem kw  {rest:List D} (hw:word = "row" ∨ word = "first"):jj word rest↔1<=rest.length/\rest.length<=8/\∀ x ∈ rest,eN x:=by
 constructor
 ·intro h
  rcases h with ⟨h,_⟩ | ⟨h,_⟩ | ⟨h,_⟩ | ⟨_,h⟩
  ·rcases hw with rfl | rfl <;> exact absurd h (by decide)
  ·rcases hw with rfl | rfl <;> exact absurd h (by decide)
  ·rcases hw with rfl | rfl <;> exact absurd h (by decide)
  ·exact h
 ·exact fun h=>.inr (.inr (.inr ⟨hw,h⟩))
theorem uz  {rest:List D} (h1:¬ (word = "none" ∨ word = "any")) (h2:word ≠ "signs") (h3:¬ (word = "again" ∨ word = "ahead" ∨ word = "not")) (h4:¬ (word = "row" ∨ word = "first")):¬ jj word rest:=by
 rintro (⟨h,_⟩ | ⟨h,_⟩ | ⟨h,_⟩ | ⟨h,_⟩)
 ·exact h1 h
 ·exact h2 h
 ·exact h3 h
 ·exact h4 h
theorem nq {xs:List α}:((xs.length+1:Nat):Int)=2↔∃ x,xs=[x]:=by
 constructor
 ·intro h
  exact List.length_eq_one_iff.mp (by nofun)
 ·rintro ⟨x,rfl⟩
  rfl
mutual
def smD:D->Bool
 | .str z=>decide (z.length<=1000000)
 | .lst xs=>decide (xs.length<=1000000) && smDs xs
 | .tup xs=>decide (xs.length<=1000000) && smDs xs
 | .dct _ _=>false
 | .ty _=>false
 | _=>true
def smDs:List D->Bool
 | []=>true
 | d::ds=>smD d && smDs ds
end
theorem kx:∀ {ds:List D} {d:D},smDs ds=true->d ∈ ds->smD d=true
 | [],_,_,h=>nomatch h
 | c::ds,d,h,hd=>by
  simp only [smDs,Bool.and_eq_true] at h
  rcases List.mem_cons.mp hd with rfl | hd
  ·exact h.1
  ·exact kx h.2 hd
theorem iT:∀ {ds:List D},(∀ d ∈ ds,smD d=true)->smDs ds=true
 | [],_=>rfl
 | c::ds,h=>by
  simp only [smDs,Bool.and_eq_true]
  exact ⟨h c (aad ..),iT fun d hd=>h d (aag _ hd)⟩
theorem gR (h:smD d=true):AD (tyD d)=true:=by cases d <;> first | rfl | (simp [smD] at h)
theorem fW :isT (tyD d) "str" = true↔∃ z,d=.str z:=by
 cases d <;> first | exact ⟨fun _=>⟨_,rfl⟩,fun _=>rfl⟩ | exact ⟨fun h=>absurd h (by simp [tyD]; decide),fun ⟨_,h⟩=>nomatch h⟩
theorem uA :isT (tyD d) "tuple" = true↔∃ xs,d=.tup xs:=by
 cases d <;> first | exact ⟨fun _=>⟨_,rfl⟩,fun _=>rfl⟩ | exact ⟨fun h=>absurd h (by simp [tyD]; decide),fun ⟨_,h⟩=>nomatch h⟩
theorem eI (h:¬ p):(false=true↔p):=⟨fun z=>(Bool.false_ne_true z).elim,fun z=>(h z).elim⟩
theorem cW {ds:List α}{d:α}(e:ds[i]?=some d){p:α->Prop}:(∀ x ∈ ds.take (i+1),p x)↔(∀ x ∈ ds.take i,p x)/\p d:=by
 rw [List.take_succ,e]
 constructor
 ·exact fun h=>⟨fun x hx=>h x (aaT _ hx),h d (by simp)⟩
 ·rintro ⟨h1,h2⟩ x hx
  rcases List.mem_append.mp hx with h | h
  ·exact h1 x h
  ·have e:x=d:=(by exists h)
   rw [e]; exact h2
theorem eJ {bs:List Bool}:(bs++[b]).all id=true↔bs.all id=true/\b=true:=by
 rw [List.all_append,Bool.and_eq_true]
 simp
theorem iU (h:(dR z)[i]?=some d):∃ c,z.cps.toList[i]?=some c/\d=.str ⟨#[c]⟩:=by
 unfold dR at h
 rw [List.getElem?_map,Option.map_eq_some_iff] at h
 obtain ⟨r,h1,h2⟩:=h
 exact ⟨r,h1,h2.symm⟩
theorem eu (z:Str):(dR z).length=z.cps.toList.length:=by unfold dR; rw [List.length_map]
theorem jO (z:Str):z.length=z.cps.toList.length:=by rw [Array.length_toList]; rfl
abbrev ky:Str := "abcdefghijklmnopqrstuvwxyz"
theorem iV :c ∈ ky.cps.toList↔97<=c/\c<=122:=by
 have e:ky.cps.toList=List.range' 97 26:=by decide +kernel
 rw [e,List.mem_range'_1]
 nofun
@[irreducible] def bX:Ct:=fun os P=>∃ d:D,os=[.fz d]/\smD d=true/\∀ b:Bool,(b=true↔eN d)->P (.fz (.bl b)) os
@[irreducible] def ba:Ct:=fun os P=>∃ d:D,os=[.fz d]/\smD d=true/\∀ b:Bool,(b=true↔eN d)->P (.fz (.bl b)) os
@[irreducible] def cv:Ct:=fun os P=>∃ d:D,os=[.fz d]/\smD d=true/\∀ b:Bool,(b=true↔∃ z,d=.str z/\∀ c ∈ z.cps.toList,32<=c/\c<=126/\c≠37)->P (.fz (.bl b)) os
@[irreducible] def aB:Ct:=fun os P=>∃ d:D,os=[.fz d]/\smD d=true/\∀ b:Bool,(b=true↔jN d)->P (.fz (.bl b)) os
@[irreducible] def cw:Ct:=fun os P=>∃ c:Nat,os=[.fz (.str ⟨#[c]⟩)]/\∀ b:Bool,(b=true↔32<=c/\c<=126/\c≠37)->P (.fz (.bl b)) os
section
variable {P:Program}  {K:Frag}  
abbrev oO:Stmt:=top 22
abbrev ye:FS :=
  (ap (fIf (fQ (cj (fCB cIs (aa (ac 0) (aa (fC (.ty "str")) ag)))))
   (bp (fC (.bl false)))
   az)
  (ap (fIf (fQ (ax (jw (fI (fun i j=>decide (i<=j)) fun i j=>!aQ j i) (fI (fun i j=>decide (i<=j)) fun i j=>!aQ j i) (fC (.int 1)) (fCB dY (aa (ac 0) ag)) (fC (.int 8)))))
   (bp (fC (.bl false)))
   az)
  (bp (fCB xl (aa (cV [] 1 (qo (ac 0)) (ad 0) mG (fOp aIn (ac 0) (fC (.str "abcdefghijklmnopqrstuvwxyz")))) ag)))))
theorem yf:Lh bX 1 []:=by delta bX
theorem yg:Hh bX ye [] 1:=by
 intro os P h
 unfold bX at h
 obtain ⟨d,rfl,sm,q⟩:=h
 have sz:=bH
 ext
 refine bd ?_
 ext
 refine ⟨⟨gR sm,rfl⟩,?_⟩
 ext
 refine ah (¬ ∃ z,d=.str z) (by rw [aak,aas,Ne,fW]) (fun hn=>?_) (fun hn=>?_)
 ·ext
  refine q false (eI fun h=>?_)
  cases d <;> first | exact absurd ⟨_,rfl⟩ hn | exact (h:False).elim
 ·obtain ⟨z,rfl⟩:∃ z,d=.str z:=Classical.not_not.mp hn
  have hz:z.length<=1000000:=by simpa [smD] using sm
  have hle:=jO z
  ext
  refine bd ?_
  ext
  refine ⟨by nofun,?_⟩
  ext
  refine ah ((1:Int)<=z.length) decide_eq_true_iff (fun h1=>?_) (fun h1=>?_)
  ·ext
   refine ah (¬ (z.length:Int)<=8) (by rw [aak,decide_eq_false_iff_not]) (fun h2=>?_) (fun h2=>?_)
   ·ext
    refine q false (eI fun h=>?_)
    have h:a7 z:=h
    have:=h.2.1
    nofun
   ·ext
    refine bM (fun i as ρ=>∃ (bs:List Bool) (x:Option OV),as=bs.map .bl/\bs.length=i/\(bs.all id=true↔∀ c ∈ z.cps.toList.take i,97<=c/\c<=122)/\ρ=[x,some (.fz (.str z))]) ⟨[],none,rfl,rfl,by simp,rfl⟩ ?_ ?_
    ·rintro i d as ρ R hd ⟨bs,x,rfl,hl,hb,rfl⟩ k
     obtain ⟨c,hc,rfl⟩:=iU hd
     have hi:=(List.getElem?_eq_some_iff.mp hc).1
     ext
     refine dM ?_
     ext
     refine ⟨by rw [List.length_map]; nofun,k _ _ ⟨bs++[decide (c ∈ ky.cps.toList)],_,by rw [aae]; rfl,by rw [List.length_append,hl]; rfl,?_,rfl⟩⟩
     rw [eJ,cW hc,hb,decide_eq_true_iff,iV]
    ·rintro as ρ ⟨bs,x,rfl,hl,hb,rfl⟩
     rw [eu] at hl
     rw [eu,aah (aac _)] at hb
     ext
     refine jE ?_
     ext
     refine q _ (hb.trans ⟨fun h=>?_,fun h=>?_⟩)
     ·exact (show a7 z from ⟨by nofun,by nofun,h⟩)
     ·have h:a7 z:=h
      exact h.2.2
  ·ext
   refine dM ?_
   ext
   refine q false (eI fun h=>?_)
   have h:a7 z:=h
   have:=h.1
   nofun
theorem iW {P:OV->List OV->Prop}(sm:smD d=true)(h:∀ b:Bool,(b=true↔eN d)->P (.fz (.bl b)) [.fz d]):bX [.fz d] P:=by
 unfold bX
 exact ⟨d,rfl,sm,h⟩
theorem uB {a b:Nat}:aQ ⟨#[a]⟩ ⟨#[b]⟩=decide (a < b):=by
 unfold aQ
 rw [decide_eq_decide]
 simp [List.cons_lt_cons_iff]
theorem e_32:Str.ofString " " = ⟨#[32]⟩:=by decide +kernel
theorem JD:Str.ofString "~" = ⟨#[126]⟩:=by decide +kernel
theorem JE :(!aQ ⟨#[c]⟩ (Str.ofString " "))=true↔32<=c:=by
 rw [e_32,uB,aak,decide_eq_false_iff_not]; nofun
theorem HA :(!aQ (Str.ofString "~") ⟨#[c]⟩)=true↔c<=126:=by
 rw [JD,uB,aak,decide_eq_false_iff_not]; nofun
abbrev oP:Stmt:=top 23
abbrev yh:FS :=
  (bp (gN (jw (fI (fun i j=>decide (i<=j)) fun i j=>!aQ j i) (fI (fun i j=>decide (i<=j)) fun i j=>!aQ j i) (fC (.str " ")) (ac 0) (fC (.str "~"))) (fOp aNe (fCB Jl (aa (ac 0) ag)) (fC (.int 37)))))
theorem yi:Lh cw 1 []:=by delta cw
theorem yj:Hh cw yh [] 1:=by
 intro os P h
 unfold cw at h
 obtain ⟨c,rfl,q⟩:=h
 ext
 refine ah (32<=c) JE (fun h1=>?_) (fun h1=>?_)
 ·ext
  refine ah (c<=126) HA (fun h2=>?_) (fun h2=>?_)
  ·ext
   refine ⟨aA,?_⟩
   ext
   refine q _ ?_
   rw [aak,aas,Ne,aV]
   exact ⟨fun h=>⟨h1,h2,fun e=>h (by rw [e]; rfl)⟩,fun h e=>h.2.2 (Int.ofNat.inj e)⟩
  ·ext
   exact q false (eI fun h=>h2 h.2.1)
 ·ext
  refine gX ?_
  ext
  exact q false (eI fun h=>h1 h.1)
theorem uC {P:OV->List OV->Prop}(h:∀ b:Bool,(b=true↔32<=c/\c<=126/\c≠37)->P (.fz (.bl b)) [.fz (.str ⟨#[c]⟩)]):cw [.fz (.str ⟨#[c]⟩)] P:=by
 unfold cw
 exact ⟨c,rfl,h⟩
abbrev oQ:Stmt:=top 24
abbrev yk:FS :=
  (bp (gN (fCB cIs (aa (ac 0) (aa (fC (.ty "str")) ag))) (fCB xl (aa (cV [] 1 (qo (ac 0)) (ad 0) mG (ak cw (aa (fFz (ac 0)) ag))) ag))))
theorem ym:Lh cv 1 []:=by delta cv
theorem yn:Hh cv yk [] 1:=by
 intro os P h
 unfold cv at h
 obtain ⟨d,rfl,sm,q⟩:=h
 have sz:=bH
 ext
 refine ⟨⟨gR sm,rfl⟩,?_⟩
 ext
 refine ah (∃ z,d=.str z) fW (fun hn=>?_) (fun hn=>?_)
 ·obtain ⟨z,rfl⟩:=hn
  have hz:z.length<=1000000:=by simpa [smD] using sm
  have hle:=jO z
  ext
  refine bM (fun i as ρ=>∃ (bs:List Bool) (x:Option OV),as=bs.map .bl/\bs.length=i/\(bs.all id=true↔∀ c ∈ z.cps.toList.take i,32<=c/\c<=126/\c≠37)/\ρ=[x,some (.fz (.str z))]) ⟨[],none,rfl,rfl,by simp,rfl⟩ ?_ ?_
  ·rintro i d as ρ R hd ⟨bs,x,rfl,hl,hb,rfl⟩ k
   obtain ⟨c,hc,rfl⟩:=iU hd
   have hi:=(List.getElem?_eq_some_iff.mp hc).1
   ext
   refine dM ?_
   ext
   refine uC fun b hbc=>?_
   ext
   refine ⟨by rw [List.length_map]; nofun,k _ _ ⟨bs++[b],_,by rw [aae]; rfl,by rw [List.length_append,hl]; rfl,?_,rfl⟩⟩
   rw [eJ,cW hc,hb,hbc]
  ·rintro as ρ ⟨bs,x,rfl,hl,hb,rfl⟩
   rw [eu,aah (aac _)] at hb
   ext
   refine jE ?_
   ext
   refine q _ (hb.trans ⟨fun h=>⟨z,rfl,h⟩,fun ⟨z',e,h⟩=>?_⟩)
   cases e
   exact h
 ·ext
  exact q false (eI fun ⟨z,e,_⟩=>hn ⟨z,e⟩)
theorem uD {P:OV->List OV->Prop}(sm:smD d=true)(h:∀ b:Bool,(b=true↔∃ z,d=.str z/\∀ c ∈ z.cps.toList,32<=c/\c<=126/\c≠37)->P (.fz (.bl b)) [.fz d]):cv [.fz d] P:=by
 unfold cv
 exact ⟨d,rfl,sm,h⟩
theorem uE {l:List Nat}:l.Pairwise (· < ·)↔∀ k a b,l[k]?=some a->l[k+1]?=some b->a < b:=by
 constructor
 ·intro h k a b ha hb
  obtain ⟨h1,e1⟩:=List.getElem?_eq_some_iff.mp ha
  obtain ⟨h2,e2⟩:=List.getElem?_eq_some_iff.mp hb
  rw [← e1,← e2]
  exact List.pairwise_iff_getElem.mp h k (k+1) h1 h2 (aaR k)
 ·intro h
  have step:∀ (n i:Nat) (a b:Nat),l[i]?=some a->l[i+n+1]?=some b->a < b:=by
   intro n
   induction n with
   | zero=>intro i a b ha hb; exact h i a b ha hb
   | succ n ih =>
    intro i a b ha hb
    have hlt:i+n+1 < l.length:=by have:=(List.getElem?_eq_some_iff.mp hb).1; nofun
    have hm:l[i+n+1]?=some (l[i+n+1]'hlt):=List.getElem?_eq_getElem hlt
    exact Nat.lt_trans (ih i a _ ha hm) (h (i+n+1) _ b hm hb)
  refine List.pairwise_iff_getElem.mpr fun i j hi hj hij=>?_
  exact step (j - i - 1) i _ _ (List.getElem?_eq_getElem hi) (by rw [show i+(j - i - 1)+1=j by nofun]; exact List.getElem?_eq_getElem hj)
abbrev oR:Stmt:=top 25
abbrev yo:FS :=
  (ap (fIf (fQ (cj (ak cv (aa (fFz (ac 0)) ag))))
   (bp (fC (.bl false)))
   az)
  (ap (fIf (fQ (ax (jw (fI (fun i j=>decide (i<=j)) fun i j=>!aQ j i) (fI (fun i j=>decide (i<=j)) fun i j=>!aQ j i) (fC (.int 1)) (fCB dY (aa (ac 0) ag)) (fC (.int 40)))))
   (bp (fC (.bl false)))
   az)
  (bp (fCB xl (aa (cV [0] 1 (sU (aa (fC (.int 1)) (aa (fCB dY (aa (ac 0) ag)) ag))) (ad 0) mG (fOp (fI (fun i j=>decide (i < j)) aQ) (fOp aIx (ac 1) (fOp (aI0 fun i j=>.int (i - j)) (ac 0) (fC (.int 1)))) (fOp aIx (ac 1) (ac 0)))) ag)))))
theorem yq:Lh aB 1 []:=by delta aB
theorem yr:Hh aB yo [] 1:=by
 intro os P h
 unfold aB at h
 obtain ⟨d,rfl,sm,q⟩:=h
 have sz:=bH
 ext
 refine bd ?_
 ext
 refine uD sm fun b hb=>?_
 ext
 refine ah (b=false) (by cases b <;> simp) (fun e=>?_) (fun e=>?_)
 ·ext
  refine q false (eI fun h=>?_)
  have:b=true:=hb.mpr (by
   cases d <;> first | exact (h:False).elim | exact ⟨_,rfl,(show cP _ from h).2.2.2⟩)
  rw [e] at this
  cases this
 ·obtain ⟨z,rfl,hok⟩:=hb.mp (by cases b <;> simp_all)
  have hz:z.length<=1000000:=by simpa [smD] using sm
  have hle:=jO z
  ext
  refine bd ?_
  ext
  refine ⟨by nofun,?_⟩
  ext
  refine ah ((1:Int)<=z.length) decide_eq_true_iff (fun h1=>?_) (fun h1=>?_)
  ·ext
   refine ah (¬ (z.length:Int)<=40) (by rw [aak,decide_eq_false_iff_not]) (fun h2=>?_) (fun h2=>?_)
   ·ext
    refine q false (eI fun h=>?_)
    have h:cP z:=h
    have:=h.2.1
    nofun
   ·ext
    refine ⟨by nofun,?_⟩
    ext
    refine ⟨⟨by nofun,by nofun,by nofun,by nofun⟩,?_⟩
    ext
    refine bM (fun i as ρ=>∃ (bs:List Bool) (x:Option OV),as=bs.map .bl/\bs.length=i/\(bs.all id=true↔∀ k a b,k < i->z.cps.toList[k]?=some a->z.cps.toList[k+1]?=some b->a < b)/\ρ=[x,some (.fz (.str z))]) ⟨[],none,rfl,rfl,⟨fun _ k _ _ hk=>absurd hk (abF k),fun _=>rfl⟩,rfl⟩ ?_ ?_
    ·rintro i d as ρ R hd ⟨bs,x,rfl,hl,hb2,rfl⟩ k
     obtain ⟨hi,rfl⟩:=bW hd
     have hi':i+1 < z.cps.toList.length:=by nofun
     have g1:z.cps.toList[i]?=some (z.cps.toList[i]'(by nofun)):=List.getElem?_eq_getElem _
     have g2:z.cps.toList[i+1]?=some (z.cps.toList[i+1]'hi'):=List.getElem?_eq_getElem _
     have e1:atI z.cps.toList ((1:Int)+i - 1)=some (z.cps.toList[i]'(by nofun)):=by
      rw [show (1:Int)+i - 1=((i:Nat):Int) by nofun]; exact di g1
     have e2:atI z.cps.toList ((1:Int)+i)=some (z.cps.toList[i+1]'hi'):=by
      rw [show (1:Int)+i=((i+1:Nat):Int) by nofun]; exact di g2
     ext
     refine dM ?_
     ext
     refine ⟨by nofun,?_⟩
     rw [e1]
     ext
     refine ⟨by nofun,?_⟩
     rw [e2]
     ext
     refine ⟨by rw [List.length_map]; nofun,k _ _ ⟨bs++[_],_,by rw [aae]; rfl,by rw [List.length_append,hl]; rfl,?_,rfl⟩⟩
     rw [eJ,hb2,uB,decide_eq_true_iff]
     constructor
     ·rintro ⟨h3,h4⟩ k a b hk ha hb3
      by_cases hki:k=i
      ·subst hki
       rw [g1] at ha
       rw [g2] at hb3
       cases ha
       cases hb3
       exact h4
      ·exact h3 k a b (by nofun) ha hb3
     ·intro h3
      exact ⟨fun k a b hk=>h3 k a b (by nofun),h3 i _ _ (aaR i) g1 g2⟩
    ·rintro as ρ ⟨bs,x,rfl,hl,hb2,rfl⟩
     ext
     refine jE ?_
     ext
     refine q _ (hb2.trans ?_)
     have el:(cf 1 ((z.length:Int) - 1).toNat).length=z.cps.toList.length - 1:=by
      unfold cf; rw [List.length_map,List.length_range]; nofun
     rw [el]
     constructor
     ·intro h
      exact (show cP z from ⟨by nofun,by nofun,uE.mpr fun k a b ha hb3=>h k a b (by have:=(List.getElem?_eq_some_iff.mp hb3).1; nofun) ha hb3,hok⟩)
     ·intro h k a b _ ha hb3
      have h:cP z:=h
      exact uE.mp h.2.2.1 k a b ha hb3
  ·ext
   refine dM ?_
   ext
   refine q false (eI fun h=>?_)
   have h:cP z:=h
   have:=h.1
   nofun
theorem uF {P:OV->List OV->Prop}(sm:smD d=true)(h:∀ b:Bool,(b=true↔jN d)->P (.fz (.bl b)) [.fz d]):aB [.fz d] P:=by
 unfold aB
 exact ⟨d,rfl,sm,h⟩
end
@[irreducible] def bI:Ct:=fun os P=>∃ d:D,os=[.fz d]/\smD d=true/\∀ b:Bool,(b=true↔gQ d)->P (.fz (.bl b)) os
theorem oS (h:smD (.tup xs)=true):xs.length<=1000000/\∀ d ∈ xs,smD d=true:=by
 simp only [smD,Bool.and_eq_true,decide_eq_true_iff] at h
 exact ⟨h.1,fun d hd=>kx h.2 hd⟩
theorem AU (h:smD (.lst xs)=true):xs.length<=1000000/\∀ d ∈ xs,smD d=true:=by
 simp only [smD,Bool.and_eq_true,decide_eq_true_iff] at h
 exact ⟨h.1,fun d hd=>kx h.2 hd⟩
theorem iX {x:α}{r:List α}:cg (x::r) (some 1) none=r:=by
 unfold cg
 rw [show HT.sIx (x::r).length 0 (some 1)=1 from by show min 1 (r.length+1)=1; nofun,HT.sIx_none]
 simp
section
variable {P:Program}  {K:Frag}  
abbrev oU:Stmt:=top 26
abbrev yt:FS :=
  (ap (fIf (fOr (fQ (cj (fCB cIs (aa (ac 0) (aa (fC (.ty "tuple")) ag))))) (ax (fOp aEq (fCB dY (aa (ac 0) ag)) (fC (.int 0)))))
   (bp (fC (.bl false)))
   az)
  (ap (bB (fOp aIx (ac 0) (fC (.int 0))) (ad 1))
  (ap (fIf (fQ (cj (fCB cIs (aa (ac 1) (aa (fC (.ty "str")) ag)))))
   (bp (fC (.bl false)))
   az)
  (ap (fIf (ax (fOp aIn (ac 1) (fC (.tup [.str "none", .str "any"]))))
   (bp (fOp aEq (fCB dY (aa (ac 0) ag)) (fC (.int 1))))
   az)
  (ap (fIf (ax (fOp aEq (ac 1) (fC (.str "signs"))))
   (bp (gN (fOp aEq (fCB dY (aa (ac 0) ag)) (fC (.int 2))) (ak aB (aa (fFz (fOp aIx (ac 0) (fC (.int 1)))) ag))))
   az)
  (ap (fIf (ax (fOp aIn (ac 1) (fC (.tup [.str "again", .str "ahead", .str "not"]))))
   (bp (gN (fOp aEq (fCB dY (aa (ac 0) ag)) (fC (.int 2))) (ak bX (aa (fFz (fOp aIx (ac 0) (fC (.int 1)))) ag))))
   az)
  (ap (fIf (ax (fOp aIn (ac 1) (fC (.tup [.str "row", .str "first"]))))
   (bp (gN (jw (fI (fun i j=>decide (i<=j)) fun i j=>!aQ j i) (fI (fun i j=>decide (i<=j)) fun i j=>!aQ j i) (fC (.int 1)) (fOp (aI0 fun i j=>.int (i - j)) (fCB dY (aa (ac 0) ag)) (fC (.int 1))) (fC (.int 8))) (fCB xl (aa (cV [] 1 (wT (fSl dB (ac 0) (bh (fC (.int 1))) au)) (ad 0) mG (ak bX (aa (fFz (ac 0)) ag))) ag))))
   az)
  (bp (fC (.bl false))))))))))
theorem yu:Lh bI 1 []:=by delta bI
theorem yv:Hh bI yt [] 2:=by
 intro os P h
 unfold bI at h
 obtain ⟨d,rfl,sm,q⟩:=h
 have sz:=bH
 ext
 refine bo (∃ x xs,d=.tup (x::xs)) ?_ ?_
 ·rintro ⟨x,xs,rfl⟩
  obtain ⟨hl,hm⟩:=oS sm
  rw [List.length_cons] at hl
  ext
  refine fG ?_
  ext
  refine bo (∃ word,x=.str word) ?_ ?_
  ·rintro ⟨word,rfl⟩
   have q':∀ b:Bool,(b=true↔jj word xs)->P (.fz (.bl b)) [.fz (.tup (.str word::xs))]:=fun b hb=>q b (hb.trans ku.symm)
   ext
   refine bd ?_
   ext
   refine ⟨⟨rfl,rfl⟩,?_⟩
   ext
   refine ah (word = "none" ∨ word = "any") ((ki (zs:=["none", "any"])).trans (by simp)) (fun hw=>?_) (fun h1=>?_)
   ·ext
    refine ⟨aA,?_⟩
    ext
    refine q' _ (aV.trans (Iff.trans ?_ (nk hw).symm))
    exact ⟨fun h=>aar (by rw [List.length_cons] at h; nofun),fun h=>by rw [h]; rfl⟩
   ·ext
    refine bd ?_
    ext
    refine ⟨aM,?_⟩
    ext
    refine ah (word = "signs") bi (fun hw=>?_) (fun h2=>?_)
    ·ext
     refine ⟨aA,?_⟩
     ext
     refine ah (∃ x,xs=[x]) (aV.trans (by rw [List.length_cons]; exact nq)) (fun h=>?_) (fun h=>?_)
     ·obtain ⟨x,rfl⟩:=h
      ext
      refine uF (hm x (by simp)) fun b hb=>?_
      ext
      refine q' _ (hb.trans (Iff.trans ?_ (g7 hw).symm))
      exact ⟨fun h=>⟨x,rfl,h⟩,fun ⟨y,e,h⟩=>by cases e; exact h⟩
     ·ext
      exact q' _ (eI fun hh=>by obtain ⟨y,e,_⟩:=(g7 hw).mp hh; exact h ⟨y,e⟩)
    ·ext
     refine bd ?_
     ext
     refine ⟨⟨rfl,rfl⟩,?_⟩
     ext
     refine ah (word = "again" ∨ word = "ahead" ∨ word = "not") ((ki (zs:=["again", "ahead", "not"])).trans (by simp)) (fun hw=>?_) (fun h3=>?_)
     ·ext
      refine ⟨aA,?_⟩
      ext
      refine ah (∃ x,xs=[x]) (aV.trans (by rw [List.length_cons]; exact nq)) (fun h=>?_) (fun h=>?_)
      ·obtain ⟨x,rfl⟩:=h
       ext
       refine iW (hm x (by simp)) fun b hb=>?_
       ext
       refine q' _ (hb.trans (Iff.trans ?_ (uy hw).symm))
       exact ⟨fun h=>⟨x,rfl,h⟩,fun ⟨y,e,h⟩=>by cases e; exact h⟩
      ·ext
       exact q' _ (eI fun hh=>by obtain ⟨y,e,_⟩:=(uy hw).mp hh; exact h ⟨y,e⟩)
     ·ext
      refine bd ?_
      ext
      refine ⟨⟨rfl,rfl⟩,?_⟩
      ext
      refine ah (word = "row" ∨ word = "first") ((ki (zs:=["row", "first"])).trans (by simp)) (fun hw=>?_) (fun h4=>?_)
      ·ext
       rw [List.length_cons]
       refine ah ((1:Int)<=((xs.length+1:Nat):Int) - 1) decide_eq_true_iff (fun g1=>?_) (fun g1=>?_)
       ·ext
        refine ah (((xs.length+1:Nat):Int) - 1<=8) decide_eq_true_iff (fun g2=>?_) (fun g2=>?_)
        ·ext
         rw [iX]
         ext
         refine bM (fun i as ρ=>∃ (bs:List Bool) (x y:Option OV),as=bs.map .bl/\bs.length=i/\(bs.all id=true↔∀ c ∈ xs.take i,eN c)/\ρ=[x,some (.fz (.tup (.str word::xs))),y]) ⟨[],none,_,rfl,rfl,by simp,rfl⟩ ?_ ?_
         ·rintro i d as ρ R hd ⟨bs,x,y,rfl,hbl,hb,rfl⟩ k
          have hi:=(List.getElem?_eq_some_iff.mp hd).1
          ext
          refine dM ?_
          ext
          refine iW (hm d (aag _ (List.mem_of_getElem? hd))) fun b hb2=>?_
          ext
          refine ⟨by rw [List.length_map]; nofun,k _ _ ⟨bs++[b],_,_,by rw [aae]; rfl,by rw [List.length_append,hbl]; rfl,?_,rfl⟩⟩
          rw [eJ,cW hd,hb,hb2]
         ·rintro as ρ ⟨bs,x,y,rfl,hbl,hb,rfl⟩
          rw [aah (aac _)] at hb
          ext
          refine jE ?_
          ext
          refine q' _ (hb.trans (Iff.trans ?_ (kw hw).symm))
          exact ⟨fun h=>⟨by nofun,by nofun,h⟩,fun h=>h.2.2⟩
        ·ext
         exact q' _ (eI fun hh=>by have:=(kw hw).mp hh; nofun)
       ·ext
        refine gX ?_
        ext
        exact q' _ (eI fun hh=>by have:=(kw hw).mp hh; nofun)
      ·ext
       exact q' _ (eI (uz h1 h2 h3 h4))
  ·intro rest
   ext
   refine ⟨⟨gR (hm x (by simp)),rfl⟩,?_⟩
   ext
   refine ah (¬ ∃ z,x=.str z) (by rw [aak,aas,Ne,fW]) (fun hn=>?_) (fun hn=>rest (Classical.not_not.mp hn))
   ext
   refine q _ (eI fun ⟨word,r,e,_⟩=>?_)
   cases e
   exact hn ⟨_,rfl⟩
 ·intro rest
  ext
  refine ⟨⟨gR sm,rfl⟩,?_⟩
  ext
  refine ah (¬ ∃ z,d=.tup z) (by rw [aak,aas,Ne,uA]) (fun hn=>?_) (fun hn=>?_)
  ·ext
   refine dM ?_
   ext
   exact q _ (eI fun ⟨word,r,e,_⟩=>hn ⟨_,e⟩)
  ·obtain ⟨xs,rfl⟩:∃ z,d=.tup z:=Classical.not_not.mp hn
   ext
   refine ⟨aA,?_⟩
   ext
   refine ah (xs=[]) (aV.trans ⟨fun h=>aar (by nofun),fun h=>by rw [h]; rfl⟩) (fun h=>?_) (fun h=>?_)
   ·subst h
    ext
    exact q _ (eI fun ⟨word,r,e,_⟩=>nomatch e)
   ·match xs,h with
    | x::xs,_=>exact rest ⟨x,xs,rfl⟩
theorem ez {P:OV->List OV->Prop}(sm:smD d=true)(h:∀ b:Bool,(b=true↔gQ d)->P (.fz (.bl b)) [.fz d]):bI [.fz d] P:=by
 unfold bI
 exact ⟨d,rfl,sm,h⟩
end
def kz (d:D):Prop:=∃ n f,d=.tup [n,f]/\eN n/\gQ f
def eO (ds:List D):Prop:=∀ k n f n' f',ds[k]?=some (.tup [.str n,f])->ds[k+1]?=some (.tup [.str n',f'])->aQ n n'=true
def uG (d:D):Prop:=∃ ds,d=.lst ds/\(∀ r ∈ ds,kz r)/\eO ds
theorem me (h:kz d):∃ n f,d=.tup [.str n,f]:=by
 obtain ⟨n,f,rfl,hn,_⟩:=h
 cases n <;> first | exact ⟨_,_,rfl⟩ | exact (hn:False).elim
@[irreducible] def cy:Ct:=fun os P=>∃ d:D,os=[.fz d]/\smD d=true/\∀ b:Bool,(b=true↔kz d)->P (.fz (.bl b)) os
@[irreducible] def bD:Ct:=fun os P=>∃ ds:List D,os=[.fl ds]/\smD (.lst ds)=true/\(∀ r ∈ ds,kz r)/\∀ b:Bool,(b=true↔eO ds)->P (.fz (.bl b)) os
@[irreducible] def bP:Ct:=fun os P=>∃ ds:List D,os=[.fl ds]/\smD (.lst ds)=true/\∀ b:Bool,(b=true↔uG (.lst ds))->P (.fz (.bl b)) os
section
variable {P:Program}  {K:Frag}  
abbrev oV:Stmt:=top 28
abbrev yw:FS :=
  (ap (fIf (fOr (fQ (cj (fCB cIs (aa (ac 0) (aa (fC (.ty "tuple")) ag))))) (ax (fOp aNe (fCB dY (aa (ac 0) ag)) (fC (.int 2)))))
   (bp (fC (.bl false)))
   az)
  (bp (gN (ak bX (aa (fFz (fOp aIx (ac 0) (fC (.int 0)))) ag)) (ak bI (aa (fFz (fOp aIx (ac 0) (fC (.int 1)))) ag)))))
theorem yx:Lh cy 1 []:=by delta cy
theorem yz:Hh cy yw [] 1:=by
 intro os P h
 unfold cy at h
 obtain ⟨d,rfl,sm,q⟩:=h
 ext
 refine bo (∃ n f,d=.tup [n,f]) ?_ ?_
 ·rintro ⟨n,f,rfl⟩
  have hm:=(oS sm).2
  ext
  refine iW (hm n (by simp)) fun b hb=>?_
  ext
  refine ah (eN n) hb (fun hn=>?_) (fun hn=>?_)
  ·ext
   refine ez (hm f (by simp)) fun b2 hb2=>?_
   ext
   exact q _ (hb2.trans ⟨fun h=>⟨n,f,rfl,hn,h⟩,fun ⟨n',f',e,_,h⟩=>by cases e; exact h⟩)
  ·ext
   exact q _ (eI fun ⟨n',f',e,h,_⟩=>by cases e; exact hn h)
 ·intro rest
  ext
  refine ⟨⟨gR sm,rfl⟩,?_⟩
  ext
  refine ah (¬ ∃ z,d=.tup z) (by rw [aak,aas,Ne,uA]) (fun hn=>?_) (fun hn=>?_)
  ·ext
   refine dM ?_
   ext
   exact q _ (eI fun ⟨n',f',e,_⟩=>hn ⟨_,e⟩)
  ·obtain ⟨xs,rfl⟩:∃ z,d=.tup z:=Classical.not_not.mp hn
   ext
   refine ⟨aA,?_⟩
   ext
   refine ah (xs.length≠2) (by rw [aak,aas,Ne,aV]; nofun) (fun h=>?_) (fun h=>?_)
   ·ext
    exact q _ (eI fun ⟨n',f',e,_⟩=>by cases e; exact h rfl)
   ·match xs,Classical.not_not.mp h with
    | [n,f],_=>exact rest ⟨n,f,rfl⟩
theorem uH {P:OV->List OV->Prop}(sm:smD d=true)(h:∀ b:Bool,(b=true↔kz d)->P (.fz (.bl b)) [.fz d]):cy [.fz d] P:=by
 unfold cy
 exact ⟨d,rfl,sm,h⟩
abbrev uI:Stmt:=top 29
abbrev DN:FS :=
  (bp (fCB xl (aa (cV [0] 1 (sU (aa (fC (.int 1)) (aa (fCB dY (aa (ac 0) ag)) ag))) (ad 0) mG (fOp (fI (fun i j=>decide (i < j)) aQ) (fOp aIx (fOp aIx (ac 1) (fOp (aI0 fun i j=>.int (i - j)) (ac 0) (fC (.int 1)))) (fC (.int 0))) (fOp aIx (fOp aIx (ac 1) (ac 0)) (fC (.int 0))))) ag)))
theorem DO:Lh bD 1 [0]:=by delta bD
theorem DP:Hh bD DN [0] 1:=by
 intro os P h
 unfold bD at h
 obtain ⟨ds,rfl,sm,hr,q⟩:=h
 have sz:=bH
 have hl:=(AU sm).1
 ext
 refine ⟨⟨by nofun,by nofun,by nofun,by nofun⟩,?_⟩
 ext
 refine bM (fun i as ρ=>∃ (bs:List Bool) (x:Option OV),as=bs.map .bl/\bs.length=i/\(bs.all id=true↔∀ k n f n' f',k < i->ds[k]?=some (.tup [.str n,f])->ds[k+1]?=some (.tup [.str n',f'])->aQ n n'=true)/\ρ=[x,some (.fl ds)]) ⟨[],none,rfl,rfl,⟨fun _ k _ _ _ _ hk=>absurd hk (abF k),fun _=>rfl⟩,rfl⟩ ?_ ?_
 ·rintro i d as ρ R hd ⟨bs,x,rfl,hbl,hb2,rfl⟩ k
  obtain ⟨hi,rfl⟩:=bW hd
  have hi':i+1 < ds.length:=by nofun
  have g1:ds[i]?=some (ds[i]'(by nofun)):=List.getElem?_eq_getElem _
  have g2:ds[i+1]?=some (ds[i+1]'hi'):=List.getElem?_eq_getElem _
  obtain ⟨n,f,e1⟩:=me (hr _ (List.mem_of_getElem? g1))
  obtain ⟨n',f',e2⟩:=me (hr _ (List.mem_of_getElem? g2))
  rw [e1] at g1
  rw [e2] at g2
  have a1:atI ds ((1:Int)+i - 1)=some (.tup [.str n,f]):=by
   rw [show (1:Int)+i - 1=((i:Nat):Int) by nofun]; exact di g1
  have a2:atI ds ((1:Int)+i)=some (.tup [.str n',f']):=by
   rw [show (1:Int)+i=((i+1:Nat):Int) by nofun]; exact di g2
  ext
  refine dM ?_
  ext
  rw [a1]
  ext
  rw [a2]
  ext
  refine ⟨by rw [List.length_map]; nofun,k _ _ ⟨bs++[_],_,by rw [aae]; rfl,by rw [List.length_append,hbl]; rfl,?_,rfl⟩⟩
  rw [eJ,hb2]
  constructor
  ·rintro ⟨h3,h4⟩ k m g m' g' hk ha hb3
   by_cases hki:k=i
   ·subst hki
    rw [g1] at ha
    rw [g2] at hb3
    cases ha
    cases hb3
    exact h4
   ·exact h3 k m g m' g' (by nofun) ha hb3
  ·intro h3
   exact ⟨fun k m g m' g' hk=>h3 k m g m' g' (by nofun),h3 i _ _ _ _ (aaR i) g1 g2⟩
 ·rintro as ρ ⟨bs,x,rfl,hbl,hb2,rfl⟩
  ext
  refine jE ?_
  ext
  refine q _ (hb2.trans ?_)
  have el:(cf 1 ((ds.length:Int) - 1).toNat).length=ds.length - 1:=by
   unfold cf; rw [List.length_map,List.length_range]; nofun
  rw [el]
  exact ⟨fun h k n f n' f' ha hb=>h k n f n' f' (by have:=(List.getElem?_eq_some_iff.mp hb).1; nofun) ha hb,fun h k n f n' f' _=>h k n f n' f'⟩
theorem yB {P:OV->List OV->Prop}(sm:smD (.lst ds)=true)(hr:∀ r ∈ ds,kz r)(h:∀ b:Bool,(b=true↔eO ds)->P (.fz (.bl b)) [.fl ds]):bD [.fl ds] P:=by
 unfold bD
 exact ⟨ds,rfl,sm,hr,h⟩
abbrev oW:Stmt:=top 30
abbrev yD:FS :=
  (ap (fIf (fQ (cj (fCB cIs (aa (ac 0) (aa (fC (.ty "list")) ag)))))
   (bp (fC (.bl false)))
   az)
  (bp (gN (fCB xl (aa (um [] 1 0 (ad 0) mG (ak cy (aa (fFz (ac 0)) ag))) ag)) (ak bD (aa (ac 0) ag)))))
theorem yF:Lh bP 1 [0]:=by delta bP
theorem yG:Hh bP yD [0] 1:=by
 intro os P h
 unfold bP at h
 obtain ⟨ds,rfl,sm,q⟩:=h
 have sz:=bH
 ext
 refine bd ?_
 ext
 refine ⟨⟨rfl,rfl⟩,?_⟩
 ext
 refine gX ?_
 ·
  obtain ⟨hl,hm⟩:=AU sm
  ext
  refine tR (fun i as ρ=>∃ (bs:List Bool) (x:Option OV),as=bs.map .bl/\bs.length=i/\(bs.all id=true↔∀ c ∈ ds.take i,kz c)/\ρ=[x,some (.fl ds)]) (by rintro i as ρ ⟨bs,x,_,_,_,rfl⟩; rfl) ⟨[],none,rfl,rfl,by simp,rfl⟩ ?_ ?_
  ·rintro i d as ρ R hd ⟨bs,x,rfl,hbl,hb,rfl⟩ k
   have hi:=(List.getElem?_eq_some_iff.mp hd).1
   ext
   refine dM ?_
   ext
   refine uH (hm d (List.mem_of_getElem? hd)) fun b hb2=>?_
   ext
   refine ⟨by rw [List.length_map]; nofun,k _ _ ⟨bs++[b],_,by rw [aae]; rfl,by rw [List.length_append,hbl]; rfl,?_,rfl⟩⟩
   rw [eJ,cW hd,hb,hb2]
  ·rintro as ρ ⟨bs,x,rfl,hbl,hb,rfl⟩
   rw [aah (aac _)] at hb
   ext
   refine jE ?_
   ext
   refine ah (∀ c ∈ ds,kz c) hb (fun hr=>?_) (fun hr=>?_)
   ·ext
    refine yB sm hr fun b hb2=>?_
    ext
    exact q _ (hb2.trans ⟨fun h=>⟨ds,rfl,hr,h⟩,fun ⟨ds',e,_,h⟩=>by cases e; exact h⟩)
   ·ext
    exact q _ (eI fun ⟨ds',e,h,_⟩=>by cases e; exact hr h)
theorem mf {P:OV->List OV->Prop}(sm:smD (.lst ds)=true)(h:∀ b:Bool,(b=true↔uG (.lst ds))->P (.fz (.bl b)) [.fl ds]):bP [.fl ds] P:=by
 unfold bP
 exact ⟨ds,rfl,sm,h⟩
end
abbrev bf (word:Str)(rest:List Str):Str:=Builtin.Str.glued (Str.ofString " ") (word::rest)
abbrev bY (r:Rw):Str:=r.1++Str.ofString " = " ++ bf r.2.1 r.2.2
abbrev aZ (rows:List Rw):Str:=Builtin.Str.glued (Str.ofString "; ") (rows.map bY)
theorem jP:2<=sizeLine:=by rw [bH]; decide
theorem mh (h:a7 z)(hc:c < 97):c ∉ z.cps.toList:=fun hm=>by have:=h.2.2 c hm; nofun
theorem uJ {rest:List Str}(h:aT word rest):word ∈ (["none", "any", "signs", "again", "ahead", "not", "row", "first"]:List Str):=by
 obtain ⟨zs,_,h⟩:=h
 rcases h with ⟨e,_⟩ | ⟨e,_⟩ | ⟨e,_⟩ | ⟨e,_⟩
 ·rcases e with rfl | rfl <;> simp
 ·rw [e]; simp
 ·rcases e with rfl | rfl | rfl <;> simp
 ·rcases e with rfl | rfl <;> simp
theorem eA {rest:List Str}(h:aT word rest):word.length<=5/\32 ∉ word.cps.toList/\59 ∉ word.cps.toList:=by
 have all:∀ y ∈ (["none", "any", "signs", "again", "ahead", "not", "row", "first"]:List Str),y.length<=5/\32 ∉ y.cps.toList/\59 ∉ y.cps.toList:=by decide +kernel
 exact all word (uJ h)
theorem bJ {rest:List Str}(h:aT word rest):(word ≠ "signs" /\ rest.length<=8/\∀ z ∈ rest,a7 z)∨(word = "signs" /\ ∃ z,rest=[z]/\cP z):=by
 obtain ⟨zs,hz,h⟩:=h
 rcases h with ⟨e,rfl⟩ | ⟨e,z,rfl,hs⟩ | ⟨e,hl,hr⟩ | ⟨e,_,hl,hr⟩
 ·exact .inl ⟨by rcases e with rfl | rfl <;> decide +kernel,aam _,fun _ h=>nomatch h⟩
 ·exact .inr ⟨e,z,rfl,hs⟩
 ·exact .inl ⟨by rcases e with rfl | rfl | rfl <;> decide +kernel,by nofun,fun z h=>hz z (hr z h)⟩
 ·exact .inl ⟨by rcases e with rfl | rfl <;> decide +kernel,hl,fun z h=>hz z (hr z h)⟩
theorem eD:(Str.ofString " ").cps.toList=[32]:=by decide +kernel
theorem uK:(Str.ofString " = ").cps.toList=[32,61,32]:=by decide +kernel
theorem fH:(Str.ofString "; ").cps.toList=[59,32]:=by decide +kernel
theorem iZ:(Str.ofString " ").length=1:=by decide +kernel
theorem i1:(Str.ofString " = ").length=3:=by decide +kernel
theorem eU:(Str.ofString "; ").length=2:=by decide +kernel
theorem av (a b:Str):(a++b).length=a.length+b.length:=by
 rw [af,af,af,aN,List.length_append]
theorem oX {B:Nat}:∀ {zs:List Str},(∀ z ∈ zs,z.length<=B)->(zs.map (·.length)).sum<=zs.length * B
 | [],_=>aam _
 | z::zs,h=>by
  have h1:=h z (aad ..)
  have h2:=oX fun y hy=>h y (aag z hy)
  rw [List.map_cons,List.sum_cons,List.length_cons,Nat.succ_mul]
  nofun
theorem i2 {rest:List Str}(h:aT word rest):((word::rest).map (·.length)).sum+(word::rest).length * 1<=100:=by
 have hw:=(eA h).1
 rw [List.map_cons,List.sum_cons,List.length_cons]
 rcases bJ h with ⟨_,hl,hr⟩ | ⟨_,z,rfl,hs⟩
 ·have:=oX (B:=8) (zs:=rest) fun z hz=>by rw [af]; exact (hr z hz).2.1
  have:rest.length * 8<=8 * 8:=Nat.mul_le_mul_right _ hl
  nofun
 ·have:z.length<=40:=by rw [af]; exact hs.2.1
  simp only [List.map_cons,List.map_nil,List.sum_cons,List.sum_nil,List.length_cons,List.length_nil]
  nofun
theorem kA {rest:List Str}(h:aT word rest):(bf word rest).length<=100:=by
 have e:bf word rest=Str.join (Str.ofString " ") (word::rest):=aai _ _
 rw [e]
 have h1:=aa3 (Str.ofString " ") (word::rest)
 rw [iZ] at h1
 exact aaq h1 (i2 h)
theorem eK  {rest:List Str} (h:aT word rest) (hw:word ≠ "signs"):Txt.split (bf word rest) (Str.ofString " ")=word::rest:=by
 have e:bf word rest=Str.join (Str.ofString " ") (word::rest):=aai _ _
 rw [e]
 refine gt _ (by decide +kernel) (by decide +kernel) _ (by simp) fun p hp=>?_
 rw [eD]
 refine cL ?_
 rcases List.mem_cons.mp hp with rfl | hp
 ·exact (eA h).2.1
 ·rcases bJ h with ⟨_,_,hr⟩ | ⟨e,_⟩
  ·exact mh (hr p hp) (by decide)
  ·exact absurd e hw
theorem kB (z:Str):(⟨z.cps.toList.toArray⟩:Str)=z:=by cases z; simp
theorem fX {rest:List Str}(h:aT word rest):(Txt.partition (bf word rest) (Str.ofString " ")).1=word:=by
 have e:bf word rest=Str.join (Str.ofString " ") (word::rest):=aai _ _
 have hw:=(eA h).2.1
 cases rest with
 | nil =>
  have e2:bf word []=word:=e
  rw [e2]
  exact ub (qA eD hw)
 | cons q r =>
  rw [e,ng (p:=word.cps.toList) (bA ..) (by rw [eD]; exact cL hw)]
theorem jQ :Txt.partition (bf "signs" [z]) (Str.ofString " ")=(Str.ofString "signs", Str.ofString " ", z):=by
 have e:bf "signs" [z]=Str.join (Str.ofString " ") ["signs", z]:=aai _ _
 rw [e,ng (p:=("signs" : Str).cps.toList) (r:=z.cps.toList) (bA ..) (by rw [eD]; exact cL (by decide +kernel)),kB,kB]
theorem mi {rest:List Str}(h:aT word rest):gQ (ci word rest):=by
 refine ⟨word,rest.map .str,rfl,?_⟩
 obtain ⟨zs,hz,h⟩:=h
 rcases h with ⟨e,rfl⟩ | ⟨e,z,rfl,hs⟩ | ⟨e,hl,hr⟩ | ⟨e,h1,hl,hr⟩
 ·exact .inl ⟨e,rfl⟩
 ·exact .inr (.inl ⟨e,_,rfl,hs⟩)
 ·match rest,hl,hr with
  | [x],_,hr=>exact .inr (.inr (.inl ⟨e,_,rfl,hz x (hr x (aad ..))⟩))
 ·refine .inr (.inr (.inr ⟨e,by rw [List.length_map]; exact h1,by rw [List.length_map]; exact hl,fun x hx=>?_⟩))
  obtain ⟨z,hz',rfl⟩:=List.mem_map.mp hx
  exact hz z (hr z hz')
theorem kC {rest:List Str}(h:aT word rest):smD (ci word rest)=true:=by
 have hp:=i2 h
 have hl:rest.length<=8:=by
  rcases bJ h with ⟨_,hl,_⟩ | ⟨_,z,rfl,_⟩
  ·exact hl
  ·exact aa9 rfl
 simp only [smD,Bool.and_eq_true,decide_eq_true_iff]
 refine ⟨by rw [List.length_cons,List.length_map]; nofun,iT fun d hd=>?_⟩
 have str:∀ z:Str,z.length<=100->smD (.str z)=true:=fun z hz=>by simp only [smD,decide_eq_true_iff]; nofun
 rcases List.mem_cons.mp hd with rfl | hd
 ·exact str _ (by have:=(eA h).1; nofun)
 ·obtain ⟨z,hz,rfl⟩:=List.mem_map.mp hd
  refine str z ?_
  rcases bJ h with ⟨_,_,hr⟩ | ⟨_,z',rfl,hs⟩
  ·rw [af]; exact aaq (hr z hz).2.1 (by decide)
  ·have e:z=z':=(by exists hz)
   rw [e,af]; exact aaq hs.2.1 (by decide)
@[irreducible] def bQ:Ct:=fun os P=>∃ (word:Str) (rest:List Str),os=[.fz (.str (bf word rest))]/\aT word rest/\P (.fz (ci word rest)) os
section
variable {P:Program}  {K:Frag}  
abbrev kD:Stmt:=top 32
theorem yH:FnScope ["text", "word", "blank", "rest", "form"] ["text"] (aj kD):=⟨rfl,rfl,rfl,by decide +kernel,rfl,by decide +kernel,by decide +kernel⟩
abbrev DQ:FS :=
  (ap (fIf (fQ (cj (fCB cIs (aa (ac 0) (aa (fC (.ty "str")) ag)))))
   jH
   az)
  (ap (bB (fT1 jI (ac 0) (fC (.str " "))) (qm 3 (cN (ad 1) (cN (ad 2) (cN (ad 3) ql)))))
  (ap (bB (Jd (ax (fOp aEq (ac 1) (fC (.str "signs")))) (qi (aa (ac 1) (aa (ac 3) ag))) (fCB iH (aa (fT1 eT (ac 0) (fC (.str " "))) ag))) (ad 4))
  (ap (fIf (fQ (cj (ak bI (aa (fFz (ac 4)) ag))))
   jH
   az)
  (bp (ac 4))))))
theorem DR:Lh bQ 1 []:=by delta bQ
theorem DS:Hh bQ DQ [] 5:=by
 intro os P h
 unfold bQ at h
 obtain ⟨word,rest,rfl,hf,q⟩:=h
 have sz:=bH
 have hl:=kA hf
 ext
 refine bd ?_
 ext
 refine ⟨⟨rfl,rfl⟩,?_⟩
 ext
 refine gX ?_
 ext
 refine ⟨⟨by decide +kernel,by nofun⟩,?_⟩
 rcases bJ hf with ⟨hw,_,_⟩ | ⟨hw,z,hz,_⟩
 ·have e1:=fX hf
  generalize Txt.partition (bf word rest) (Str.ofString " ")=pt at e1
  obtain ⟨p1,p2,p3⟩:=pt
  have e1:p1=word:=e1
  rw [e1]
  ext
  refine ⟨rfl,?_⟩
  ext
  refine ⟨aM,?_⟩
  ext
  refine ah (word = "signs") bi (fun e=>absurd e hw) (fun _=>?_)
  ext
  refine ⟨⟨by decide +kernel,by nofun⟩,?_⟩
  rw [eK hf hw]
  ext
  refine bd ?_
  ext
  refine ez (kC hf) fun b hb=>?_
  rw [hb.mpr (mi hf)]
  ext
  refine gX ?_
  ext
  exact q
 ·subst hw hz
  rw [jQ]
  ext
  refine ⟨rfl,?_⟩
  ext
  refine ⟨aM,?_⟩
  ext
  refine ah ((Str.ofString "signs") = "signs") bi (fun _=>?_) (fun e=>absurd rfl e)
  ext
  refine ⟨jP,?_⟩
  ext
  refine bd ?_
  ext
  refine ez (kC hf) fun b hb=>?_
  rw [hb.mpr (mi hf)]
  ext
  refine gX ?_
  ext
  exact q
theorem yI {rest:List Str}{P:OV->List OV->Prop}(hf:aT word rest)(h:P (.fz (ci word rest)) [.fz (.str (bf word rest))]):bQ [.fz (.str (bf word rest))] P:=by
 unfold bQ
 exact ⟨word,rest,rfl,hf,h⟩
end
def qJ (z:Str):Prop:=∃ word rest,aT word rest/\z=bf word rest
structure BookG (rows:List Rw):Prop where
 ok:∀ r ∈ rows,a7 r.1/\aT r.2.1 r.2.2
 len:(aZ rows).length<=120000
def uL (z:Str):Prop:=∃ rows:List Rw,(∀ r ∈ rows,a7 r.1/\aT r.2.1 r.2.2)/\eO (rows.map cu)/\z=aZ rows
theorem qK (h:b=true↔p):(!b)=true↔¬ p:=by
 cases b
 ·exact ⟨fun _ z=>Bool.false_ne_true (h.mpr z),fun _=>rfl⟩
 ·exact ⟨(fun z=>nomatch z),fun n=>(n (h.mp rfl)).elim⟩
theorem oZ {rest:List Str}{x:D}(h:rest.map D.str=[x]):∃ z,rest=[z]/\x=.str z:=by
 match rest,h with
 | [z],h=>exact ⟨z,rfl,(abo h).1.symm⟩
theorem g8 {rest:List Str}(h:gQ (ci word rest)):aT word rest:=by
 rcases ku.mp h with ⟨e,h⟩ | ⟨e,x,hx,hs⟩ | ⟨e,x,hx,hn⟩ | ⟨e,h1,h2,hn⟩
 ·exact ⟨[],(fun _ z=>nomatch z),.inl ⟨e,List.map_eq_nil_iff.mp h⟩⟩
 ·obtain ⟨z,rfl,rfl⟩:=oZ hx
  exact ⟨[],(fun _ z=>nomatch z),.inr (.inl ⟨e,z,rfl,hs⟩)⟩
 ·obtain ⟨z,rfl,rfl⟩:=oZ hx
  exact ⟨[z],(fun y hy=>by rw [List.mem_singleton.mp hy]; exact hn),.inr (.inr (.inl ⟨e,rfl,fun _ h=>h⟩))⟩
 ·rw [List.length_map] at h1 h2
  exact ⟨rest,(fun y hy=>hn _ (List.mem_map.mpr ⟨y,hy,rfl⟩)),.inr (.inr (.inr ⟨e,h1,h2,fun _ h=>h⟩))⟩
theorem uM:Str.empty.length=0:=rfl
theorem kE (word z:Str):bf word [z]=word++Str.ofString " " ++ z:=by
 have e:bf word [z]=Str.join (Str.ofString " ") [word,z]:=aai _ _
 rw [e]
 apply ai
 rw [bA,aN,aN]
 rfl
theorem mj  (h1:(Txt.partition z (Str.ofString " ")).1 = "signs") (h2:cP (Txt.partition z (Str.ofString " ")).2.2):qJ z:=by
 rcases g5 z (Str.ofString " ") with ⟨_,e⟩ | e
 ·rw [e] at h2
  exact absurd h2.1 (by decide)
 ·rw [h1] at e
  exact ⟨"signs", [_],⟨[],(fun _ z=>nomatch z),.inr (.inl ⟨rfl,_,rfl,h2⟩)⟩,by rw [kE]; exact e⟩
theorem gL  {rest:List Str} (h:Txt.split z (Str.ofString " ")=word::rest):z=bf word rest:=by
 have e:bf word rest=Str.join (Str.ofString " ") (word::rest):=aai _ _
 rw [e,← h,abn]
theorem bZ (z y:Str):(Txt.split z y).length<=z.length+2:=by
 unfold Txt.split
 split
 ·exact Nat.le_add_left 1 _
 ·split
  ·exact Nat.le_add_left 1 _
  ·have e1:=StrLaws.occ_length_le z y 0 z.length (z.length+1)
   rw [length_partsBetween]; nofun
theorem dg {p:Str}(h:p ∈ Txt.split z y):p.length<=z.length:=by
 have:=join_mem_le y (Txt.split z y) p h
 rwa [abn] at this
theorem ml (z y:Str):(Txt.partition z y).2.2.length<=z.length:=by
 rcases g5 z y with ⟨_,e⟩ | e
 ·rw [e,uM]; exact aam _
 ·have:=congrArg Str.length e
  rw [av,av] at this
  nofun
theorem kF (hl:zs.length<=1000000)(h:∀ z ∈ zs,z.length<=1000000):smD (.tup (zs.map .str))=true:=by
 simp only [smD,Bool.and_eq_true,decide_eq_true_iff]
 refine ⟨by rw [List.length_map]; exact hl,iT fun d hd=>?_⟩
 obtain ⟨z,hz,rfl⟩:=List.mem_map.mp hd
 simp only [smD,decide_eq_true_iff]
 exact h z hz
theorem DT {rest:List Str}(h:aT word rest):3<=(bf word rest).length:=by
 have all:∀ y ∈ (["none", "any", "signs", "again", "ahead", "not", "row", "first"]:List Str),3<=y.length:=by decide +kernel
 have h1:=all word (uJ h)
 have e:bf word rest=Str.join (Str.ofString " ") (word::rest):=aai _ _
 have h2:=join_mem_le (Str.ofString " ") (word::rest) word (aad ..)
 rw [← e] at h2
 nofun
theorem HB {p:Str} {rest:List Str} (hf:aT word rest) (e:(Txt.partition p (Str.ofString " = ")).2.2=bf word rest):p=bY ((Txt.partition p (Str.ofString " = ")).1,word,rest):=by
 rcases g5 p (Str.ofString " = ") with ⟨_,h⟩ | h
 ·have:=DT hf
  rw [← e,h,uM] at this
  nofun
 ·rw [e] at h
  exact h
def uN (ds:List D):Prop:=∃ z:Str,ds=[.str z]/\z.length<=120000/\¬ qJ z
def uO (ds:List D):Prop:=∃ z:Str,ds=[.str z]/\z.length<=120000/\¬ qJ (Txt.partition z (Str.ofString " = ")).2.2
def nr (ds:List D):Prop:=∃ d:D,ds=[d]/\smD d=true/\∀ z,d=.str z->z.length<=120000/\¬ uL z
@[irreducible] def bj:Ct:=fun os P=>∃ (z word:Str) (rest:List Str),os=[.fz (.str z)]/\z.length<=120000/\aT word rest/\(Txt.partition z (Str.ofString " = ")).2.2=bf word rest/\P (.fz (cu ((Txt.partition z (Str.ofString " = ")).1,word,rest))) os
def AV (cr:List D->Prop)(fa:FA):FE:=fun ρ Q=>fa ρ fun rs _=>∃ ds,ER rs=some ds/\cr ds
theorem uP {K:Frag}{μ:List Nat}{G:Hp->Prop}{cr:List D->Prop}{t:TA}{fa:FA}{E:XK}(ha:AF K μ t fa)(hE:∀ H',G H'->E (.ref C) none H'):EFX K μ G (jc (spR K cr C) [] E t) (AV cr fa):=⟨by
 intro F Z H τ σ ρ A Q P gg vw R h q
 refine ha.h vw R h fun rs ρ1 vs F1 H1 A1 B1 h1 s1 R1 v1 f1=>?_
 obtain ⟨ds,e,hc⟩:=h1
 rw [aaJ]
 exact ⟨F1,ds,R1.fh,jL v1 e,hc,fun H' s=>hE H' (gg H' ((s1.trans R1.fh).trans s) (R1.zh.trans s))⟩⟩
section
variable {P:Program}  {K:Frag}  
def yJ:FS:=ap (fIf (fQ (cj (fCB cIs (aa (ac 0) (aa (fC (.ty "str")) ag))))) l5 az) (ap (bB (fT1 jI (ac 0) (fC (.str " "))) (qm 3 (cN (ad 1) (cN (ad 2) (cN (ad 3) ql))))) (ap (bB (Jd (ax (fOp aEq (ac 1) (fC (.str "signs")))) (qi (aa (ac 1) (aa (ac 3) ag))) (fCB iH (aa (fT1 eT (ac 0) (fC (.str " "))) ag))) (ad 4)) (ap (fIf (fQ (cj (ak bI (aa (fFz (ac 4)) ag)))) l5 az) (bp (ac 4)))))
theorem yL (ds:List D)(h:uN ds):yJ { nx:=fun _=>False,rt:=fun _ _=>False } (aw 5 (ds.map .fz)):=by
 obtain ⟨z,rfl,hl,hn⟩:=h
 have sz:=bH
 ext
 refine bd ?_
 ext
 refine ⟨⟨rfl,rfl⟩,?_⟩
 ext
 refine gX ?_
 ext
 refine ⟨⟨by decide +kernel,by nofun⟩,?_⟩
 ext
 refine ⟨rfl,?_⟩
 ext
 refine ⟨aM,?_⟩
 ext
 refine ah ((Txt.partition z (Str.ofString " ")).1 = "signs") bi (fun e=>?_) (fun _=>?_)
 ·have hr:=ml z (Str.ofString " ")
  have h5:("signs" : Str).length=5:=by decide +kernel
  ext
  refine ⟨jP,?_⟩
  ext
  refine bd ?_
  ext
  refine ez (kF (zs:=[(Txt.partition z (Str.ofString " ")).1,(Txt.partition z (Str.ofString " ")).2.2]) (aa9 rfl) (fun y hy=>?_)) fun b hb=>?_
  ·rcases List.mem_cons.mp hy with rfl | hy
   ·rw [e,h5]; decide
   ·rw [List.mem_singleton.mp hy]; nofun
  ext
  refine ah (¬ gQ (ci (Txt.partition z (Str.ofString " ")).1 [(Txt.partition z (Str.ofString " ")).2.2])) (qK hb) (fun _=>trivial) (fun h=>?_)
  have hf:=g8 (Classical.not_not.mp h)
  rcases bJ hf with ⟨hw,_⟩ | ⟨_,y,hy,hs⟩
  ·exact absurd e hw
  ·rw [← (abo hy).1] at hs
   exact absurd (mj e hs) hn
 ·have hc:=bZ z (Str.ofString " ")
  ext
  refine ⟨⟨by decide +kernel,by nofun⟩,?_⟩
  ext
  refine bd ?_
  ext
  refine ez (kF (zs:=Txt.split z (Str.ofString " ")) (by nofun) (fun y hy=>aaq (dg hy) (by nofun))) fun b hb=>?_
  ext
  refine ah (¬ gQ (.tup ((Txt.split z (Str.ofString " ")).map .str))) (qK hb) (fun _=>trivial) (fun h=>?_)
  have h:=Classical.not_not.mp h
  obtain ⟨word,rest,e,_⟩:=id h
  cases es:Txt.split z (Str.ofString " ") with
  | nil=>rw [es] at e; cases e
  | cons a l =>
   rw [es] at h
   exact absurd ⟨a,l,g8 h,gL es⟩ hn
theorem nu0:List.Nodup [("text" : Str),("word" : Str),("blank" : Str),("rest" : Str),("form" : Str)]:=by decide +kernel
theorem uQ   (F:Fun K "read_form" "read_form" kD f fd) (T:Txt K mg) (O_is_form:Own P w K mg base "is_form" 4 ["thing"] (spM K bI)) (hm:mg "NoText" = some (.ref C)) (hx:en K C):FnOk P w K mg base (CXr P w) 5 f fd ["text"] (spR K uN C) :=
 Fun.okY F yH (fun ds h=>by obtain ⟨_,rfl,_⟩:=h; rfl) (by decide) 5 rfl (fun cdv A outer s H E hE0 hr hE=>⟨_,aS (jd (lE (eY (cS (oh K rfl) T.n_isinstance bu (cQ (bN 0) (cQ (so T.n_str sd rfl) bq rfl) rfl) rfl rfl))) (bU (g0 (Same H) rfl hm hx dF hE rfl rfl rfl)) cY) (aS (sx (im K aaY abd abK ko (bN 0) (cQ dF bq rfl) rfl rfl rfl (by decide) rfl) (sr K rfl (du (dN (i:=1) nu0 rfl (Or.inl rfl) (Or.inl rfl)) (du (dN (i:=2) nu0 rfl (Or.inl rfl) (Or.inl rfl)) (du (dN (i:=3) nu0 rfl (Or.inl rfl) (Or.inl rfl)) mV rfl) rfl) rfl) rfl rfl rfl) rfl rfl rfl) (aS (eQ (i:=4) nu0 rfl (Or.inl rfl) (FY (lD (nW K hr.units rfl) (bN 1) dF eZ) (lB (cQ (bN 1) (cQ (bN 3) bq rfl) rfl)) (nV (n4 K rfl) T.n_tuple nR (cQ (im K aaY aaX PySem.F.type_str_split kn (bN 0) (cQ dF bq rfl) rfl rfl rfl (by decide) rfl) bq rfl) rfl rfl)) rfl (Or.inl rfl)) (aS (jd (lE (eY (fP O_is_form (hr.mono (by decide)) (cQ (bN 4) bq rfl) rfl rfl))) (bU (g0 (Same H) rfl hm hx dF hE rfl rfl rfl)) cY) (bU (eP (bN 4)))))),
  dA (oG (lJ (Hf (sS xj (bV iK (bV wR de))))) fU (SF.x fu)) (dA (SF.x (gE (t7 kr iK iw) (sT (dw (qZ (by decide)) (dw (qZ (by decide)) (dw (qZ (by decide)) mZ)))) (cT (by decide)))) (dA (SF.x (gE (Gp (ix (qj oj iK iw)) (AB (bV iK (bV iK de))) (sS ot (bV (t7 kq iK iw) de))) (qZ (by decide)) (cT (by decide)))) (dA (oG (lJ (Hf (gl (c:=bI) (bV (qk iK) de)))) fU (SF.x fu)) (SF.x (lN iK)))))⟩) yL
end
theorem i3 (hn:a7 r.1)(hf:aT r.2.1 r.2.2):(bY r).length<=111/\3<=(bY r).length/\r.1.length<=8:=by
 have h1:r.1.length<=8:=by rw [af]; exact hn.2.1
 have h2:=kA hf
 show (r.1++Str.ofString " = " ++ bf r.2.1 r.2.2).length<=111/\3<=(r.1++Str.ofString " = " ++ bf r.2.1 r.2.2).length/\_
 rw [av,av,i1]
 nofun
theorem kG (hn:a7 r.1):Txt.partition (bY r) (Str.ofString " = ")=(r.1,Str.ofString " = ", bf r.2.1 r.2.2):=by
 have e:(bY r).cps.toList=r.1.cps.toList++(Str.ofString " = ").cps.toList++(bf r.2.1 r.2.2).cps.toList:=by
  show (r.1++Str.ofString " = " ++ bf r.2.1 r.2.2).cps.toList=_
  rw [aN,aN]
 rw [ng e (by rw [uK]; exact cL (mh hn (by decide))),kB,kB]
theorem o5 (hn:a7 r.1)(hf:aT r.2.1 r.2.2):fV (bY r).cps.toList:=by
 have e:(bY r).cps.toList=r.1.cps.toList++(Str.ofString " = ").cps.toList++(bf r.2.1 r.2.2).cps.toList:=by
  show (r.1++Str.ofString " = " ++ bf r.2.1 r.2.2).cps.toList=_
  rw [aN,aN]
 have h1:59 ∉ r.1.cps.toList:=mh hn (by decide)
 have h2:59 ∉ (Str.ofString " = ").cps.toList:=by decide +kernel
 have h3:=(eA hf).2.2
 have h4:59 ∉ (Str.ofString " ").cps.toList:=by decide +kernel
 have ej:bf r.2.1 r.2.2=Str.join (Str.ofString " ") (r.2.1::r.2.2):=aai _ _
 rw [e,ej]
 have app:∀ {a b:List Nat},59 ∉ a->59 ∉ b->59 ∉ a++b:=fun ha hb h=>(List.mem_append.mp h).elim ha hb
 rcases bJ hf with ⟨_,_,hr⟩ | ⟨hw,z,hz,hs⟩
 ·refine t8 (app (app h1 h2) ?_)
  have gen:∀ (l:List Str) (a:Str),59 ∉ a.cps.toList->(∀ z ∈ l,a7 z)->59 ∉ (Str.join (Str.ofString " ") (a::l)).cps.toList:=by
   intro l
   induction l with
   | nil=>exact fun a ha _=>ha
   | cons b l ih =>
    intro a ha hl
    rw [bA]
    exact app (app ha h4) (ih b (mh (hl b (aad ..)) (by decide)) fun z hz=>hl z (aag _ hz))
  exact gen _ _ h3 hr
 ·rw [hz,bA,← List.append_assoc]
  exact t9 (app (app h1 h2) (app h3 h4)) hs.2.2.1
theorem gv (hne:rows≠[])(h:∀ r ∈ rows,a7 r.1/\aT r.2.1 r.2.2):Txt.split (aZ rows) (Str.ofString "; ")=rows.map bY:=by
 have e:aZ rows=Str.join (Str.ofString "; ") (rows.map bY):=aai _ _
 rw [e]
 refine gt _ (by decide +kernel) (by decide +kernel) _ (by exists hne) fun p hp=>?_
 obtain ⟨r,hr,rfl⟩:=List.mem_map.mp hp
 rw [fH]
 exact jJ (o5 (h r hr).1 (h r hr).2)
theorem o7 (h:∀ r ∈ rows,a7 r.1/\aT r.2.1 r.2.2):((rows.map bY).map (·.length)).sum<=rows.length * 111:=by
 have:=oX (B:=111) (zs:=rows.map bY) fun z hz=>by
  obtain ⟨r,hr,rfl⟩:=List.mem_map.mp hz
  exact (i3 (h r hr).1 (h r hr).2).1
 rwa [List.length_map] at this
theorem o8 (h:∀ r ∈ rows,a7 r.1/\aT r.2.1 r.2.2)(hl:rows.length<=30):(aZ rows).length<=4000:=by
 have e:aZ rows=Str.join (Str.ofString "; ") (rows.map bY):=aai _ _
 rw [e]
 have h1:=aa3 (Str.ofString "; ") (rows.map bY)
 rw [eU,List.length_map] at h1
 have h2:=o7 h
 have h3:rows.length * 111<=30 * 111:=Nat.mul_le_mul_right _ hl
 nofun
theorem dC (h:∀ r ∈ rows,a7 r.1/\aT r.2.1 r.2.2):aZ rows = "" ↔ rows=[]:=by
 constructor
 ·intro e
  cases rows with
  | nil=>rfl
  | cons r rows =>
   exfalso
   have e2:aZ (r::rows)=Str.join (Str.ofString "; ") ((r::rows).map bY):=aai _ _
   have h1:=join_mem_le (Str.ofString "; ") ((r::rows).map bY) (bY r) (by simp)
   rw [← e2,e] at h1
   have h2:=(i3 (h r (aad ..)).1 (h r (aad ..)).2).2.1
   have h3:(("" : String):Str).length=0:=by decide +kernel
   nofun
 ·rintro rfl
  rfl
theorem HC (hn:a7 r.1)(hf:aT r.2.1 r.2.2):smD (cu r)=true:=by
 have h8:r.1.length<=8:=by rw [af]; exact hn.2.1
 have h1:smD (.str r.1)=true:=by simp only [smD,decide_eq_true_iff]; nofun
 have h2:=kC hf
 show (decide (2<=1000000) && (smD (.str r.1) && (smD (ci r.2.1 r.2.2) && true)))=true
 rw [h1,h2]
 rfl
theorem uR (y:Str):∀ ps:List Str,(∀ p ∈ ps,3<=p.length)->3 * ps.length<=(Str.join y ps).length
 | [],_=>aam _
 | [p],h=>h p (aad ..)
 | p::q::r,h=>by
  have h1:=h p (aad ..)
  have h2:=uR y (q::r) fun z hz=>h z (aag _ hz)
  have h3:=congrArg List.length (bA y p q r)
  rw [List.length_append,List.length_append,← af,← af,← af,← af] at h3
  rw [List.length_cons]
  nofun
theorem yM (h:∀ r ∈ rows,a7 r.1/\aT r.2.1 r.2.2):3 * rows.length<=(aZ rows).length:=by
 have e:aZ rows=Str.join (Str.ofString "; ") (rows.map bY):=aai _ _
 have:=uR (Str.ofString "; ") (rows.map bY) fun p hp=>by
  obtain ⟨r,hr,rfl⟩:=List.mem_map.mp hp
  exact (i3 (h r hr).1 (h r hr).2).2.1
 rw [List.length_map,← e] at this
 exact this
theorem uS (h:∀ r ∈ rows,a7 r.1/\aT r.2.1 r.2.2)(hl:rows.length<=1000000):smD (.lst (rows.map cu))=true:=by
 simp only [smD,Bool.and_eq_true,decide_eq_true_iff]
 refine ⟨by rw [List.length_map]; nofun,iT fun d hd=>?_⟩
 obtain ⟨r,hr,rfl⟩:=List.mem_map.mp hd
 exact HC (h r hr).1 (h r hr).2
theorem BookL.g (h:BookL rows):BookG rows:=⟨h.ok,aaq (o8 h.ok h.few) (by decide)⟩
theorem BookG.few (h:BookG rows):rows.length<=40000:=by
 have h1:=yM h.ok
 have h2:=h.len
 nofun
theorem HD (hn:a7 r.1)(hf:aT r.2.1 r.2.2):kz (cu r):=⟨_,_,rfl,hn,mi hf⟩
theorem DU (h:∀ r ∈ rows,a7 r.1/\aT r.2.1 r.2.2)(hr:eO (rows.map cu)):uG (.lst (rows.map cu)):=⟨_,rfl,(fun d hd=>by
 obtain ⟨r,hr,rfl⟩:=List.mem_map.mp hd
 exact HD (h r hr).1 (h r hr).2),hr⟩
@[irreducible] def a8:Ct:=fun os P=>∃ rows:List Rw,os=[.fz (.str (aZ rows))]/\BookG rows/\eO (rows.map cu)/\P (.fl (rows.map cu)) os
section
variable {P:Program}  {K:Frag}  
abbrev kH:Stmt:=top 33
theorem yN:FnScope ["text", "name", "mid", "rest"] ["text"] (aj kH):=⟨rfl,rfl,rfl,by decide +kernel,rfl,by decide +kernel,by decide +kernel⟩
abbrev DW:FS :=
  (ap (bB (fT1 jI (ac 0) (fC (.str " = "))) (qm 3 (cN (ad 1) (cN (ad 2) (cN (ad 3) ql)))))
  (bp (qi (aa (ac 1) (aa (ak bQ (aa (fFz (ac 3)) ag)) ag)))))
theorem DX:Lh bj 1 []:=by delta bj
theorem DY:Hh bj DW [] 4:=by
 intro os P h
 unfold bj at h
 obtain ⟨z,word,rest,rfl,hl,hf,e,q⟩:=h
 have sz:=bH
 ext
 refine ⟨⟨by decide +kernel,by nofun⟩,?_⟩
 rw [e]
 ext
 refine ⟨rfl,?_⟩
 ext
 refine yI hf ?_
 ext
 refine ⟨jP,?_⟩
 ext
 exact q
theorem o9  {rest:List Str} {P:OV->List OV->Prop} (hl:z.length<=120000) (hf:aT word rest) (e:(Txt.partition z (Str.ofString " = ")).2.2=bf word rest) (h:P (.fz (cu ((Txt.partition z (Str.ofString " = ")).1,word,rest))) [.fz (.str z)]):bj [.fz (.str z)] P:=by
 unfold bj
 exact ⟨z,word,rest,rfl,hl,hf,e,h⟩
def yO:FS:=ap (bB (fT1 jI (ac 0) (fC (.str " = "))) (qm 3 (cN (ad 1) (cN (ad 2) (cN (ad 3) ql))))) (bp (qi (aa (ac 1) (aa (AV uN (aa (fFz (ac 3)) ag)) ag))))
theorem yQ (ds:List D)(h:uO ds):yO { nx:=fun _=>False,rt:=fun _ _=>False } (aw 4 (ds.map .fz)):=by
 obtain ⟨z,rfl,hl,hn⟩:=h
 have sz:=bH
 have hr:=ml z (Str.ofString " = ")
 ext
 refine ⟨⟨by decide +kernel,by nofun⟩,?_⟩
 ext
 refine ⟨rfl,?_⟩
 ext
 exact ⟨_,rfl,_,rfl,by nofun,hn⟩
theorem nu1:List.Nodup [("text" : Str),("name" : Str),("mid" : Str),("rest" : Str)]:=by decide +kernel
theorem uT   (F:Fun K "read_rule" "read_rule" kH f fd) (T:Txt K mg) (R_read_form:OwnR P w K mg base "read_form" 5 ["text"] (spR K uN C)):FnOk P w K mg base (CXr P w) 6 f fd ["text"] (spR K uO C) :=
 Fun.okY F yN (fun ds h=>by obtain ⟨_,rfl,_⟩:=h; rfl) (by decide) 4 rfl (fun cdv A outer s H E hE0 hr hE=>⟨_,aS (sx (im K aaY abd abK ko (bN 0) (cQ dF bq rfl) rfl rfl rfl (by decide) rfl) (sr K rfl (du (dN (i:=1) nu1 rfl (Or.inl rfl) (Or.inl rfl)) (du (dN (i:=2) nu1 rfl (Or.inl rfl) (Or.inl rfl)) (du (dN (i:=3) nu1 rfl (Or.inl rfl) (Or.inl rfl)) mV rfl) rfl) rfl) rfl rfl rfl) rfl rfl rfl) (bU (eP (lB (cQ (bN 1) (cQ (ue R_read_form (hr.mono (by decide)) xU (cQ (bN 3) bq rfl) rfl rfl) bq rfl) rfl)))),
  dA (SF.x (gE (t7 kr iK iw) (sT (dw (qZ (by decide)) (dw (qZ (by decide)) (dw (qZ (by decide)) mZ)))) (cT (by decide)))) (Du (Dt (xQ iK (xR (uP (bV (qk iK) de) fun H' g=>⟨hE0 H' g,g⟩)))))⟩) yQ
abbrev kI:Stmt:=top 34
theorem yR:FnScope ["text", "book"] ["text"] (aj kI):=⟨rfl,rfl,rfl,by decide +kernel,rfl,by decide +kernel,by decide +kernel⟩
abbrev DZ:FS :=
  (ap (fIf (fQ (cj (fCB cIs (aa (ac 0) (aa (fC (.ty "str")) ag)))))
   jH
   az)
  (ap (fIf (ax (fOp aEq (ac 0) (fC (.str ""))))
   (bp (fq ag))
   az)
  (ap (gO 1 (cV [] 1 (lK (fT1 eT (ac 0) (fC (.str "; ")))) (ad 0) mG (ak bj (aa (fFz (ac 0)) ag))))
  (ap (fIf (fQ (cj (ak bP (aa (ac 1) ag))))
   jH
   az)
  (bp (ac 1))))))
theorem D0:Lh a8 1 []:=by delta a8
theorem D1:Hh a8 DZ [] 2:=by
 intro os P h
 unfold a8 at h
 obtain ⟨rows,rfl,hB,hR,q⟩:=h
 have sz:=bH
 have few:=hB.few
 have hl:=hB.len
 ext
 refine bd ?_
 ext
 refine ⟨⟨rfl,rfl⟩,?_⟩
 ext
 refine gX ?_
 ext
 refine bd ?_
 ext
 refine ⟨aM,?_⟩
 ext
 refine ah (aZ rows = "") bi (fun e=>?_) (fun e=>?_)
 ·have e2:=(dC hB.ok).mp e
  subst e2
  ext
  refine ⟨aam _,?_⟩
  ext
  exact q
 ·have hne:rows≠[]:=fun z=>e ((dC hB.ok).mpr z)
  ext
  refine ⟨⟨by decide +kernel,by nofun⟩,?_⟩
  rw [gv hne hB.ok]
  ext
  refine bM (fun i as ρ=>∃ (x:Option OV),as=(rows.take i).map cu/\ρ=[x,some (.fz (.str (aZ rows))),none]) ⟨none,rfl,rfl⟩ ?_ ?_
  ·rintro i d as ρ R hd ⟨x,rfl,rfl⟩ k
   rw [List.getElem?_map,Option.map_eq_some_iff] at hd
   obtain ⟨y,hy,rfl⟩:=hd
   rw [List.getElem?_map,Option.map_eq_some_iff] at hy
   obtain ⟨r,hr,rfl⟩:=hy
   have hi:=(List.getElem?_eq_some_iff.mp hr).1
   obtain ⟨hn,hf⟩:=hB.ok r (List.mem_of_getElem? hr)
   have ep:=kG hn
   have e1:(Txt.partition (bY r) (Str.ofString " = ")).1=r.1:=by rw [ep]
   have e2:(Txt.partition (bY r) (Str.ofString " = ")).2.2=bf r.2.1 r.2.2:=by rw [ep]
   have hl3:=(i3 hn hf).1
   ext
   refine dM ?_
   ext
   refine o9 (by nofun) hf e2 ?_
   rw [e1]
   ext
   refine ⟨by rw [List.length_map,aau]; nofun,k _ _ ⟨_,?_,rfl⟩⟩
   rw [abb,hr,aae]
   rfl
  ·rintro as ρ ⟨x,rfl,rfl⟩
   rw [List.length_map,List.length_map,aah (aac _)]
   ext
   refine bd ?_
   ext
   refine mf (uS hB.ok (by nofun)) fun b hb=>?_
   rw [hb.mpr (DU hB.ok hR)]
   ext
   refine gX ?_
   ext
   exact q
theorem yS {P:OV->List OV->Prop}(hB:BookG rows)(hR:eO (rows.map cu))(h:P (.fl (rows.map cu)) [.fz (.str (aZ rows))]):a8 [.fz (.str (aZ rows))] P:=by
 unfold a8
 exact ⟨rows,rfl,hB,hR,h⟩
end
theorem yT (hf:∀ r ∈ rows,aT r.2.1 r.2.2)(hn:∀ r ∈ rows,r.1.length<=1000000)(hl:rows.length<=1000000):smD (.lst (rows.map cu))=true:=by
 simp only [smD,Bool.and_eq_true,decide_eq_true_iff]
 refine ⟨by rw [List.length_map]; nofun,iT fun d hd=>?_⟩
 obtain ⟨r,hr,rfl⟩:=List.mem_map.mp hd
 have h1:smD (.str r.1)=true:=by simp only [smD,decide_eq_true_iff]; exact hn r hr
 have h2:=kC (hf r hr)
 show (decide (2<=1000000) && (smD (.str r.1) && (smD (ci r.2.1 r.2.2) && true)))=true
 rw [h1,h2]
 rfl
theorem yU (z y:Str):(Txt.partition z y).1.length<=z.length:=by
 rcases g5 z y with ⟨e,_⟩ | e
 ·rw [e]; exact aac _
 ·have:=congrArg Str.length e
  rw [av,av] at this
  nofun
theorem nt  {rs:List Rw} (hs:Txt.split z (Str.ofString "; ")=rs.map bY) (hf:∀ r ∈ rs,aT r.2.1 r.2.2) (h:uG (.lst (rs.map cu))):uL z:=by
 obtain ⟨ds,e,h1,h2⟩:=h
 cases e
 refine ⟨rs,fun r hr=>⟨?_,hf r hr⟩,h2,?_⟩
 ·obtain ⟨n,f,e,hn,_⟩:=h1 _ (List.mem_map.mpr ⟨r,hr,rfl⟩)
  cases e
  exact hn
 ·have e:aZ rs=Str.join (Str.ofString "; ") (rs.map bY):=aai _ _
  rw [e,← hs,abn]
section
variable {P:Program}  {K:Frag}  
def yV:FS:=ap (fIf (fQ (cj (fCB cIs (aa (ac 0) (aa (fC (.ty "str")) ag))))) l5 az) (ap (fIf (ax (fOp aEq (ac 0) (fC (.str ""))))
      (bp (fq ag))
      az) (ap (gO 1 (qt 1 (lK (fT1 eT (ac 0) (fC (.str "; ")))) (ad 0) mG (AM bj uO (aa (fFz (ac 0)) ag)))) (ap (fIf (fQ (cj (ak bP (aa (ac 1) ag)))) l5 az) (bp (ac 1)))))
theorem yY (ds:List D)(h:nr ds):yV { nx:=fun _=>False,rt:=fun _ _=>False } (aw 2 (ds.map .fz)):=by
 obtain ⟨d,rfl,sm,hd⟩:=h
 have sz:=bH
 ext
 refine bd ?_
 ext
 refine ⟨⟨gR sm,rfl⟩,?_⟩
 ext
 refine ah (¬ ∃ z,d=.str z) (by rw [aak,aas,Ne,fW]) (fun _=>trivial) (fun h=>?_)
 obtain ⟨z,rfl⟩:=Classical.not_not.mp h
 obtain ⟨hl,hn⟩:=hd z rfl
 ext
 refine bd ?_
 ext
 refine ⟨aM,?_⟩
 ext
 refine ah (z = "") bi (fun e=>?_) (fun _=>?_)
 ·refine absurd ⟨[],(fun _ h=>nomatch h),(fun k n f n' f' h=>nomatch h),?_⟩ hn
  rw [e]
  exact ((dC (rows:=[]) (fun _ h=>nomatch h)).mpr rfl).symm
 ·have hc:=bZ z (Str.ofString "; ")
  ext
  refine ⟨⟨by decide +kernel,by nofun⟩,?_⟩
  ext
  refine bM (fun i as ρ=>∃ (rs:List Rw) (x:Option OV),as=rs.map cu/\rs.length=i/\(Txt.split z (Str.ofString "; ")).take i=rs.map bY/\(∀ r ∈ rs,aT r.2.1 r.2.2)/\(∀ r ∈ rs,r.1.length<=1000000)/\ρ=[x,some (.fz (.str z)),none]) ⟨[],none,rfl,rfl,rfl,(fun _ h=>nomatch h),(fun _ h=>nomatch h),rfl⟩ ?_ ?_
  ·rintro i d as ρ R hd ⟨rs,x,rfl,hrl,hrt,hrf,hrn,rfl⟩ k
   rw [List.getElem?_map,Option.map_eq_some_iff] at hd
   obtain ⟨p,hp,rfl⟩:=hd
   have hi:=(List.getElem?_eq_some_iff.mp hp).1
   have hpl:p.length<=120000:=aaq (dg (List.mem_of_getElem? hp)) hl
   ext
   refine dM ?_
   by_cases W:qJ (Txt.partition p (Str.ofString " = ")).2.2
   ·obtain ⟨word,rest,hf,e⟩:=W
    have hrow:=HB hf e
    have hfst:=yU p (Str.ofString " = ")
    refine .inl ?_
    ext
    refine o9 hpl hf e ?_
    ext
    refine ⟨by rw [List.length_map]; nofun,k _ _ ⟨rs++[((Txt.partition p (Str.ofString " = ")).1,word,rest)],_,by rw [aae]; rfl,by rw [List.length_append,hrl]; rfl,?_,fun r hr=>?_,fun r hr=>?_,rfl⟩⟩
    ·rw [abb,hp,hrt,aae]
     show rs.map bY++[p]=rs.map bY++[bY ((Txt.partition p (Str.ofString " = ")).1,word,rest)]
     rw [← hrow]
    ·rcases List.mem_append.mp hr with h | h
     ·exact hrf r h
     ·rw [List.mem_singleton.mp h]; exact hf
    ·rcases List.mem_append.mp hr with h | h
     ·exact hrn r h
     ·rw [List.mem_singleton.mp h]; show (Txt.partition p (Str.ofString " = ")).1.length<=1000000; nofun
   ·refine .inr ?_
    ext
    exact ⟨_,rfl,p,rfl,hpl,W⟩
  ·rintro as ρ ⟨rs,x,rfl,hrl,hrt,hrf,hrn,rfl⟩
   rw [List.length_map,aah (aac _)] at hrt
   rw [List.length_map] at hrl
   ext
   refine bd ?_
   ext
   refine mf (yT hrf hrn (by nofun)) fun b hb=>?_
   ext
   exact ah (¬ uG (.lst (rs.map cu))) (qK hb) (fun _=>trivial) (fun h=>absurd (nt hrt hrf (Classical.not_not.mp h)) hn)
theorem uU   (F:Fun K "read_book" "read_book" kI f fd) (T:Txt K mg) (O_read_rule:Own P w K mg base "read_rule" 6 ["text"] (spM K bj)) (R_read_rule:OwnR P w K mg base "read_rule" 6 ["text"] (spR K uO C)) (O_is_book:Own P w K mg base "is_book" 6 ["thing"] (spM K bP)) (hm:mg "NoText" = some (.ref C)) (hx:en K C):FnOk P w K mg base (CXr P w) 7 f fd ["text"] (spR K nr C) :=
 Fun.okY F yR (fun ds h=>by obtain ⟨_,rfl,_⟩:=h; rfl) (by decide) 2 rfl (fun cdv A outer s H E hE0 hr hE=>⟨_,aS (jd (lE (eY (cS (oh K rfl) T.n_isinstance bu (cQ (bN 0) (cQ (so T.n_str sd rfl) bq rfl) rfl) rfl rfl))) (bU (g0 (Same H) rfl hm hx dF hE rfl rfl rfl)) cY) (aS (jd (lD (nW K hr.units rfl) (bN 0) dF eZ)
   (bU (eP (Aq bq)))
   cY) (aS
   (xV (i:=1) (T:=["piece"]) (F:=[]) (ixs:=[]) (CompScope.of rfl rfl rfl) (su K (im K aaY aaX PySem.F.type_str_split kn (bN 0) (cQ dF bq rfl) rfl rfl rfl (by decide) rfl) rfl) (fun _ _ _ _=>(dN (i:=0) (show List.Nodup [("piece" : Str)] from by decide +kernel) rfl (Or.inl rfl) (Or.inr rfl))) (fun _ _ _ _=>sq)
    (fun _ _ _ _=>Hd (fP O_read_rule (hr.mono (by decide)) (cQ (bN 0) bq rfl) rfl rfl) (ue R_read_rule (hr.mono (by decide)) (ug rfl rfl rfl) (cQ (bN 0) bq rfl) rfl rfl)) (fun _=>rfl) (show List.Nodup [("text" : Str),("book" : Str)] from by decide +kernel) rfl (Or.inl rfl) rfl (Or.inl rfl))
   (aS (jd (lE (eY (fP O_is_book (hr.mono (by decide)) (cQ (bN 1) bq rfl) rfl rfl))) (bU (g0 (Same H) rfl hm hx dF hE rfl rfl rfl)) cY) (bU (eP (bN 1)))))),
  dA (oG (lJ (Hf (sS xj (bV iK (bV wR de))))) fU (SF.x fu)) (dA (SF.x (CH (ix (qj oj iK iw))
   (lN (AA de))
   fu)) (dA (xT (xS (no:=1) (ixs:=[]) (n8 (t7 kq iK iw)) (oz (by decide)) (mY (i:=0) (by decide) (by decide)) (GV (by decide)) Az (xP (c:=bj) (bV (qk (sR (i:=0) (by decide))) de) fun H' g=>⟨hE0 H' g,g⟩)) (by decide)) (dA (oG (lJ (Hf (gl (c:=bP) (bV iK de)))) fU (SF.x fu)) (SF.x (lN iK)))))⟩) yY
end
def okc (c:Nat):Prop:=32<=c/\c<=126/\c≠37
theorem mn:eM.cps.toList=(List.range' 32 95).filter fun c=>c != 37:=by decide +kernel
theorem pc :c ∈ eM.cps.toList↔okc c:=by
 rw [mn,List.mem_filter,List.mem_range'_1]
 unfold okc
 simp
 nofun
theorem qL:eM.cps.toList.Pairwise (· < ·):=by
 rw [mn]
 exact List.Pairwise.filter _ (List.pairwise_lt_range' ..)
theorem AW {x:Str}:StrLaws.At x ⟨#[c]⟩ x.length i↔x.cps.toList[i]?=some c:=by
 unfold StrLaws.At Builtin.Str.subAt
 have hl:=jO x
 have h1:(⟨#[c]⟩:Str).length=1:=rfl
 rw [h1,beq_iff_eq]
 constructor
 ·rintro ⟨h2,e⟩
  have e':=congrArg Array.toList e
  rw [Array.toList_extract,List.extract_eq_drop_take] at e'
  have hi:i < x.cps.toList.length:=by nofun
  rw [aaw hi,show i+1 - i=0+1 by nofun] at e'
  rw [List.getElem?_eq_getElem hi]
  simp at e'
  exact congrArg some e'
 ·intro e
  obtain ⟨hi,e2⟩:=List.getElem?_eq_some_iff.mp e
  refine ⟨by nofun,?_⟩
  apply Array.toList_inj.mp
  rw [Array.toList_extract,List.extract_eq_drop_take,aaw hi,show i+1 - i=0+1 by nofun,e2]
  simp
def pd (c:Nat):Int:=Txt.find eM ⟨#[c]⟩
theorem uV (c:Nat):(pd c=-1/\¬ okc c)∨∃ i:Nat,pd c=i/\eM.cps.toList[i]?=some c:=by
 rcases PyProof.Rows.find_whole eM ⟨#[c]⟩ with ⟨h1,h2⟩ | ⟨i,h1,h2,_⟩
 ·refine .inl ⟨h1,fun ho=>?_⟩
  obtain ⟨i,hi⟩:=List.mem_iff_getElem?.mp (pc.mpr ho)
  exact h2 i (AW.mpr hi)
 ·exact .inr ⟨i,h1,AW.mp h2⟩
theorem gw :0<=pd c↔okc c:=by
 rcases uV c with ⟨h1,h2⟩ | ⟨i,h1,h2⟩
 ·rw [h1]; exact ⟨fun h=>absurd h (by decide),fun h=>absurd h h2⟩
 ·rw [h1]; exact ⟨fun _=>pc.mp (List.mem_of_getElem? h2),fun _=>Int.natCast_nonneg i⟩
theorem uW {c':Nat}(h:okc c)(h':okc c'):pd c < pd c'↔c < c':=by
 rcases uV c with ⟨_,h2⟩ | ⟨i,h1,h2⟩
 ·exact absurd h h2
 rcases uV c' with ⟨_,h2'⟩ | ⟨j,h1',h2'⟩
 ·exact absurd h' h2'
 rw [h1,h1']
 obtain ⟨hi,ei⟩:=List.getElem?_eq_some_iff.mp h2
 obtain ⟨hj,ej⟩:=List.getElem?_eq_some_iff.mp h2'
 have m:∀ {a b:Nat} (ha:a < eM.cps.toList.length) (hb:b < eM.cps.toList.length),a < b->eM.cps.toList[a] < eM.cps.toList[b]:=fun ha hb hab=>List.pairwise_iff_getElem.mp qL _ _ ha hb hab
 constructor
 ·intro hl
  rw [← ei,← ej]
  exact m hi hj (by nofun)
 ·intro hl
  rcases Nat.lt_trichotomy i j with z | z | z
  ·nofun
  ·subst z
   rw [ei] at ej
   nofun
  ·have:=m hj hi z
   rw [ei,ej] at this
   nofun
theorem uX {ps ss:List Int}(h:tH ss ps):ps=ss↔ps.Pairwise (· < ·):=by
 constructor
 ·intro e; rw [e]; exact h.1
 ·intro hp
  have np:ps.Nodup:=hp.imp fun x=>by nofun
  have ns:ss.Nodup:=h.1.imp fun x=>by nofun
  have pm:ps.Perm ss:=(List.perm_ext_iff_of_nodup np ns).mpr fun k=>(h.2 k).symm
  have hp':ps.Pairwise (fun a b=>a<=b):=hp.imp fun x=>Int.le_of_lt x
  have hs':ss.Pairwise (fun a b=>a<=b):=h.1.imp fun x=>Int.le_of_lt x
  exact List.Perm.eq_of_pairwise (fun a b _ _ h1 h2=>Int.le_antisymm h1 h2) hp' hs' pm
theorem qM :(∃ c,z.cps.toList[0]?=some c/\0<=pd c)/\(z.cps.toList.map pd).Pairwise (· < ·)↔1<=z.cps.toList.length/\z.cps.toList.Pairwise (· < ·)/\∀ c ∈ z.cps.toList,okc c:=by
 generalize z.cps.toList=l
 constructor
 ·rintro ⟨⟨c,h1,h2⟩,hp⟩
  match l,h1 with
  | c'::l,h1 =>
   simp at h1
   subst h1
   rw [List.map_cons,List.pairwise_cons] at hp
   have ok:∀ d ∈ c'::l,okc d:=by
    intro d hd
    rcases List.mem_cons.mp hd with rfl | hd
    ·exact gw.mp h2
    ·have:=hp.1 (pd d) (List.mem_map.mpr ⟨d,hd,rfl⟩)
     exact gw.mp (by nofun)
   refine ⟨by rw [List.length_cons]; nofun,List.pairwise_cons.mpr ⟨fun d hd=>(uW (ok _ (aad ..)) (ok d (aag _ hd))).mp (hp.1 _ (List.mem_map.mpr ⟨d,hd,rfl⟩)),?_⟩,ok⟩
   have h3:=List.pairwise_map.mp hp.2
   exact h3.imp_of_mem fun ha hb hlt=>(uW (ok _ (aag _ ha)) (ok _ (aag _ hb))).mp hlt
 ·rintro ⟨h1,h2,ok⟩
  match l,h1 with
  | c::l,_ =>
   refine ⟨⟨c,rfl,gw.mpr (ok c (aad ..))⟩,List.pairwise_map.mpr ?_⟩
   exact h2.imp_of_mem fun ha hb hlt=>(uW (ok _ ha) (ok _ hb)).mpr hlt
theorem uY {zs:List Int}:EQ (.lst (zs.map D.int)) (.lst (ws.map D.int)):=by
 have h1:∀ zs:List Int,okDs (zs.map D.int)=true:=fun zs=>by induction zs with
  | nil=>rfl
  | cons a r ih=>simp only [List.map_cons,okDs,okD,ih,Bool.and_self]
 have h2:∀ zs:List Int,deps (toDVs (zs.map D.int))=0:=fun zs=>by induction zs with
  | nil=>rfl
  | cons a r ih=>simp only [List.map_cons,toDVs,qh,deps,dep,ih]; rfl
 exact ⟨by simp only [okD]; exact h1 zs,by simp only [okD]; exact h1 ws,by simp only [qh,dep,h2]; decide⟩
theorem yZ {zs:List Int}:dEq (.lst (zs.map D.int)) (.lst (ws.map D.int))=true↔zs=ws:=by
 unfold dEq
 simp only [qh,deq]
 induction zs generalizing ws with
 | nil=>cases ws <;> simp [toDVs,deqs]
 | cons a r ih =>
  cases ws with
  | nil=>simp [toDVs,deqs]
  | cons b s=>simp only [List.map_cons,toDVs,qh,deqs,deq,Bool.and_eq_true,beq_iff_eq,ih,List.cons.injEq]
theorem uZ :z = "" ↔ z.cps.toList.length=0:=by
 constructor
 ·intro h; rw [h]; decide +kernel
 ·intro h
  refine eX ?_
  rw [aar h]
  decide +kernel
section
variable {P:Program}  {K:Frag}  
abbrev mq:Stmt:=top 45
abbrev va:FS :=
  (ap (fIf (fOr (fQ (cj (fCB cIs (aa (ac 0) (aa (fC (.ty "str")) ag))))) (fOr (ax (fOp aEq (ac 0) (fC (.str "")))) (ax (fOp (fI (fun i j=>decide (j < i)) fun i j=>aQ j i) (fCB dY (aa (ac 0) ag)) (fC (.int 8))))))
   (bp (fC (.bl false)))
   az)
  (bp (fOp G6 (cV [] 1 (qo (ac 0)) (ad 0) (ax (fOp AE (ac 0) (fC (.str "abcdefghijklmnopqrstuvwxyz")))) (ac 0)) (fq ag))))
theorem vb:Lh ba 1 []:=by delta ba
theorem vc:Hh ba va [] 1:=by
 intro os P h
 unfold ba at h
 obtain ⟨d,rfl,sm,q⟩:=h
 have sz:=bH
 ext
 refine bo (∃ z:Str,d=.str z/\1<=z.cps.toList.length/\z.cps.toList.length<=8) ?_ ?_
 ·rintro ⟨z,rfl,h1,h8⟩
  ext
  refine bM (fun i as ρ=>∃ (x:Option OV),as.length<=i/\(as.isEmpty=true↔∀ c ∈ z.cps.toList.take i,97<=c/\c<=122)/\ρ=[x,some (.fz (.str z))]) ⟨none,aam _,by simp,rfl⟩ ?_ ?_
  ·rintro i d as ρ R hd ⟨x,hl,hb,rfl⟩ k
   obtain ⟨c,hc,rfl⟩:=iU hd
   have hi:=(List.getElem?_eq_some_iff.mp hc).1
   ext
   refine ah (¬ (97<=c/\c<=122)) (by rw [aak,decide_eq_false_iff_not]; exact not_congr iV) (fun hn=>?_) (fun hn=>?_)
   ·ext
    refine ⟨by nofun,k _ _ ⟨_,by rw [List.length_append]; show as.length+1<=i+1; nofun,?_,rfl⟩⟩
    rw [cW hc]
    exact ⟨fun h=>by simp at h,fun h=>absurd h.2 hn⟩
   ·refine k _ _ ⟨_,by nofun,?_,rfl⟩
    rw [cW hc,hb]
    exact ⟨fun h=>⟨h,Classical.not_not.mp hn⟩,fun h=>h.1⟩
  ·rintro as ρ ⟨x,hl,hb,rfl⟩
   rw [eu,aah (aac _)] at hb
   ext
   refine ⟨aam _,?_⟩
   ext
   exact q _ (hb.trans ⟨fun h=>(show a7 z from ⟨h1,h8,h⟩),fun h=>(show a7 z from h).2.2⟩)
 ·intro rest
  ext
  refine ⟨⟨gR sm,rfl⟩,?_⟩
  ext
  refine ah (¬ ∃ z,d=.str z) (by rw [aak,aas,Ne,fW]) (fun hn=>?_) (fun hn=>?_)
  ·ext
   refine dM ?_
   ext
   refine q false (eI fun h=>?_)
   cases d <;> first | exact absurd ⟨_,rfl⟩ hn | exact (h:False).elim
  ·obtain ⟨z,rfl⟩:∃ z,d=.str z:=Classical.not_not.mp hn
   have hz:z.length<=1000000:=by simpa [smD] using sm
   have hle:=jO z
   ext
   refine ⟨aM,?_⟩
   ext
   refine ah (z.cps.toList.length=0) (bi.trans uZ) (fun h0=>?_) (fun h0=>?_)
   ·ext
    refine dM ?_
    ext
    exact q false (eI fun h=>by have:=(show a7 z from h).1; nofun)
   ·ext
    refine ⟨by nofun,?_⟩
    ext
    refine ah ((8:Int) < z.length) decide_eq_true_iff (fun h8=>?_) (fun h8=>rest ⟨z,rfl,by nofun,by nofun⟩)
    ext
    exact q false (eI fun h=>by have:=(show a7 z from h).2.1; nofun)
theorem gx {P:OV->List OV->Prop}(sm:smD d=true)(h:∀ b:Bool,(b=true↔eN d)->P (.fz (.bl b)) [.fz d]):ba [.fz d] P:=by
 unfold ba
 exact ⟨d,rfl,sm,h⟩
@[irreducible] def bc:Ct:=fun os P=>∃ d:D,os=[.fz d]/\smD d=true/\∀ b:Bool,(b=true↔jN d)->P (.fz (.bl b)) os
abbrev jR:Stmt:=top 46
abbrev qO:FS :=
  (ap (bB (fC (.str " !\"#$&'()*+,-./0123456789:;<=>?\x40ABCDEFGHIJKLMNOPQRSTUVWXYZ[\\]^_`abcdefghijklmnopqrstuvwxyz{|}~")) (ad 1))
  (ap (fIf (fOr (fQ (cj (fCB cIs (aa (ac 0) (aa (fC (.ty "str")) ag))))) (fOr (ax (fOp aEq (ac 0) (fC (.str "")))) (ax (fOp (fI (fun i j=>decide (j < i)) fun i j=>aQ j i) (fCB dY (aa (ac 0) ag)) (fC (.int 40))))))
   (bp (fC (.bl false)))
   az)
  (ap (bB (cV [1] 1 (qo (ac 0)) (ad 0) mG (tY (ac 2) (ac 0))) (ad 2))
  (bp (gN (fOp (fI (fun i j=>decide (j<=i)) fun i j=>!aQ i j) (fOp aIx (ac 2) (fC (.int 0))) (fC (.int 0))) (fOp aEq (ac 2) (lT (ac 2))))))))
theorem qP:Lh bc 1 []:=by delta bc
theorem qQ:Hh bc qO [] 3:=by
 intro os P h
 unfold bc at h
 obtain ⟨d,rfl,sm,q⟩:=h
 have sz:=bH
 ext
 refine bo (∃ z:Str,d=.str z/\1<=z.cps.toList.length/\z.cps.toList.length<=40) ?_ ?_
 ·rintro ⟨z,rfl,h1,h8⟩
  ext
  refine bM (fun i as ρ=>∃ (x y:Option OV),as=((z.cps.toList.take i).map pd).map .int/\ρ=[x,some (.fz (.str z)),some (.fz (.str eM)),y]) ⟨none,_,by simp,rfl⟩ ?_ ?_
  ·rintro i d as ρ R hd ⟨x,y,rfl,rfl⟩ k
   obtain ⟨c,hc,rfl⟩:=iU hd
   have hi:=(List.getElem?_eq_some_iff.mp hc).1
   ext
   refine dM ?_
   ext
   refine ⟨by rw [List.length_map,List.length_map,aau]; nofun,k _ _ ⟨_,_,?_,rfl⟩⟩
   rw [List.take_succ,hc,aae,aae]
   rfl
  ·rintro as ρ ⟨x,y,rfl,rfl⟩
   rw [eu,aah (aac _)]
   have h0:z.cps.toList[0]?=some (z.cps.toList[0]'(by nofun)):=List.getElem?_eq_getElem (by nofun)
   have e0:atI ((z.cps.toList.map pd).map D.int) (0:Int)=some (.int (pd (z.cps.toList[0]'(by nofun)))):=by
    refine di (j:=0) ?_
    rw [List.getElem?_map,List.getElem?_map,h0]
    rfl
   have fin:∀ b:Bool,(b=true↔(∃ c,z.cps.toList[0]?=some c/\0<=pd c)/\(z.cps.toList.map pd).Pairwise (· < ·))->P (.fz (.bl b)) [.fz (.str z)]:=fun b hb =>
    q b (hb.trans (qM.trans ⟨fun h=>(show cP z from ⟨h1,h8,h.2⟩),fun h=>⟨h1,(show cP z from h).2.2⟩⟩))
   ext
   rw [e0]
   ext
   refine ah (0<=pd (z.cps.toList[0]'(by nofun))) decide_eq_true_iff (fun h2=>?_) (fun h2=>?_)
   ·ext
    refine C9 ?_
    refine ⟨by rw [List.length_map]; nofun,fun ss hss=>?_⟩
    ext
    refine ⟨uY,?_⟩
    ext
    refine fin _ (yZ.trans ((uX hss).trans ⟨fun h=>⟨⟨_,h0,h2⟩,h⟩,fun h=>h.2⟩))
   ·ext
    exact fin _ (eI fun ⟨⟨c,e,h⟩,_⟩=>by rw [h0] at e; cases e; exact h2 h)
 ·intro rest
  ext
  refine ⟨⟨gR sm,rfl⟩,?_⟩
  ext
  refine ah (¬ ∃ z,d=.str z) (by rw [aak,aas,Ne,fW]) (fun hn=>?_) (fun hn=>?_)
  ·ext
   refine dM ?_
   ext
   refine q false (eI fun h=>?_)
   cases d <;> first | exact absurd ⟨_,rfl⟩ hn | exact (h:False).elim
  ·obtain ⟨z,rfl⟩:∃ z,d=.str z:=Classical.not_not.mp hn
   have hz:z.length<=1000000:=by simpa [smD] using sm
   have hle:=jO z
   ext
   refine ⟨aM,?_⟩
   ext
   refine ah (z.cps.toList.length=0) (bi.trans uZ) (fun h0=>?_) (fun h0=>?_)
   ·ext
    refine dM ?_
    ext
    exact q false (eI fun h=>by have:=(show cP z from h).1; nofun)
   ·ext
    refine ⟨by nofun,?_⟩
    ext
    refine ah ((40:Int) < z.length) decide_eq_true_iff (fun h8=>?_) (fun h8=>rest ⟨z,rfl,by nofun,by nofun⟩)
    ext
    exact q false (eI fun h=>by have:=(show cP z from h).2.1; nofun)
theorem nu {P:OV->List OV->Prop}(sm:smD d=true)(h:∀ b:Bool,(b=true↔jN d)->P (.fz (.bl b)) [.fz d]):bc [.fz d] P:=by
 unfold bc
 exact ⟨d,rfl,sm,h⟩
end
@[irreducible] def bw:Ct:=fun os P=>∃ d:D,os=[.fz d]/\smD d=true/\∀ b:Bool,(b=true↔gQ d)->P (.fz (.bl b)) os
section
variable {P:Program}  {K:Frag}  
abbrev mr:Stmt:=top 47
abbrev vd:FS :=
  (ap (fIf (fOr (fQ (cj (fCB cIs (aa (ac 0) (aa (fC (.ty "tuple")) ag))))) (fOr (ax (fOp G6 (ac 0) (qi ag))) (fQ (cj (fCB cIs (aa (fOp aIx (ac 0) (fC (.int 0))) (aa (fC (.ty "str")) ag)))))))
   (bp (fC (.bl false)))
   az)
  (ap (fIf (fOr (ax (fOp aEq (fOp aIx (ac 0) (fC (.int 0))) (fC (.str "none")))) (ax (fOp aEq (fOp aIx (ac 0) (fC (.int 0))) (fC (.str "any")))))
   (bp (fOp aEq (fCB dY (aa (ac 0) ag)) (fC (.int 1))))
   az)
  (ap (fIf (ax (fOp aEq (fOp aIx (ac 0) (fC (.int 0))) (fC (.str "signs"))))
   (bp (gN (fOp aEq (fCB dY (aa (ac 0) ag)) (fC (.int 2))) (ak bc (aa (fFz (fOp aIx (ac 0) (fC (.int 1)))) ag))))
   az)
  (ap (bB (tZ [.inr "row", .inr "first", .inr "again", .inr "ahead", .inr "not"] [.int 8,.int 8,.int 1,.int 1,.int 1] (fOp aIx (ac 0) (fC (.int 0))) (fC (.int 0))) (ad 1))
  (ap (fIf (fOr (ax (fOp (fI (fun i j=>decide (i < j)) aQ) (fCB dY (aa (ac 0) ag)) (fC (.int 2)))) (ax (fOp (fI (fun i j=>decide (j < i)) fun i j=>aQ j i) (fCB dY (aa (ac 0) ag)) (fOp aY (ac 1) (fC (.int 1))))))
   (bp (fC (.bl false)))
   az)
  (bp (fOp G6 (cV [] 1 (wT (fSl dB (ac 0) (bh (fC (.int 1))) au)) (ad 0) (fQ (cj (ak ba (aa (fFz (ac 0)) ag)))) (ac 0)) (fq ag))))))))
theorem ve:Lh bw 1 []:=by delta bw
def qR (word:Str):Int:=if word = "row" ∨ word = "first" then 8 else if word = "again" ∨ word = "ahead" ∨ word = "not" then 1 else 0
theorem y1 :(xh [.inr "row", .inr "first", .inr "again", .inr "ahead", .inr "not"] [.int 8,.int 8,.int 1,.int 1,.int 1] (.inr word)).getD (.int 0)=.int (qR word):=by
 unfold xh qR
 simp only [List.zip_cons_cons,List.zip_nil_right,List.find?_cons]
 by_cases h1:word = "row"
 ·subst h1; rfl
 ·rw [decide_eq_false (fun z=>h1 (Sum.inr.inj z).symm)]
  by_cases h2:word = "first"
  ·subst h2; rfl
  ·rw [decide_eq_false (fun z=>h2 (Sum.inr.inj z).symm)]
   by_cases h3:word = "again"
   ·subst h3; rfl
   ·rw [decide_eq_false (fun z=>h3 (Sum.inr.inj z).symm)]
    by_cases h4:word = "ahead"
    ·subst h4; rfl
    ·rw [decide_eq_false (fun z=>h4 (Sum.inr.inj z).symm)]
     by_cases h5:word = "not"
     ·subst h5; rfl
     ·rw [decide_eq_false (fun z=>h5 (Sum.inr.inj z).symm),if_neg (by simp [h1,h2]),if_neg (by simp [h3,h4,h5])]
      rfl
theorem vf   (h1:¬ (word = "none" ∨ word = "any")) (h2:word ≠ "signs"):jj word xs↔1<=xs.length/\(xs.length:Int)<=qR word/\∀ x ∈ xs,eN x:=by
 unfold qR
 by_cases h4:word = "row" ∨ word = "first"
 ·rw [if_pos h4,kw h4]
  exact ⟨fun h=>⟨h.1,by nofun,h.2.2⟩,fun h=>⟨h.1,by nofun,h.2.2⟩⟩
 ·rw [if_neg h4]
  by_cases h3:word = "again" ∨ word = "ahead" ∨ word = "not"
  ·rw [if_pos h3,uy h3]
   constructor
   ·rintro ⟨x,rfl,h⟩
    refine ⟨aac _,by rw [aat]; decide,fun y hy=>?_⟩
    have e:y=x:=(by exists hy)
    rw [e]; exact h
   ·rintro ⟨g1,g2,g3⟩
    obtain ⟨x,rfl⟩:=List.length_eq_one_iff.mp (show xs.length=1 by nofun)
    exact ⟨x,rfl,g3 x (by simp)⟩
  ·rw [if_neg h3]
   exact ⟨fun h=>absurd h (uz h1 h2 h3 h4),fun h=>by have:=h.1; have:=h.2.1; nofun⟩
theorem vg:Hh bw vd [] 2:=by
 intro os P h
 unfold bw at h
 obtain ⟨d,rfl,sm,q⟩:=h
 have sz:=bH
 ext
 refine bo (∃ word xs,d=.tup (.str word::xs)) ?_ ?_
 ·rintro ⟨word,xs,rfl⟩
  obtain ⟨hl,hm⟩:=oS sm
  rw [List.length_cons] at hl
  have q':∀ b:Bool,(b=true↔jj word xs)->P (.fz (.bl b)) [.fz (.tup (.str word::xs))]:=fun b hb=>q b (hb.trans ku.symm)
  ext
  refine bo (¬ (word = "none" ∨ word = "any")) (fun h1=>?_) (fun rest=>?_)
  ·ext
   refine bd ?_
   ext
   refine fG ?_
   ext
   refine ⟨aM,?_⟩
   ext
   refine ah (word = "signs") bi (fun hw=>?_) (fun h2=>?_)
   ·ext
    refine ⟨aA,?_⟩
    ext
    refine ah (∃ x,xs=[x]) (aV.trans (by rw [List.length_cons]; exact nq)) (fun h=>?_) (fun h=>?_)
    ·obtain ⟨x,rfl⟩:=h
     ext
     refine nu (hm x (by simp)) fun b hb=>?_
     ext
     refine q' _ (hb.trans (Iff.trans ?_ (g7 hw).symm))
     exact ⟨fun h=>⟨x,rfl,h⟩,fun ⟨y,e,h⟩=>by cases e; exact h⟩
    ·ext
     exact q' _ (eI fun hh=>by obtain ⟨y,e,_⟩:=(g7 hw).mp hh; exact h ⟨y,e⟩)
   ·ext
    refine fG ?_
    ext
    refine ⟨rfl,?_⟩
    rw [y1]
    have fm:=vf (xs:=xs) h1 h2
    ext
    refine bo (1<=xs.length/\(xs.length:Int)<=qR word) ?_ ?_
    ·rintro ⟨g1,g2⟩
     have q2:∀ b:Bool,(b=true↔∀ x ∈ xs,eN x)->P (.fz (.bl b)) [.fz (.tup (.str word::xs))]:=fun b hb=>q' b (hb.trans ⟨fun h=>fm.mpr ⟨g1,g2,h⟩,fun h=>(fm.mp h).2.2⟩)
     ext
     rw [iX]
     ext
     refine bM (fun i as ρ=>∃ (x y:Option OV),as.length<=i/\(as.isEmpty=true↔∀ c ∈ xs.take i,eN c)/\ρ=[x,some (.fz (.tup (.str word::xs))),y]) ⟨none,_,aam _,by simp,rfl⟩ ?_ ?_
     ·rintro i d as ρ R hd ⟨x,y,hbl,hb,rfl⟩ k
      have hi:=(List.getElem?_eq_some_iff.mp hd).1
      ext
      refine gx (hm d (aag _ (List.mem_of_getElem? hd))) fun b hb2=>?_
      ext
      refine ah (¬ eN d) (by rw [← hb2]; cases b <;> simp) (fun hn=>?_) (fun hn=>?_)
      ·ext
       refine ⟨by nofun,k _ _ ⟨_,_,by rw [List.length_append]; show as.length+1<=i+1; nofun,?_,rfl⟩⟩
       rw [cW hd]
       exact ⟨fun h=>by simp at h,fun h=>absurd h.2 hn⟩
      ·refine k _ _ ⟨_,_,by nofun,?_,rfl⟩
       rw [cW hd,hb]
       exact ⟨fun h=>⟨h,Classical.not_not.mp hn⟩,fun h=>h.1⟩
     ·rintro as ρ ⟨x,y,hbl,hb,rfl⟩
      rw [aah (aac _)] at hb
      ext
      refine ⟨aam _,?_⟩
      ext
      exact q2 _ hb
    ·intro rest
     ext
     rw [List.length_cons]
     refine ah (((xs.length+1:Nat):Int) < 2) decide_eq_true_iff (fun g=>?_) (fun g=>?_)
     ·ext
      refine dM ?_
      ext
      exact q' _ (eI fun h=>by have:=(fm.mp h).1; nofun)
     ·ext
      rw [List.length_cons]
      refine ah (qR word+1 < ((xs.length+1:Nat):Int)) decide_eq_true_iff (fun g2=>?_) (fun g2=>rest ⟨by nofun,by nofun⟩)
      ext
      exact q' _ (eI fun h=>by have:=(fm.mp h).2.1; nofun)
  ·ext
   refine fG ?_
   ext
   refine ⟨aM,?_⟩
   ext
   refine ah (word = "none") bi (fun hw=>?_) (fun h1=>?_)
   ·ext
    refine dM ?_
    ext
    refine ⟨aA,?_⟩
    ext
    refine q' _ (aV.trans (Iff.trans ?_ (nk (.inl hw)).symm))
    exact ⟨fun h=>aar (by rw [List.length_cons] at h; nofun),fun h=>by rw [h]; rfl⟩
   ·ext
    refine fG ?_
    ext
    refine ⟨aM,?_⟩
    ext
    refine ah (word = "any") bi (fun hw=>?_) (fun h2=>rest (fun z=>z.elim h1 h2))
    ext
    refine ⟨aA,?_⟩
    ext
    refine q' _ (aV.trans (Iff.trans ?_ (nk (.inr hw)).symm))
    exact ⟨fun h=>aar (by rw [List.length_cons] at h; nofun),fun h=>by rw [h]; rfl⟩
 ·intro rest
  ext
  refine ⟨⟨gR sm,rfl⟩,?_⟩
  ext
  refine ah (¬ ∃ z,d=.tup z) (by rw [aak,aas,Ne,uA]) (fun hn=>?_) (fun hn=>?_)
  ·ext
   refine dM ?_
   ext
   exact q _ (eI fun ⟨word,r,e,_⟩=>hn ⟨_,e⟩)
  ·obtain ⟨xs,rfl⟩:∃ z,d=.tup z:=Classical.not_not.mp hn
   ext
   refine ⟨aam _,?_⟩
   ext
   refine ah (xs=[]) List.isEmpty_iff (fun h=>?_) (fun h=>?_)
   ·subst h
    ext
    refine dM ?_
    ext
    exact q _ (eI fun ⟨word,r,e,_⟩=>nomatch e)
   ·match xs,h with
    | x::xs,_ =>
     ext
     refine fG ?_
     ext
     refine ⟨⟨gR ((oS sm).2 x (by simp)),rfl⟩,?_⟩
     ext
     refine ah (¬ ∃ z,x=.str z) (by rw [aak,aas,Ne,fW]) (fun hn=>?_) (fun hn=>?_)
     ·ext
      refine q _ (eI fun ⟨word,r,e,_⟩=>?_)
      cases e
      exact hn ⟨_,rfl⟩
     ·obtain ⟨z,rfl⟩:∃ z,x=.str z:=Classical.not_not.mp hn
      exact rest ⟨z,xs,rfl⟩
theorem jS {P:OV->List OV->Prop}(sm:smD d=true)(h:∀ b:Bool,(b=true↔gQ d)->P (.fz (.bl b)) [.fz d]):bw [.fz d] P:=by
 unfold bw
 exact ⟨d,rfl,sm,h⟩
end
theorem gy (z:Str)(lo hi:Option Int):(cG z lo hi).length<=z.length:=by
 rw [af,af,cB]
 exact ik _ _ _
theorem y3 (zs:List Str)(k:Nat):((zs.take k).map (·.length)).sum<=(zs.map (·.length)).sum:=by
 have e:(zs.map (·.length)).sum=((zs.take k).map (·.length)).sum+((zs.drop k).map (·.length)).sum:=by
  rw [← aaQ,← aae,aaC]
 nofun
theorem pe (zs:List Str)(k:Nat):((zs.drop k).map (·.length)).sum<=(zs.map (·.length)).sum:=by
 have e:(zs.map (·.length)).sum=((zs.take k).map (·.length)).sum+((zs.drop k).map (·.length)).sum:=by
  rw [← aaQ,← aae,aaC]
 nofun
theorem vh (zs:List Str)(lo hi:Option Int):((cg zs lo hi).map (·.length)).sum<=(zs.map (·.length)).sum:=aaq (y3 _ _) (pe _ _)
theorem nv (zs:List Str)(k:Nat)(v:Str):((zs.set k v).map (·.length)).sum<=(zs.map (·.length)).sum+v.length:=by
 induction zs generalizing k with
 | nil=>exact aam _
 | cons a l ih =>
  cases k with
  | zero =>
   show v.length+(l.map (·.length)).sum<=a.length+(l.map (·.length)).sum+v.length
   nofun
  | succ k =>
   have:=ih k
   show a.length+((l.set k v).map (·.length)).sum<=a.length+(l.map (·.length)).sum+v.length
   nofun
theorem D2 (zs:List Str):((zs.reverse).map (·.length)).sum=(zs.map (·.length)).sum:=by
 rw [List.map_reverse,List.sum_reverse]
theorem pf (y:Str):∀ ps:List Str,(ps.map (·.length)).sum<=(Str.join y ps).length
 | []=>aam _
 | [p]=>aac _
 | p::q::r=>by
  have h2:=pf y (q::r)
  have h3:=congrArg List.length (bA y p q r)
  rw [List.length_append,List.length_append,← af,← af,← af,← af] at h3
  rw [List.map_cons,List.sum_cons]
  nofun
theorem fZ (z y:Str):((Txt.split z y).map (·.length)).sum<=z.length:=by
 have:=pf y (Txt.split z y)
 rwa [abn] at this
theorem i4 (z y:Str):1<=(Txt.split z y).length:=by
 unfold Txt.split
 split
 ·exact aac 1
 ·split
  ·exact aac 1
  ·rw [length_partsBetween]; nofun
theorem cH (y:Str)(ps:List Str):(Builtin.Str.glued y ps).length<=(ps.map (·.length)).sum+ps.length * y.length:=by
 rw [aai]
 exact aa3 _ _
theorem dD {i:Int}(h0:0<=i)(h:i < zs.length)(q:∀ z ∈ zs,Q (.str z)):match atI (zs.map D.str) i with
  | some d=>Q d
  | none=>False:=iL h0 (by rw [List.length_map]; exact h) fun d hd=>by
 obtain ⟨z,hz,rfl⟩:=List.mem_map.mp hd
 exact q z hz
theorem kJ (zs:List Str)(k:Nat)(v:Str):(zs.map D.str).set k (.str v)=(zs.set k v).map D.str:=List.map_set.symm
@[irreducible] def bK:Ct:=fun os P=>∃ (b0 b1 b2 n:Int),os=[bC b0 b1 b2]/\BagB b1 b2 n/\n < 2 ^ 38/\∀ (c:Nat) (b0' b1' b2':Int),BagB b1' b2' (n+1)->P (.fz (.str ⟨#[c]⟩)) [bC b0' b1' b2']
@[irreducible] def aJ:Ct:=fun os P=>∃ (b0 b1 b2 n:Int) (z:Str),os=[bC b0 b1 b2,.fz (.str z)]/\BagB b1 b2 n/\n < 2 ^ 37/\z.length<=120000/\∀ (y:Str) (b0' b1' b2':Int),y.length<=3 * z.length+20->BagB b1' b2' (n+10)->P (.fz (.str y)) [bC b0' b1' b2',.fz (.str z)]
@[irreducible] def aE:Ct:=fun os P=>∃ (b0 b1 b2 n:Int) (z:Str),os=[bC b0 b1 b2,.fz (.str z)]/\BagB b1 b2 n/\n < 2 ^ 37/\z.length<=120000/\∀ (y:Str) (b0' b1' b2':Int),y.length<=3 * z.length+20->BagB b1' b2' (n+10)->P (.fz (.str y)) [bC b0' b1' b2',.fz (.str z)]
@[irreducible] def aG:Ct:=fun os P=>∃ (b0 b1 b2 n:Int) (z:Str),os=[bC b0 b1 b2,.fz (.str z)]/\BagB b1 b2 n/\n < 2 ^ 37/\z.length<=120000/\∀ (y:Str) (b0' b1' b2':Int),y.length<=sizeLine->BagB b1' b2' (n+10)->P (.fz (.str y)) [bC b0' b1' b2',.fz (.str z)]
section
variable {P:Program}  {K:Frag}  
abbrev AX:Stmt:=top 44
abbrev HE:FS :=
  (ap (bB (fC (.str "abcdefghijklmnopqrstuvwxyzABCDEFGHIJKLMNOPQRSTUVWXYZ0123456789")) (ad 1))
  (ap (bB (fOp aY (ac 1) (fC (.str " !\"#$&'()*+,-./:;<=>?\x40[\\]^_`{|}~\n\t"))) (ad 1))
  (bp (fOp aIx (ac 1) (ak ae (aa (ac 0) (aa (fC (.int 96)) ag)))))))
theorem HF:Lh bK 1 [0]:=by delta bK
abbrev sgA:Str := "abcdefghijklmnopqrstuvwxyzABCDEFGHIJKLMNOPQRSTUVWXYZ0123456789"
abbrev sgB:Str := " !\"#$&'()*+,-./:;<=>?\x40[\\]^_`{|}~\n\t"
theorem HG:(sgA++sgB).cps.toList.length=96:=by decide +kernel
theorem HH:Hh bK HE [0] 2:=by
 intro os P h
 unfold bK at h
 obtain ⟨b0,b1,b2,n,rfl,hb,hn,q⟩:=h
 have sz:=bH
 ext
 refine ⟨by decide +kernel,?_⟩
 ext
 refine aq n hb (by nofun) (by decide) (by decide) fun r b0 b1 b2 r0 r1 hb1=>?_
 ext
 refine ⟨by decide +kernel,?_⟩
 refine fF r0 (by rw [show (Str.ofString "abcdefghijklmnopqrstuvwxyzABCDEFGHIJKLMNOPQRSTUVWXYZ0123456789" ++ Str.ofString " !\"#$&'()*+,-./:;<=>?\x40[\\]^_`{|}~\n\t").cps.toList.length=96 from HG]; exact r1) fun c _=>?_
 ext
 exact q _ _ _ _ hb1
theorem kK (n:Int){P:OV->List OV->Prop}(hb:BagB b1 b2 n)(hn:n < 2 ^ 38)(h:∀ (c:Nat) (b0' b1' b2':Int),BagB b1' b2' (n+1)->P (.fz (.str ⟨#[c]⟩)) [bC b0' b1' b2']):bK [bC b0 b1 b2] P:=by
 unfold bK
 exact ⟨b0,b1,b2,n,rfl,hb,hn,h⟩
theorem eE (c:Nat):(⟨#[c]⟩:Str).length=1:=rfl
abbrev vi:Stmt:=top 53
abbrev D3:FS :=
  (ap (bB (ak ae (aa (ac 0) (aa (fC (.int 6)) ag))) (ad 2))
  (ap (bB (ak ae (aa (ac 0) (aa (fFz (fOp aY (fCB dY (aa (ac 1) ag)) (fC (.int 1)))) ag))) (ad 3))
  (ap (fIf (ax (fOp aEq (ac 2) (fC (.int 0))))
   (bp (fOp aY (fOp aY (fSl dB (ac 1) au (bh (ac 3))) (ak bK (aa (ac 0) ag))) (fSl dB (ac 1) (bh (ac 3)) au)))
   az)
  (ap (fIf (ax (fOp aEq (ac 2) (fC (.int 1))))
   (bp (fOp aY (fSl dB (ac 1) au (bh (ac 3))) (fSl dB (ac 1) (bh (fOp aY (ac 3) (fC (.int 1)))) au)))
   az)
  (ap (fIf (ax (fOp aEq (ac 2) (fC (.int 2))))
   (bp (fOp aY (fOp aY (fSl dB (ac 1) au (bh (ac 3))) (ak bK (aa (ac 0) ag))) (fSl dB (ac 1) (bh (fOp aY (ac 3) (fC (.int 1)))) au)))
   az)
  (ap (fIf (ax (fOp aEq (ac 2) (fC (.int 3))))
   (bp (fOp aY (fOp aY (fSl dB (ac 1) au (bh (ac 3))) (fRv (fSl dB (ac 1) (bh (ac 3)) (bh (fOp aY (ac 3) (fC (.int 2))))))) (fSl dB (ac 1) (bh (fOp aY (ac 3) (fC (.int 2)))) au)))
   az)
  (bp (fOp aY (fOp aY (fSl dB (ac 1) au (bh (ac 3))) (fOp aIx (fC (.str " ;")) (fOp (aI0 fun i j=>.int (i - j)) (ac 2) (fC (.int 4))))) (fSl dB (ac 1) (bh (ac 3)) au)))))))))
theorem D4:Lh aJ 2 [0]:=by delta aJ
theorem D5 (z:Str):(Im z).length=z.length:=by
 rw [af,af]
 show z.cps.toList.reverse.toArray.toList.length=_
 rw [abG,abm]
theorem D6:Hh aJ D3 [0] 4:=by
 intro os P h
 unfold aJ at h
 obtain ⟨b0,b1,b2,n,z,rfl,hb,hn,hz,q⟩:=h
 have sz:=bH
 have cl:∀ lo hi,(cG z lo hi).length<=z.length:=gy z
 ext
 refine aq n hb (by nofun) (by decide) (by decide) fun way b0 b1 b2 w0 w1 hb1=>?_
 ext
 refine ⟨by nofun,?_⟩
 ext
 refine aq (n+1) hb1 (by nofun) (by nofun) (by nofun) fun a b0 b1 b2 a0 a1 hb2=>?_
 ext
 refine bd ?_
 ext
 refine ⟨aA,?_⟩
 ext
 refine ah (way=0) aV (fun _=>?_) (fun n0=>?_)
 ·have c1:=cl none (some a)
  have c2:=cl (some a) none
  ext
  refine ⟨by nofun,?_⟩
  ext
  refine kK (n+1+1) hb2 (by nofun) fun c b0 b1 b2 hb3=>?_
  have c3:=eE c
  ext
  refine ⟨by nofun,?_⟩
  ext
  refine ⟨by nofun,?_⟩
  ext
  refine ⟨by rw [av]; nofun,?_⟩
  ext
  exact q _ _ _ _ (by rw [av,av]; nofun) (hb3.mono (by nofun))
 ext
 refine bd ?_
 ext
 refine ⟨aA,?_⟩
 ext
 refine ah (way=1) aV (fun _=>?_) (fun n1=>?_)
 ·have c1:=cl none (some a)
  have c2:=cl (some (a+1)) none
  ext
  refine ⟨by nofun,?_⟩
  ext
  refine ⟨by nofun,?_⟩
  ext
  refine ⟨by nofun,?_⟩
  ext
  exact q _ _ _ _ (by rw [av]; nofun) (hb2.mono (by nofun))
 ext
 refine bd ?_
 ext
 refine ⟨aA,?_⟩
 ext
 refine ah (way=2) aV (fun _=>?_) (fun n2=>?_)
 ·have c1:=cl none (some a)
  have c2:=cl (some (a+1)) none
  ext
  refine ⟨by nofun,?_⟩
  ext
  refine kK (n+1+1) hb2 (by nofun) fun c b0 b1 b2 hb3=>?_
  have c3:=eE c
  ext
  refine ⟨by nofun,?_⟩
  ext
  refine ⟨by nofun,?_⟩
  ext
  refine ⟨by rw [av]; nofun,?_⟩
  ext
  exact q _ _ _ _ (by rw [av,av]; nofun) (hb3.mono (by nofun))
 ext
 refine bd ?_
 ext
 refine ⟨aA,?_⟩
 ext
 refine ah (way=3) aV (fun _=>?_) (fun n3=>?_)
 ·have c1:=cl none (some a)
  have c2:=cl (some a) (some (a+2))
  have c3:=D5 (cG z (some a) (some (a+2)))
  have c4:=cl (some (a+2)) none
  ext
  refine ⟨by nofun,?_⟩
  ext
  refine ⟨by nofun,?_⟩
  ext
  refine ⟨by nofun,?_⟩
  ext
  refine ⟨by nofun,?_⟩
  ext
  refine ⟨by nofun,?_⟩
  ext
  refine ⟨by rw [av]; nofun,?_⟩
  ext
  exact q _ _ _ _ (by rw [av,av]; nofun) (hb2.mono (by nofun))
 ·have c1:=cl none (some a)
  have c2:=cl (some a) none
  ext
  refine ⟨by nofun,?_⟩
  ext
  refine ⟨by decide +kernel,?_⟩
  refine fF (by nofun) (by rw [show (Str.ofString " ;").cps.toList.length=2 from by decide +kernel]; nofun) fun c _=>?_
  have c3:=eE c
  ext
  refine ⟨by nofun,?_⟩
  ext
  refine ⟨by nofun,?_⟩
  ext
  refine ⟨by rw [av]; nofun,?_⟩
  ext
  exact q _ _ _ _ (by rw [av,av]; nofun) (hb2.mono (by nofun))
theorem y4 (n:Int){P:OV->List OV->Prop}(hb:BagB b1 b2 n)(hn:n < 2 ^ 37)(hz:z.length<=120000)(h:∀ (y:Str) (b0' b1' b2':Int),y.length<=3 * z.length+20->BagB b1' b2' (n+10)->P (.fz (.str y)) [bC b0' b1' b2',.fz (.str z)]):aJ [bC b0 b1 b2,.fz (.str z)] P:=by
 unfold aJ
 exact ⟨b0,b1,b2,n,z,rfl,hb,hn,hz,h⟩
end
theorem ms (y:Str):∀ ps:List Str,(ps.map (·.length)).sum+ps.length * y.length<=(Str.join y ps).length+y.length
 | []=>by show 0+0 * y.length<=_; nofun
 | [p]=>by show p.length+0+1 * y.length<=p.length+y.length; nofun
 | p::q::r=>by
  have h2:=ms y (q::r)
  have h3:=congrArg List.length (bA y p q r)
  rw [List.length_append,List.length_append,← af,← af,← af,← af] at h3
  rw [List.map_cons,List.sum_cons,List.length_cons,Nat.succ_mul]
  nofun
theorem qS (z y:Str):((Txt.split z y).map (·.length)).sum+(Txt.split z y).length * y.length<=z.length+y.length:=by
 have:=ms y (Txt.split z y)
 rwa [abn] at this
theorem vj (xs:List α)(h:0<=a):(cg xs (some a) (some (a+1))).length<=1:=by
 obtain ⟨k,rfl⟩:=aaV h
 have e:cg xs (some (k:Int)) (some ((k:Int)+1))=_:=xx xs k (k+1)
 rw [e,aau,List.length_drop]
 nofun
theorem ph:1<=sizeLine:=by rw [bH]; decide
theorem vk:(Str.ofString "  ").length=2:=by decide +kernel
section
variable {P:Program}  {K:Frag}  
abbrev vm:Stmt:=top 56
abbrev D7:FS :=
  (ap (bB (fT1 eT (ac 1) (fC (.str " "))) (ad 2))
  (ap (bB (ak ae (aa (ac 0) (aa (fC (.int 4)) ag))) (ad 3))
  (ap (bB (ak ae (aa (ac 0) (aa (fFz (fCB dY (aa (ac 2) ag))) ag))) (ad 4))
  (ap (bB (ak ae (aa (ac 0) (aa (fFz (fCB dY (aa (ac 2) ag))) ag))) (ad 5))
  (ap (bB (fq (aa (fC (.str "none")) (aa (fC (.str "any")) (aa (fC (.str "signs")) (aa (fC (.str "row")) (aa (fC (.str "first")) (aa (fC (.str "again")) (aa (fC (.str "ahead")) (aa (fC (.str "not")) (aa (fC (.str "=")) (aa (fC (.str "a")) (aa (fC (.str "zz")) (aa (fC (.str "abcdefghi")) (aa (fC (.str "Row")) ag)))))))))))))) (ad 6))
  (ap (bB (fOp aY (ac 6) (fq (aa (fC (.str "")) (aa (fC (.str ";")) ag)))) (ad 6))
  (ap (bB (fSl dB (ac 2) (bh (ac 5)) (bh (fOp aY (ac 5) (fC (.int 1))))) (ad 7))
  (ap (fIf (ax (fOp aEq (ac 3) (fC (.int 0))))
   (bB (fq ag) (ad 7))
   az)
  (ap (fIf (ax (fOp aEq (ac 3) (fC (.int 1))))
   (bB (fOp aY (fSl dB (ac 2) (bh (ac 4)) (bh (fOp aY (ac 4) (fC (.int 1))))) (fSl dB (ac 2) (bh (ac 4)) (bh (fOp aY (ac 4) (fC (.int 1)))))) (ad 7))
   az)
  (ap (fIf (ax (fOp aEq (ac 3) (fC (.int 2))))
   (bB (fq (aa (fOp aIx (ac 6) (ak ae (aa (ac 0) (aa (fC (.int 15)) ag)))) ag)) (ad 7))
   az)
  (bp (gP (fC (.str " ")) (fOp aY (fOp aY (fSl dB (ac 2) au (bh (ac 4))) (ac 7)) (fSl dB (ac 2) (bh (fOp aY (ac 4) (fC (.int 1)))) au))))))))))))))
theorem D8:Lh aE 2 [0]:=by delta aE
abbrev ny:List Str:=["none", "any", "signs", "row", "first", "again", "ahead", "not", "=", "a", "zz", "abcdefghi", "Row", "", ";"]
theorem y6:∀ z ∈ ny,z.length<=9:=by decide +kernel
theorem D9:Hh aE D7 [0] 8:=by
 intro os P h
 unfold aE at h
 obtain ⟨b0,b1,b2,n,z,rfl,hb,hn,hz,q⟩:=h
 have sz:=bH
 have hc:=bZ z (Str.ofString " ")
 have hp:=i4 z (Str.ofString " ")
 have hs:=fZ z (Str.ofString " ")
 have hf:=qS z (Str.ofString " ")
 rw [iZ,Nat.mul_one] at hf
 have hsp:=iZ
 ext
 refine ⟨⟨by decide +kernel,by nofun⟩,?_⟩
 generalize hW:Txt.split z (Str.ofString " ")=W at hc hp hs hf
 have cl:∀ lo hi,(cg W lo hi).length<=W.length:=ik W
 have cs:∀ lo hi,((cg W lo hi).map (·.length)).sum<=(W.map (·.length)).sum:=vh W
 ext
 refine aq n hb (by nofun) (by decide) (by decide) fun way b0 b1 b2 w0 w1 hb1=>?_
 ext
 rw [List.length_map]
 refine aq (n+1) hb1 (by nofun) (by nofun) (by nofun) fun a b0 b1 b2 a0 a1 hb2=>?_
 ext
 rw [List.length_map]
 refine aq (n+1+1) hb2 (by nofun) (by nofun) (by nofun) fun oth b0 b1 b2 o0 o1 hb3=>?_
 ext
 refine ⟨by show 13<=sizeLine; nofun,?_⟩
 ext
 refine ⟨by show 2<=sizeLine; nofun,?_⟩
 ext
 refine ⟨by show 13+2<=sizeLine; nofun,?_⟩
 ext
 rw [cD]
 have base:∃ (B:List Str),cg W (some oth) (some (oth+1))=B/\B.length<=1/\(B.map (·.length)).sum<=z.length:=⟨_,rfl,vj W o0,aaq (cs _ _) hs⟩
 obtain ⟨B,eB,hBl,hBs⟩:=base
 rw [eB]
 have eS:∀ c0 c1 c2:Int,∀ B:List Str,B.length<=2->(B.map (·.length)).sum<=2 * z.length+9->BagB c1 c2 (n+4)->∃ (B':List Str) (b0 b1 b2:Int),B'.length<=2/\(B'.map (·.length)).sum<=2 * z.length+9/\BagB b1 b2 (n+4)/\([some (bC c0 c1 c2),some (.fz (.str z)),some (.fz (.lst (W.map .str))),some (.fz (.int way)),some (.fz (.int a)),some (.fz (.int oth)),some (.fz (.lst (ny.map .str))),some (.fz (.lst (B.map .str)))]:FSt)=[some (bC b0 b1 b2),some (.fz (.str z)),some (.fz (.lst (W.map .str))),some (.fz (.int way)),some (.fz (.int a)),some (.fz (.int oth)),some (.fz (.lst (ny.map .str))),some (.fz (.lst (B'.map .str)))]:=fun c0 c1 c2 B h1 h2 h3=>⟨B,c0,c1,c2,h1,h2,h3,rfl⟩
 ext
 refine gr (fun ρ=>∃ (B:List Str) (b0 b1 b2:Int),B.length<=2/\(B.map (·.length)).sum<=2 * z.length+9/\BagB b1 b2 (n+4)/\ρ=[some (bC b0 b1 b2),some (.fz (.str z)),some (.fz (.lst (W.map .str))),some (.fz (.int way)),some (.fz (.int a)),some (.fz (.int oth)),some (.fz (.lst (ny.map .str))),some (.fz (.lst (B.map .str)))]) ?_ ?_
 ·rintro ρ ⟨B,c0,c1,c2,hBl,hBs,hb4,rfl⟩
  ext
  refine gr (fun ρ=>∃ (B:List Str) (b0 b1 b2:Int),B.length<=2/\(B.map (·.length)).sum<=2 * z.length+9/\BagB b1 b2 (n+4)/\ρ=[some (bC b0 b1 b2),some (.fz (.str z)),some (.fz (.lst (W.map .str))),some (.fz (.int way)),some (.fz (.int a)),some (.fz (.int oth)),some (.fz (.lst (ny.map .str))),some (.fz (.lst (B.map .str)))]) ?_ ?_
  ·rintro ρ ⟨B,c0,c1,c2,hBl,hBs,hb4,rfl⟩
   ext
   refine gr (fun ρ=>∃ (B:List Str) (b0 b1 b2:Int),B.length<=2/\(B.map (·.length)).sum<=2 * z.length+9/\BagB b1 b2 (n+5)/\ρ=[some (bC b0 b1 b2),some (.fz (.str z)),some (.fz (.lst (W.map .str))),some (.fz (.int way)),some (.fz (.int a)),some (.fz (.int oth)),some (.fz (.lst (ny.map .str))),some (.fz (.lst (B.map .str)))]) ?_ ?_
   ·rintro ρ ⟨B,c0,c1,c2,hBl,hBs,hb5,rfl⟩
    have k1:(cg W none (some a)).length+(cg W (some (a+1)) none).length<=W.length/\((cg W none (some a)).map (·.length)).sum+((cg W (some (a+1)) none).map (·.length)).sum<=(W.map (·.length)).sum:=by
     obtain ⟨k,rfl⟩:=aaV a0
     have e1:=il W k
     have e2:=db W (k+1)
     have e3:=pe (W.drop k) 1
     rw [abg] at e3
     have e4:(W.map (·.length)).sum=((W.take k).map (·.length)).sum+((W.drop k).map (·.length)).sum:=by
      rw [← aaQ,← aae,aaC]
     have e2':cg W (some ((k:Int)+1)) none=W.drop (k+1):=e2
     rw [e1,e2']
     refine ⟨?_,by nofun⟩
     rw [aau,List.length_drop]
     nofun
    generalize hX:cg W none (some a)=X1 at k1
    generalize hY:cg W (some (a+1)) none=X2 at k1
    ext
    rw [cD,hX]
    ext
    refine ⟨by rw [List.length_map,List.length_map]; nofun,?_⟩
    rw [← aae]
    ext
    rw [cD,hY]
    ext
    refine ⟨by rw [List.length_map,List.length_map,List.length_append]; nofun,?_⟩
    rw [← aae]
    have t1:((X1++B++X2).map (·.length)).sum=(X1.map (·.length)).sum+(B.map (·.length)).sum+(X2.map (·.length)).sum:=by
     rw [aae,aae,aaQ,aaQ]
    have t2:(X1++B++X2).length=X1.length+B.length+X2.length:=by
     rw [List.length_append,List.length_append]
    have t3:=cH (Str.ofString " ") (X1++B++X2)
    refine cA ⟨by rw [hsp,Nat.mul_one]; nofun,?_⟩
    ext
    refine q _ _ _ _ ?_ (hb5.mono (by nofun))
    rw [hsp,Nat.mul_one] at t3
    nofun
   ·intro rest
    ext
    refine ⟨aA,?_⟩
    ext
    refine ah (way=2) aV (fun _=>?_) (fun _=>?_)
    ·ext
     refine aq (n+4) hb4 (by nofun) (by decide) (by decide) fun r b0 b1 b2 r0 r1 hb5=>?_
     ext
     refine dD (zs:=ny) r0 (by show r < 15; exact r1) fun y hy=>?_
     ext
     refine ⟨ph,?_⟩
     have hy9:=y6 y hy
     exact rest _ ⟨[y],b0,b1,b2,by decide +revert,by show y.length+0<=_; nofun,hb5.mono (by nofun),rfl⟩
    ·exact rest _ ⟨B,c0,c1,c2,hBl,hBs,hb4.mono (by nofun),rfl⟩
  ·intro rest
   ext
   refine ⟨aA,?_⟩
   ext
   refine ah (way=1) aV (fun _=>?_) (fun _=>?_)
   ·have ca:=vj W a0
    have cb:=cs (some a) (some (a+1))
    ext
    rw [cD]
    ext
    refine ⟨by rw [List.length_map]; nofun,?_⟩
    rw [← aae]
    exact rest _ (eS _ _ _ (cg W (some a) (some (a+1))++cg W (some a) (some (a+1))) (by rw [List.length_append]; nofun) (by rw [aae,aaQ]; nofun) hb4)
   ·exact rest _ (eS _ _ _ B hBl hBs hb4)
 ·intro rest
  ext
  refine ⟨aA,?_⟩
  ext
  refine ah (way=0) aV (fun _=>?_) (fun _=>?_)
  ·ext
   refine ⟨aam _,?_⟩
   exact rest _ (eS _ _ _ [] (aam _) (aam _) (hb3.mono (by nofun)))
  ·exact rest _ (eS _ _ _ B (by nofun) (by nofun) (hb3.mono (by nofun)))
theorem za (n:Int){P:OV->List OV->Prop}(hb:BagB b1 b2 n)(hn:n < 2 ^ 37)(hz:z.length<=120000)(h:∀ (y:Str) (b0' b1' b2':Int),y.length<=3 * z.length+20->BagB b1' b2' (n+10)->P (.fz (.str y)) [bC b0' b1' b2',.fz (.str z)]):aE [bC b0 b1 b2,.fz (.str z)] P:=by
 unfold aE
 exact ⟨b0,b1,b2,n,z,rfl,hb,hn,hz,h⟩
abbrev vn:Stmt:=top 54
abbrev Ea:FS :=
  (ap (bB (ak ae (aa (ac 0) (aa (fC (.int 4)) ag))) (ad 2))
  (ap (gO 3 (fT1 eT (ac 1) (fC (.str " "))))
  (ap (bB (ak ae (aa (ac 0) (aa (fFz (fCB dY (aa (ac 3) ag))) ag))) (ad 4))
  (ap (bB (ak ae (aa (ac 0) (aa (fFz (fOp aY (fCB dY (aa (ac 1) ag)) (fC (.int 1)))) ag))) (ad 5))
  (ap (fIf (ax (fOp aEq (ac 2) (fC (.int 0))))
   (ap (iC 3 (fT0 uc (fOp aIx (ac 3) (ac 4))) (ac 4))
  (bp (gP (fC (.str " ")) (ac 3))))
   az)
  (ap (fIf (ax (fOp aEq (ac 2) (fC (.int 1))))
   (bp (fOp aY (fOp aY (fSl dB (ac 1) au (bh (ac 5))) (fOp ni (ak bK (aa (ac 0) ag)) (fOp aY (fC (.int 1)) (ak ae (aa (ac 0) (aa (fC (.int 40)) ag)))))) (fSl dB (ac 1) (bh (ac 5)) au)))
   az)
  (ap (fIf (ax (fOp aEq (ac 2) (fC (.int 2))))
   (bp (gP (fC (.str "; ")) (fRv (fT1 eT (ac 1) (fC (.str "; "))))))
   az)
  (bp (He " " "  " (ac 1))))))))))
theorem Eb:Lh aG 2 [0]:=by delta aG
theorem Ec (hz:z.length<=120000):(Txt.replace z (Str.ofString " ") (Str.ofString "  ")).length<=sizeLine:=by
 have sz:=bH
 unfold Txt.replace
 split
 ·nofun
 ·exact fits_replaced _ (by rw [vk]; nofun)
theorem Ed:Hh aG Ea [0] 6:=by
 intro os P h
 unfold aG at h
 obtain ⟨b0,b1,b2,n,z,rfl,hb,hn,hz,q⟩:=h
 have sz:=bH
 have hc:=bZ z (Str.ofString " ")
 have hp:=i4 z (Str.ofString " ")
 have hs:=fZ z (Str.ofString " ")
 have hsp:=iZ
 have cl:∀ lo hi,(cG z lo hi).length<=z.length:=gy z
 ext
 refine aq n hb (by nofun) (by decide) (by decide) fun way b0 b1 b2 w0 w1 hb1=>?_
 ext
 refine ⟨⟨by decide +kernel,by nofun⟩,?_⟩
 generalize hW:Txt.split z (Str.ofString " ")=W at hc hp hs
 have hWp:∀ y ∈ W,y.length<=z.length:=fun y hy=>dg (y:=Str.ofString " ") (by rw [hW]; exact hy)
 ext
 rw [List.length_map]
 refine aq (n+1) hb1 (by nofun) (by nofun) (by nofun) fun a b0 b1 b2 a0 a1 hb2=>?_
 ext
 refine ⟨by nofun,?_⟩
 ext
 refine aq (n+1+1) hb2 (by nofun) (by nofun) (by nofun) fun pl b0 b1 b2 p0 p1 hb3=>?_
 ext
 refine bd ?_
 ext
 refine ⟨aA,?_⟩
 ext
 refine ah (way=0) aV (fun _=>?_) (fun n0=>?_)
 ·ext
  refine dD (zs:=W) a0 a1 fun y hy=>?_
  have hyl:=hWp y hy
  have hu:=PyProof.Rows.len_upper y
  ext
  refine ⟨PyProof.Rows.fit_upper (by nofun),?_⟩
  have x1:ixN (W.map D.str).length a=some a.toNat:=by unfold ixN; rw [if_pos a0,if_pos (by rw [List.length_map]; exact a1)]
  ext
  refine ⟨rfl,?_⟩
  ext
  rw [x1]
  ext
  rw [kJ]
  have t1:=nv W a.toNat (Txt.upper y)
  have t2:=cH (Str.ofString " ") (W.set a.toNat (Txt.upper y))
  rw [aaD,hsp,Nat.mul_one] at t2
  refine cA ⟨by rw [aaD,hsp,Nat.mul_one]; nofun,?_⟩
  ext
  exact q _ _ _ _ (by nofun) (hb3.mono (by nofun))
 ext
 refine bd ?_
 ext
 refine ⟨aA,?_⟩
 ext
 refine ah (way=1) aV (fun _=>?_) (fun n1=>?_)
 ·have c1:=cl none (some pl)
  have c2:=cl (some pl) none
  ext
  refine ⟨by nofun,?_⟩
  ext
  refine kK (n+1+1+1) hb3 (by nofun) fun c b0 b1 b2 hb4=>?_
  have c3:=eE c
  ext
  refine aq (n+1+1+1+1) hb4 (by nofun) (by decide) (by decide) fun r b0 b1 b2 r0 r1 hb5=>?_
  have c4:=gu ⟨#[c]⟩ (1+r)
  rw [c3,Nat.one_mul] at c4
  ext
  refine ⟨⟨by nofun,by nofun,by rw [c3]; nofun⟩,?_⟩
  ext
  refine ⟨by nofun,?_⟩
  ext
  refine ⟨by nofun,?_⟩
  ext
  refine ⟨by rw [av]; nofun,?_⟩
  ext
  exact q _ _ _ _ (by rw [av,av]; nofun) (hb5.mono (by nofun))
 ext
 refine bd ?_
 ext
 refine ⟨aA,?_⟩
 ext
 refine ah (way=2) aV (fun _=>?_) (fun n2=>?_)
 ·have d1:=bZ z (Str.ofString "; ")
  have d2:=fZ z (Str.ofString "; ")
  have d3:=eU
  ext
  refine ⟨⟨by decide +kernel,by nofun⟩,?_⟩
  generalize Txt.split z (Str.ofString "; ")=V at d1 d2
  ext
  rw [← List.map_reverse]
  have d4:=D2 V
  have d5:=cH (Str.ofString "; ") V.reverse
  rw [abm,d3] at d5
  refine cA ⟨by rw [abm,d3]; nofun,?_⟩
  ext
  exact q _ _ _ _ (by nofun) (hb3.mono (by nofun))
 ·ext
  refine ⟨by rw [vk]; nofun,?_⟩
  ext
  exact q _ _ _ _ (Ec hz) (hb3.mono (by nofun))
theorem zb (n:Int){P:OV->List OV->Prop}(hb:BagB b1 b2 n)(hn:n < 2 ^ 37)(hz:z.length<=120000)(h:∀ (y:Str) (b0' b1' b2':Int),y.length<=sizeLine->BagB b1' b2' (n+10)->P (.fz (.str y)) [bC b0' b1' b2',.fz (.str z)]):aG [bC b0 b1 b2,.fz (.str z)] P:=by
 unfold aG
 exact ⟨b0,b1,b2,n,z,rfl,hb,hn,hz,h⟩
end
theorem jT (s a x:Str)(l:List Str):Builtin.Str.glued s ((a::l)++[x])=Builtin.Str.glued s (a::l)++s++x:=by
 apply ai
 rw [aN,aN]
 show ((((a::l)++[x]).drop 1).foldl (fun acc p=>acc++s.cps++p.cps) a.cps).toList=(((a::l).drop 1).foldl (fun acc p=>acc++s.cps++p.cps) a.cps).toList++_++_
 show ((l++[x]).foldl (fun acc p=>acc++s.cps++p.cps) a.cps).toList=(l.foldl (fun acc p=>acc++s.cps++p.cps) a.cps).toList++_++_
 rw [List.foldl_append,abH,List.foldl_nil,abJ,abJ]
theorem zc {rest:List Str}(h:aT word rest)(i:Nat):(Builtin.Str.glued (Str.ofString " ") (word::rest.take i)).length<=100:=by
 have e:Builtin.Str.glued (Str.ofString " ") (word::rest.take i)=Str.join (Str.ofString " ") (word::rest.take i):=aai _ _
 rw [e]
 have h1:=aa3 (Str.ofString " ") (word::rest.take i)
 rw [iZ] at h1
 have hp:=i2 h
 rw [List.map_cons,List.sum_cons,List.length_cons] at h1 hp
 have hs:((rest.take i).map (·.length)).sum<=(rest.map (·.length)).sum:=by
  have e2:(rest.map (·.length)).sum=((rest.take i).map (·.length)).sum+((rest.drop i).map (·.length)).sum:=by
   rw [← aaQ,← aae,aaC]
  nofun
 have hl:(rest.take i).length<=rest.length:=by rw [aau]; nofun
 nofun
@[irreducible] def aO:Ct:=fun os P=>∃ (word:Str) (rest:List Str),os=[.fz (ci word rest)]/\aT word rest/\P (.fz (.str (bf word rest))) os
def qT (y:Str):List Str->List Nat
 | []=>[]
 | a::l=>a.cps.toList++y.cps.toList++qT y l
theorem i5 (y x:Str):∀ l:List Str,qT y (l++[x])=qT y l++x.cps.toList++y.cps.toList
 | []=>by simp [qT]
 | a::l=>by
  show a.cps.toList++y.cps.toList++qT y (l++[x])=a.cps.toList++y.cps.toList++qT y l++x.cps.toList++y.cps.toList
  rw [i5 y x l]
  simp only [List.append_assoc]
theorem kL (y x:Str):∀ l:List Str,(Str.join y (l++[x])).cps.toList=qT y l++x.cps.toList
 | []=>rfl
 | [a]=>by
  show (Str.join y [a,x]).cps.toList=a.cps.toList++y.cps.toList++[]++x.cps.toList
  rw [bA,aaJ]
  rfl
 | a::b::l=>by
  show (Str.join y (a::b::(l++[x]))).cps.toList=a.cps.toList++y.cps.toList++qT y (b::l)++x.cps.toList
  rw [bA,show b::(l++[x])=(b::l)++[x] from rfl,kL y x (b::l)]
  simp only [List.append_assoc]
theorem zd  {l:List Str} {x:Str} (h:qT (Str.ofString " ") l++x.cps.toList=z.cps.toList) (hn:∀ p ∈ l++[x],32 ∉ p.cps.toList):Txt.split z (Str.ofString " ")=l++[x]:=by
 have e:z=Str.join (Str.ofString " ") (l++[x]):=ai (by rw [kL]; exact h.symm)
 rw [e]
 refine gt _ (by decide +kernel) (by decide +kernel) _ (by simp) fun p hp=>?_
 rw [eD]
 exact cL (hn p hp)
@[irreducible] def bR:Ct:=fun os P=>∃ z:Str,os=[.fz (.str z)]/\z.length<=120000/\P (.fl ((Txt.split z (Str.ofString " ")).map .str)) os
@[irreducible] def aX:Ct:=fun os P=>∃ d:D,os=[.fz d]/\smD d=true/\(∀ z,d=.str z->z.length<=120000)/\(∀ word rest,d=.str (bf word rest)->aT word rest->P (.fz (ci word rest)) os)/\((∀ z,d=.str z->¬ qJ z)->P (.fz .non) os)
@[irreducible] def b8:Ct:=fun os P=>∃ (b0 b1 b2 n:Int),os=[bC b0 b1 b2]/\BagB b1 b2 n/\n < 2 ^ 37/\∀ (y:Str) (b0' b1' b2':Int),y.length<=4000->BagB b1' b2' (n+10)->P (.fz (.str y)) [bC b0' b1' b2']
theorem AY :(⟨#[c]⟩:Str) = " " ↔ c=32:=by
 constructor
 ·intro e
  have:=congrArg (fun s=>s.cps.toList) e
  have h2:(Str.ofString " ").cps.toList=[32]:=eD
  have h3:[c]=[32]:=this.trans h2
  exact (abo h3).1
 ·rintro rfl
  exact ai eD.symm
theorem vo (f:α->β)(l:List α)(x:α):atI ((l++[x]).map f) (-1)=some (f x):=by
 unfold atI ixN
 rw [List.length_map,List.length_append,aat]
 rw [if_neg (by decide),if_pos (by nofun)]
 have e:((-1:Int)+((l.length+1:Nat):Int)).toNat=l.length:=by nofun
 rw [e]
 show ((l++[x]).map f)[l.length]?=some (f x)
 rw [List.getElem?_map,List.getElem?_append_right (aac _),Nat.sub_self]
 rfl
theorem Ee (n:Nat):ixN (n+1) (-1)=some n:=by
 unfold ixN
 rw [if_neg (by decide),if_pos (by nofun)]
 have e:((-1:Int)+((n+1:Nat):Int)).toNat=n:=by nofun
 rw [e]
theorem ze (l:List α)(x y:α):(l++[x]).set l.length y=l++[y]:=by
 rw [List.set_append_right _ _ (aac _),Nat.sub_self]
 rfl
section
variable {P:Program}  {K:Frag}  
abbrev pi:Stmt:=top 48
abbrev zf:FS :=
  (ap (bB (fOp aIx (ac 0) (fC (.int 0))) (ad 1))
  (ap (wY (wT (fSl dB (ac 0) (bh (fC (.int 1))) au)) (ad 2)
   (bB (fOp aY (fOp aY (ac 1) (fC (.str " "))) (ac 2)) (ad 1)))
  (bp (ac 1))))
theorem zg:Lh aO 1 []:=by delta aO
theorem zi:Hh aO zf [] 3:=by
 intro os P h
 unfold aO at h
 obtain ⟨word,rest,rfl,hf,q⟩:=h
 have sz:=bH
 have ec:cg (D.str word::rest.map D.str) (some 1) none=rest.map D.str:=iX
 ext
 refine fG ?_
 ext
 rw [ec]
 refine cU (fun i ρ=>∃ x:Option OV,ρ=[some (.fz (ci word rest)),some (.fz (.str (Builtin.Str.glued (Str.ofString " ") (word::rest.take i)))),x]) ⟨none,rfl⟩ ?_ ?_
 ·rintro i d ρ R hd ⟨x,rfl⟩ kk
  rw [List.getElem?_map,Option.map_eq_some_iff] at hd
  obtain ⟨z,hz,rfl⟩:=hd
  have h1:=zc hf i
  have h2:z.length<=40:=by
   rcases bJ hf with ⟨_,_,hr⟩ | ⟨_,z',rfl,hs⟩
   ·rw [af]; exact aaq (hr z (List.mem_of_getElem? hz)).2.1 (by decide)
   ·have e:z=z':=by simpa using List.mem_of_getElem? hz
    rw [e,af]; exact hs.2.1
  ext
  refine ⟨by rw [iZ]; nofun,?_⟩
  ext
  refine ⟨by rw [av,iZ]; nofun,?_⟩
  ext
  refine kk _ ⟨some (.fz (.str z)),?_⟩
  have e:Builtin.Str.glued (Str.ofString " ") (word::rest.take (i+1))=Builtin.Str.glued (Str.ofString " ") (word::rest.take i)++Str.ofString " " ++ z:=by
   rw [abb,hz]
   exact jT ..
  rw [e]
  rfl
 ·rintro ρ ⟨x,rfl⟩
  rw [List.length_map,aah (aac _)]
  ext
  exact q
theorem vp {rest:List Str}{P:OV->List OV->Prop}(hf:aT word rest)(h:P (.fz (.str (bf word rest))) [.fz (ci word rest)]):aO [.fz (ci word rest)] P:=by
 unfold aO
 exact ⟨word,rest,rfl,hf,h⟩
abbrev pj:Stmt:=top 50
abbrev zj:FS :=
  (ap (gO 1 (fq (aa (fC (.str "")) ag)))
  (ap (wY (qo (ac 0)) (ad 2)
   (fIf (ax (fOp aEq (ac 2) (fC (.str " "))))
   (sW (EO 1 (fC (.str ""))))
   (iC 1 (fOp aY (fOp aIx (ac 1) (Il (fC (.int 1)))) (ac 2)) (Il (fC (.int 1))))))
  (bp (ac 1))))
theorem zk:Lh bR 1 []:=by delta bR
theorem zm:Hh bR zj [] 3:=by
 intro os P h
 unfold bR at h
 obtain ⟨z,rfl,hl,q⟩:=h
 have sz:=bH
 ext
 refine ⟨ph,?_⟩
 ext
 refine cU (fun i ρ=>∃ (L:List Str) (y:Str) (x:Option OV),qT (Str.ofString " ") L++y.cps.toList=z.cps.toList.take i/\(∀ p ∈ L++[y],32 ∉ p.cps.toList)/\L.length<=i/\y.length<=i/\ρ=[some (.fz (.str z)),some (.fl ((L++[y]).map .str)),x]) ⟨[],Str.ofString "", none,by simp [qT]; decide +kernel,(fun p hp=>by rw [List.mem_singleton.mp hp]; decide +kernel),aac _,by decide +kernel,rfl⟩ ?_ ?_
 ·rintro i d ρ R hd ⟨L,y,x,hJ,hN,hLl,hyl,rfl⟩ kk
  obtain ⟨c,hc,rfl⟩:=iU hd
  have hi:=(List.getElem?_eq_some_iff.mp hc).1
  have hzl:=af z
  have tk:z.cps.toList.take (i+1)=z.cps.toList.take i++[c]:=by rw [abb,hc]; rfl
  ext
  refine bd ?_
  ext
  refine ⟨aM,?_⟩
  ext
  refine ah ((⟨#[c]⟩:Str) = " ") bi (fun e=>?_) (fun e=>?_)
  ·ext
   refine ⟨rfl,?_⟩
   ext
   refine ⟨by rw [List.length_map,List.length_append,aat]; nofun,?_⟩
   refine kk _ ⟨L++[y],Str.ofString "", some (.fz (.str ⟨#[c]⟩)),?_,fun p hp=>?_,by rw [List.length_append,aat]; nofun,aam _,?_⟩
   rotate_left 2
   ·rw [aae (l₁:=L++[y])]; rfl
   ·rw [i5,hJ,tk,AY.mp e,eD,show (Str.ofString "").cps.toList=[] from by decide +kernel,aaJ]
   ·rcases List.mem_append.mp hp with h | h
    ·exact hN p h
    ·rw [List.mem_singleton.mp h]; decide +kernel
  ·ext
   rw [vo]
   ext
   refine ⟨by rw [eE]; nofun,?_⟩
   ext
   refine ⟨rfl,?_⟩
   ext
   rw [show ((L++[y]).map D.str).length=L.length+1 by rw [List.length_map,List.length_append]; rfl,Ee]
   ext
   rw [kJ,ze]
   refine kk _ ⟨L,y++⟨#[c]⟩,_,?_,fun p hp=>?_,by nofun,by rw [av,eE]; nofun,rfl⟩
   ·rw [aN,← List.append_assoc,hJ,tk]
   ·rcases List.mem_append.mp hp with h | h
    ·exact hN p (aaT _ h)
    ·rw [List.mem_singleton.mp h,aN]
     intro hm
     rcases List.mem_append.mp hm with h2 | h2
     ·exact hN y (by simp) h2
     ·exact e (AY.mpr (List.mem_singleton.mp h2).symm)
 ·rintro ρ ⟨L,y,x,hJ,hN,hLl,hyl,rfl⟩
  have hfull:qT (Str.ofString " ") L++y.cps.toList=z.cps.toList:=by
   rw [hJ,aah]
   unfold dR
   rw [List.length_map]
   exact aac _
  rw [← zd hfull hN]
  ext
  exact q
theorem vq  {P:OV->List OV->Prop} (hl:z.length<=120000) (h:P (.fl ((Txt.split z (Str.ofString " ")).map .str)) [.fz (.str z)]):bR [.fz (.str z)] P:=by
 unfold bR
 exact ⟨z,rfl,hl,h⟩
theorem vt (z:Str):cG z none (some 6)=⟨(z.cps.toList.take 6).toArray⟩:=by
 apply ai
 rw [cB]
 exact il z.cps.toList 6
theorem mv (z:Str):cG z (some 6) none=⟨(z.cps.toList.drop 6).toArray⟩:=by
 apply ai
 rw [cB]
 exact db z.cps.toList 6
theorem sg6:(Str.ofString "signs ").cps.toList=[115,105,103,110,115,32]:=by decide +kernel
theorem sg5:(Str.ofString "signs" ++ Str.ofString " ").cps.toList=(Str.ofString "signs ").cps.toList:=by decide +kernel
theorem HI  (h:cG z none (some 6)=Str.ofString "signs "):z=bf "signs" [cG z (some 6) none]:=by
 rw [kE]
 apply ai
 rw [aN,sg5,mv]
 have h1:=congrArg (fun s=>s.cps.toList) h
 rw [vt] at h1
 have h1:z.cps.toList.take 6=(Str.ofString "signs ").cps.toList:=h1
 rw [← h1]
 exact (aaC 6 _).symm
theorem zn  (h:z=bf "signs" [y]):cG z none (some 6)=Str.ofString "signs " /\ cG z (some 6) none=y:=by
 rw [kE] at h
 have h1:=congrArg (fun s=>s.cps.toList) h
 have h1:z.cps.toList=(Str.ofString "signs" ++ Str.ofString " " ++ y).cps.toList:=h1
 rw [aN,sg5,sg6] at h1
 refine ⟨ai ?_,ai ?_⟩
 ·rw [vt,h1,sg6]
  rfl
 ·rw [mv,h1]
  rfl
abbrev pk:Stmt:=top 51
abbrev zo:FS :=
  (ap (fIf (fQ (cj (fCB cIs (aa (ac 0) (aa (fC (.ty "str")) ag)))))
   (bp (fC .non))
   az)
  (ap (bB (fCB iH (aa (ak bR (aa (fFz (ac 0)) ag)) ag)) (ad 1))
  (ap (fIf (ax (fOp aEq (fSl dB (ac 0) au (bh (fC (.int 6)))) (fC (.str "signs "))))
   (bB (qi (aa (fC (.str "signs")) (aa (fSl dB (ac 0) (bh (fC (.int 6))) au) ag))) (ad 1))
   az)
  (ap (fIf (fQ (cj (ak bw (aa (fFz (ac 1)) ag))))
   (bp (fC .non))
   az)
  (bp (ac 1))))))
theorem zp:Lh aX 1 []:=by delta aX
theorem zq:Hh aX zo [] 2:=by
 intro os P h
 unfold aX at h
 obtain ⟨d,rfl,sm,hl,q1,q2⟩:=h
 have sz:=bH
 ext
 refine bd ?_
 ext
 refine ⟨⟨gR sm,rfl⟩,?_⟩
 ext
 refine ah (¬ ∃ z,d=.str z) (by rw [aak,aas,Ne,fW]) (fun h=>?_) (fun h=>?_)
 ·ext
  exact q2 fun z e=>absurd ⟨z,e⟩ h
 ·obtain ⟨z,rfl⟩:=Classical.not_not.mp h
  have hzl:=hl z rfl
  have hc:=bZ z (Str.ofString " ")
  ext
  refine vq hzl ?_
  ext
  refine gr (fun ρ=>(cG z none (some 6)=Str.ofString "signs " /\ ρ=[some (.fz (.str z)),some (.fz (ci "signs" [cG z (some 6) none]))])∨(cG z none (some 6)≠Str.ofString "signs " /\ ρ=[some (.fz (.str z)),some (.fz (.tup ((Txt.split z (Str.ofString " ")).map .str)))])) ?_ ?_
  ·rintro ρ (⟨e6,rfl⟩ | ⟨e6,rfl⟩)
   ·have hcl:=gy z (some 6) none
    have h5:(Str.ofString "signs").length<=1000000:=by decide +kernel
    ext
    refine bd ?_
    ext
    refine jS (kF (zs:=[Str.ofString "signs", cG z (some 6) none]) (aa9 rfl) (fun y hy=>?_)) fun b hb=>?_
    ·rcases List.mem_cons.mp hy with rfl | hy
     ·exact h5
     ·rw [List.mem_singleton.mp hy]; nofun
    ext
    refine ah (¬ gQ (ci "signs" [cG z (some 6) none])) (qK hb) (fun h=>?_) (fun h=>?_)
    ·ext
     refine q2 fun y e W=>?_
     cases e
     obtain ⟨word,rest,hf,e⟩:=W
     have hp:(Txt.partition z (Str.ofString " ")).1=word:=by rw [e]; exact fX hf
     have hp2:(Txt.partition z (Str.ofString " ")).1 = "signs" := by
      rw [HI e6,jQ]
     have hw:word = "signs" := hp.symm.trans hp2
     rcases bJ hf with ⟨hn,_⟩ | ⟨_,y,hy,hs⟩
     ·exact hn hw
     ·subst hw hy
      rw [(zn e).2] at h
      exact h (mi hf)
    ·have hf:=g8 (Classical.not_not.mp h)
     ext
     exact q1 _ _ (congrArg D.str (HI e6)) hf
   ·ext
    refine bd ?_
    ext
    refine jS (kF (zs:=Txt.split z (Str.ofString " ")) (by nofun) (fun y hy=>aaq (dg hy) (by nofun))) fun b hb=>?_
    ext
    refine ah (¬ gQ (.tup ((Txt.split z (Str.ofString " ")).map .str))) (qK hb) (fun h=>?_) (fun h=>?_)
    ·ext
     refine q2 fun y e W=>?_
     cases e
     obtain ⟨word,rest,hf,e⟩:=W
     by_cases hw:word = "signs"
     ·rcases bJ hf with ⟨hn,_⟩ | ⟨_,y,hy,hs⟩
      ·exact hn hw
      ·subst hw hy
       exact e6 (zn e).1
     ·rw [e,eK hf hw] at h
      exact h (mi hf)
    ·have h:=Classical.not_not.mp h
     obtain ⟨word,rest,e,_⟩:=id h
     cases es:Txt.split z (Str.ofString " ") with
     | nil=>rw [es] at e; cases e
     | cons a l =>
      rw [es] at h
      ext
      exact q1 _ _ (congrArg D.str (gL es)) (g8 h)
  ·intro rest
   ext
   refine ⟨by nofun,?_⟩
   ext
   refine ⟨aM,?_⟩
   ext
   refine ah (cG z none (some 6) = "signs ") bi (fun e=>?_) (fun e=>?_)
   ·ext
    refine ⟨by nofun,?_⟩
    ext
    refine ⟨jP,?_⟩
    exact rest _ (.inl ⟨e,rfl⟩)
   ·exact rest _ (.inr ⟨e,rfl⟩)
theorem vv {P:OV->List OV->Prop}(sm:smD d=true)(hl:∀ z,d=.str z->z.length<=120000)(h1:∀ word rest,d=.str (bf word rest)->aT word rest->P (.fz (ci word rest)) [.fz d])(h2:(∀ z,d=.str z->¬ qJ z)->P (.fz .non) [.fz d]):aX [.fz d] P:=by
 unfold aX
 exact ⟨d,rfl,sm,hl,h1,h2⟩
end
end KR
namespace KR
open PySem L2 PySem.StrLaws
variable{y left word z part p:Str}{rows rs:List Rw}{r:Rw}{P:OV->List OV->Prop}
theorem vx {x:Str}{p r:List Nat}(hx:x.cps.toList=p++y.cps.toList++r)(hp:nc y.cps.toList p):Txt.find x y=p.length:=by
 have yes:=ua (a:=0) (aam _) (by rw [aaA]; exact hx)
 have no:∀ k,k < p.length->¬ At x y x.length (0+k):=fun k hk=>Dr (a:=0) (by rw [aaA]; exact hx) hp hk
 rw [abu] at yes
 unfold Txt.find
 rcases occ_head x y 1 (aac _) with ⟨_,h⟩ | ⟨i,s,e,h1,h2⟩
 ·exact absurd yes (h _)
 ·rw [e]
  have ei:i=p.length:=by
   rcases Nat.lt_trichotomy i p.length with h | h | h
   ·exact absurd (by rw [abu]; exact h1) (no i h)
   ·exact h
   ·exact absurd yes (h2 _ h)
  rw [← ei]
theorem vy {x:Str}(h:∀ i,¬ At x y x.length i):Txt.find x y=-1:=by
 unfold Txt.find
 rcases occ_head x y 1 (aac _) with ⟨e,_⟩ | ⟨i,s,e,h1,h2⟩
 ·rw [e]
 ·exact absurd h1 (h i)
theorem kM (x y:Str):Txt.find x y=-1∨∃ i:Nat,Txt.find x y=i/\i+y.length<=x.length/\x.cps.toList=x.cps.toList.take i++y.cps.toList++x.cps.toList.drop (i+y.length):=by
 unfold Txt.find
 rcases occ_head x y 1 (aac _) with ⟨e,_⟩ | ⟨i,s,e,h1,_⟩
 ·rw [e]; exact .inl rfl
 ·rw [e]
  obtain ⟨h2,h3⟩:=gK.mp h1
  refine .inr ⟨i,rfl,h2,?_⟩
  rw [← h3,← abg,List.append_assoc,aaC,aaC]
theorem Ef {x:Str}(h:fV x.cps.toList)(i:Nat):¬ At x (Str.ofString "; ") x.length i:=by
 intro ha
 obtain ⟨h1,h2⟩:=gK.mp ha
 rw [eU,fH] at h2
 have e0:((x.cps.toList.drop i).take 2)[0]?=some 59:=by rw [h2]; rfl
 have e1:((x.cps.toList.drop i).take 2)[1]?=some 32:=by rw [h2]; rfl
 rw [List.getElem?_take_of_lt (by decide),List.getElem?_drop] at e0 e1
 exact h i e0 e1
theorem pp (r:Rw):aZ [r]=bY r:=aai _ _
theorem vz (r r2:Rw)(rs:List Rw):(aZ (r::r2::rs)).cps.toList=(bY r).cps.toList++[59,32]++(aZ (r2::rs)).cps.toList:=by
 have e:aZ (r::r2::rs)=Str.join (Str.ofString "; ") (bY r::bY r2::rs.map bY):=aai _ _
 have e2:aZ (r2::rs)=Str.join (Str.ofString "; ") (bY r2::rs.map bY):=aai _ _
 rw [e,e2,bA,fH]
theorem bk0:aZ []=Str.ofString "" := (dC (rows:=[]) (fun _ h=>nomatch h)).mpr rfl
theorem qU   (hok:∀ r ∈ rows,a7 r.1/\aT r.2.1 r.2.2) (e:left=aZ rows) (hne:left ≠ "") :
  ∃ r rows',rows=r::rows'/\((Txt.find left (Str.ofString "; ")=-1/\left=bY r/\rows'=[])∨(Txt.find left (Str.ofString "; ")=(bY r).length/\left.cps.toList=(bY r).cps.toList++[59,32]++(aZ rows').cps.toList/\rows'≠[])):=by
 cases rows with
 | nil=>exact absurd (e.trans bk0) hne
 | cons r rows' =>
  have sf:=o5 (hok r (aad ..)).1 (hok r (aad ..)).2
  refine ⟨r,rows',rfl,?_⟩
  cases rows' with
  | nil =>
   rw [pp] at e
   subst e
   exact .inl ⟨vy (Ef sf),rfl,rfl⟩
  | cons r2 rs =>
   have h:=vz r r2 rs
   rw [← e] at h
   refine .inr ⟨?_,h,fun z=>nomatch z⟩
   rw [af]
   exact vx (r:=(aZ (r2::rs)).cps.toList) (by rw [fH]; exact h) (by rw [fH]; exact jJ sf)
theorem vA (h:∀ r ∈ rows,a7 r.1/\aT r.2.1 r.2.2):(aZ rows).length<=rows.length * 113:=by
 have e:aZ rows=Str.join (Str.ofString "; ") (rows.map bY):=aai _ _
 have h1:=aa3 (Str.ofString "; ") (rows.map bY)
 have h2:=o7 h
 rw [eU,List.length_map] at h1
 rw [e]
 nofun
theorem vB {word':Str}{rest rest':List Str}(h:aT word rest)(h':aT word' rest')(e:bf word rest=bf word' rest'):word=word'/\rest=rest':=by
 have ew:word=word':=by
  have h1:=fX h
  rw [e,fX h'] at h1
  exact h1.symm
 subst ew
 refine ⟨rfl,?_⟩
 by_cases hw:word = "signs"
 ·rcases bJ h with ⟨hn,_⟩ | ⟨_,y,rfl,_⟩
  ·exact absurd hw hn
  rcases bJ h' with ⟨hn,_⟩ | ⟨_,y',rfl,_⟩
  ·exact absurd hw hn
  subst hw
  have h1:=(zn rfl:_/\cG (bf "signs" [y]) (some 6) none=y).2
  rw [(zn e).2] at h1
  rw [h1]
 ·have h1:=eK h hw
  rw [e,eK h' hw] at h1
  exact (abo h1).2.symm
theorem pq {r':Rw}(hn:a7 r.1)(hf:aT r.2.1 r.2.2)(hn':a7 r'.1)(hf':aT r'.2.1 r'.2.2)(e:bY r=bY r'):r=r':=by
 have h1:=kG hn (r:=r)
 rw [e,kG hn'] at h1
 have e1:r'.1=r.1:=congrArg (·.1) h1
 have e2:bf r'.2.1 r'.2.2=bf r.2.1 r.2.2:=congrArg (·.2.2) h1
 obtain ⟨e3,e4⟩:=vB hf' hf e2
 obtain ⟨a,b,c⟩:=r
 obtain ⟨a',b',c'⟩:=r'
 cases e1; cases e3; cases e4
 rfl
structure BookAt (z:Str)(rs:List Rw)(left:Str):Prop where
 ok:∀ r ∈ rs,a7 r.1/\aT r.2.1 r.2.2
 rise:eO (rs.map cu)
 len:rs.length+left.length<=z.length
 pre:left ≠ "" -> z.cps.toList=qT (Str.ofString "; ") (rs.map bY)++left.cps.toList
 end_:left = "" -> z=aZ rs
 hyp:∀ rows:List Rw,(∀ r ∈ rows,a7 r.1/\aT r.2.1 r.2.2)->eO (rows.map cu)->z=aZ rows->∃ rows',rows=rs++rows'/\left=aZ rows'
theorem mw (z:Str):BookAt z [] z:=⟨(fun _ h=>nomatch h),(fun k n f n' f' h=>nomatch h),by rw [List.length_nil,abu]; exact aac _,fun _=>rfl,fun e=>e.trans bk0.symm,fun rows _ _ e=>⟨rows,rfl,e⟩⟩
theorem BookAt.done    (h:BookAt z rs left) (e:left = ""):z=aZ rs/\eO (rs.map cu):=⟨h.end_ e,h.rise⟩
def PartOf (left part:Str):Prop:=(Txt.find left (Str.ofString "; ")=-1/\part=left/\cG left (some ((part.length:Int)+2)) none = "")∨∃ i:Nat,Txt.find left (Str.ofString "; ")=i/\part.length=i/\left.cps.toList=part.cps.toList++[59,32]++(cG left (some ((part.length:Int)+2)) none).cps.toList
theorem zr (z:Str):cG z (some ((z.length:Int)+2)) none = "" := by
 apply ai
 rw [cB]
 have e:cg z.cps.toList (some (((z.length+2:Nat):Int))) none=z.cps.toList.drop (z.length+2):=db z.cps.toList (z.length+2)
 have e2:((z.length:Int)+2)=((z.length+2:Nat):Int):=by nofun
 rw [e2,e,List.drop_eq_nil_of_le (by rw [← af]; nofun)]
 decide +kernel
theorem AZ (z:Str)(i:Nat):(cG z none (some (i:Int))).cps.toList=z.cps.toList.take i:=by
 rw [cB]
 exact il z.cps.toList i
theorem kN (z:Str)(i:Nat):(cG z (some (i:Int)) none).cps.toList=z.cps.toList.drop i:=by
 rw [cB]
 exact db z.cps.toList i
theorem PartOf.le (h:PartOf left part):part.length<=left.length:=by
 rcases h with ⟨_,rfl,_⟩ | ⟨i,_,h2,h3⟩
 ·exact aac _
 ·have:=congrArg List.length h3
  rw [List.length_append,List.length_append,← af,← af] at this
  nofun
theorem Eg  (h:¬ 0<=Txt.find left (Str.ofString "; ")):PartOf left left:=by
 rcases kM left (Str.ofString "; ") with e | ⟨i,e,_⟩
 ·exact .inl ⟨e,rfl,zr left⟩
 ·rw [e] at h
  exact absurd (Int.natCast_nonneg i) h
theorem zt  (h:0<=Txt.find left (Str.ofString "; ")):PartOf left (cG left none (some (Txt.find left (Str.ofString "; ")))):=by
 rcases kM left (Str.ofString "; ") with e | ⟨i,e,hi,hs⟩
 ·rw [e] at h
  exact absurd h (by decide)
 ·rw [eU] at hi
  rw [eU,fH] at hs
  have e1:(cG left none (some (Txt.find left (Str.ofString "; ")))).cps.toList=left.cps.toList.take i:=by rw [e]; exact AZ left i
  have e2:(cG left none (some (Txt.find left (Str.ofString "; ")))).length=i:=by
   rw [af,e1,aau,← af]
   nofun
  refine .inr ⟨i,e,e2,?_⟩
  rw [e2,e1,show ((i:Int)+2)=((i+2:Nat):Int) from rfl,kN]
  exact hs
theorem PartOf.hyp   (hp:PartOf left part) (hA:BookAt z rs left) (hne:left ≠ "") (rows:List Rw) (hok:∀ r ∈ rows,a7 r.1/\aT r.2.1 r.2.2) (hr:eO (rows.map cu)) (e:z=aZ rows) :
  ∃ r rows',rows=rs++r::rows'/\part=bY r/\cG left (some ((part.length:Int)+2)) none=aZ rows'/\(0<=Txt.find left (Str.ofString "; ")->rows'≠[]):=by
 obtain ⟨rows0,rfl,e0⟩:=hA.hyp rows hok hr e
 obtain ⟨r,rows',rfl,h⟩:=qU (fun r h=>hok r (List.mem_append.mpr (.inr h))) e0 hne
 refine ⟨r,rows',rfl,?_⟩
 rcases h with ⟨h1,h2,rfl⟩ | ⟨h1,h2,h3⟩
 ·rcases hp with ⟨_,rfl,p2⟩ | ⟨i,p1,_⟩
  ·exact ⟨h2,p2.trans bk0.symm,fun z=>by rw [h1] at z; exact absurd z (by decide)⟩
  ·rw [h1] at p1
   exact absurd p1 (by nofun)
 ·rcases hp with ⟨p1,_⟩ | ⟨i,p1,p2,p3⟩
  ·rw [h1] at p1
   exact absurd p1 (by nofun)
  ·rw [h1] at p1
   have ei:(bY r).cps.toList.length=part.cps.toList.length:=by rw [← af,← af]; nofun
   rw [h2,List.append_assoc,List.append_assoc] at p3
   obtain ⟨g1,g2⟩:=List.append_inj p3 ei
   have g2:=List.append_cancel_left g2
   exact ⟨ai g1.symm,ai g2.symm,fun _=>h3⟩
abbrev kU (p:Str):Str:=cG p none (some (if Txt.find p (Str.ofString " = ") > 0 then Txt.find p (Str.ofString " = ") else 0))
abbrev HJ (p:Str):Str:=cG p (some (((kU p).length:Int)+3)) none
theorem zu (r:Rw):(bY r).cps.toList=r.1.cps.toList++(Str.ofString " = ").cps.toList++(bf r.2.1 r.2.2).cps.toList:=by rw [aN,aN]
theorem A0  {i:Nat} (h:Txt.find p (Str.ofString " = ")=i) (hi:i+3<=p.length):(kU p).cps.toList=p.cps.toList.take i/\(HJ p).cps.toList=p.cps.toList.drop (i+3):=by
 have e0:(if Txt.find p (Str.ofString " = ") > 0 then Txt.find p (Str.ofString " = ") else 0)=(i:Int):=by
  rw [h]
  split <;> nofun
 have e1:kU p=cG p none (some (i:Int)):=by
  show cG p none (some (if Txt.find p (Str.ofString " = ") > 0 then Txt.find p (Str.ofString " = ") else 0))=_
  rw [e0]
 have e2:(kU p).cps.toList=p.cps.toList.take i:=by rw [e1]; exact AZ p i
 have e3:(kU p).length=i:=by
  rw [af,e2,aau,← af]
  nofun
 refine ⟨e2,?_⟩
 show (cG p (some (((kU p).length:Int)+3)) none).cps.toList=_
 rw [e3,show ((i:Int)+3)=((i+3:Nat):Int) from rfl]
 exact kN p (i+3)
theorem gb (hn:a7 r.1):Txt.find (bY r) (Str.ofString " = ")=(r.1.length:Int)/\kU (bY r)=r.1/\HJ (bY r)=bf r.2.1 r.2.2:=by
 have hl:=zu r
 have hf:Txt.find (bY r) (Str.ofString " = ")=(r.1.length:Int):=by
  rw [af]
  exact vx hl (by rw [uK]; exact cL (mh hn (by decide)))
 have hlen:r.1.length+3<=(bY r).length:=by
  rw [af (bY r),hl,List.length_append,List.length_append,← af,← af,i1]
  nofun
 obtain ⟨h1,h2⟩:=A0 hf hlen
 refine ⟨hf,ai ?_,ai ?_⟩
 ·rw [h1,hl,af,List.append_assoc,List.take_left]
 ·rw [h2,hl,show r.1.length+3=(r.1.cps.toList++(Str.ofString " = ").cps.toList).length from by rw [List.length_append,← af,← af,i1],List.drop_left]
theorem qV  (h:¬ Txt.find p (Str.ofString " = ") < 0):p=kU p++Str.ofString " = " ++ HJ p:=by
 rcases kM p (Str.ofString " = ") with e | ⟨i,e,hi,hs⟩
 ·rw [e] at h
  exact absurd (by decide) h
 ·rw [i1] at hi hs
  obtain ⟨h1,h2⟩:=A0 e hi
  apply ai
  rw [aN,aN,h1,h2]
  exact hs
theorem mx:∀ zs:List Str,okDs (zs.map D.str)=true
 | []=>by simp [okDs]
 | z::zs=>by rw [List.map_cons,okDs,mx zs]; rfl
theorem i6:∀ zs:List Str,deps (toDVs (zs.map D.str))=0
 | []=>by simp [toDVs,deps]
 | z::zs=>by rw [List.map_cons,toDVs,deps,i6 zs]; rfl
theorem pr (d:D):dEq d d=true:=nP _
theorem i7:∀ rows:List Rw,okDs (rows.map cu)=true
 | []=>by simp [okDs]
 | r::rows=>by
  rw [List.map_cons,okDs,i7 rows,Bool.and_true]
  simp only [cu,ci,okD,okDs,mx,Bool.and_self]
theorem my:∀ rows:List Rw,deps (toDVs (rows.map cu))<=2
 | []=>by simp [toDVs,deps]
 | r::rows=>by
  rw [List.map_cons,toDVs,deps]
  have:=my rows
  have e:dep (qh (cu r))=2:=by
   simp only [cu,ci,qh,toDVs,dep,deps,i6]
   decide
  rw [e]; nofun
theorem mC {rows':List Rw}:EQ (.lst (rows.map cu)) (.lst (rows'.map cu)):=⟨by simp only [okD]; exact i7 rows,by simp only [okD]; exact i7 rows',by simp only [qh,dep]; have:=my rows; nofun⟩
theorem zv :dEq (.lst (rs.map cu)) (.lst [])=true↔rs=[]:=by
 cases rs with
 | nil=>exact ⟨fun _=>rfl,fun _=>pr _⟩
 | cons r rs=>exact ⟨fun h=>(Bool.false_ne_true h).elim,fun h=>nomatch h⟩
theorem Eh  (h:z ≠ ""):1<=z.length:=by
 rcases Nat.eq_zero_or_pos z.length with e | e
 ·refine absurd (ai ?_) h
  rw [af] at e
  rw [List.length_eq_zero_iff.mp e]
  decide +kernel
 ·exact e
theorem pv  {n:Nat} (h:left ≠ ""):(cG left (some ((n:Int)+2)) none).length < left.length:=by
 have:=Eh h
 rw [af,show ((n:Int)+2)=((n+2:Nat):Int) from rfl,kN,List.length_drop,← af]
 nofun
theorem BookAt.step {nm:Str}  {rest:List Str} (hA:BookAt z rs left) (hp:PartOf left part) (hne:left ≠ "") (hn:a7 nm) (hf:aT word rest) (e:part=bY (nm,word,rest)) (hlast:∀ l r0,rs=l++[r0]->aQ r0.1 nm=true) (hend:0<=Txt.find left (Str.ofString "; ")->cG left (some ((part.length:Int)+2)) none ≠ "") :
  BookAt z (rs++[(nm,word,rest)]) (cG left (some ((part.length:Int)+2)) none):=by
 have hlt:=pv (n:=part.length) hne
 have hlen:=hA.len
 have hz:=hA.pre hne
 refine ⟨fun r hr=>?_,fun k n f n' f' h1 h2=>?_,?_,fun h=>?_,fun h=>?_,fun rows hok hr he=>?_⟩
 ·rcases List.mem_append.mp hr with h | h
  ·exact hA.ok r h
  ·rw [List.mem_singleton.mp h]
   exact ⟨hn,hf⟩
 ·rw [aae] at h1 h2
  by_cases hk:k+1 < rs.length
  ·rw [List.getElem?_append_left (by rw [List.length_map]; nofun)] at h1 h2
   exact hA.rise k n f n' f' h1 h2
  ·by_cases hk2:k+1=rs.length
   ·rw [List.getElem?_append_left (by rw [List.length_map]; nofun)] at h1
    rw [List.getElem?_append_right (by rw [List.length_map]; nofun),List.length_map,hk2,Nat.sub_self] at h2
    rcases List.eq_nil_or_concat rs with e0 | ⟨l,r0,e0⟩
    ·rw [e0] at hk2
     exact nomatch hk2
    ·rw [List.concat_eq_append] at e0
     have hl:=hlast l r0 e0
     have ek:k=l.length:=by rw [e0,List.length_append,aat] at hk2; nofun
     rw [e0,ek,aae,List.getElem?_append_right (by rw [List.length_map]; exact aac _),List.length_map,Nat.sub_self] at h1
     cases h1
     cases h2
     exact hl
   ·rw [List.getElem?_eq_none (by rw [List.length_append,List.length_map,List.length_map,aat]; nofun)] at h2
    cases h2
 ·rw [List.length_append,aat]
  nofun
 ·rcases hp with ⟨_,_,p2⟩ | ⟨i,_,_,p3⟩
  ·exact absurd p2 h
  ·rw [hz,p3,aae,List.map_singleton,i5,fH,e]
   simp only [List.append_assoc]
 ·rcases hp with ⟨_,p1,_⟩ | ⟨i,p1,_,_⟩
  ·apply ai
   have e2:aZ (rs++[(nm,word,rest)])=Str.join (Str.ofString "; ") ((rs++[(nm,word,rest)]).map bY):=aai _ _
   rw [e2,aae,List.map_singleton,kL,hz,← p1,e]
  ·exact absurd h (hend (by rw [p1]; exact Int.natCast_nonneg i))
 ·obtain ⟨r,rows',rfl,hpt,hc,_⟩:=hp.hyp hA hne rows hok hr he
  have hm:=hok r (List.mem_append.mpr (.inr (aad ..)))
  have er:r=(nm,word,rest):=pq hm.1 hm.2 hn hf (hpt.symm.trans e)
  exact ⟨rows',by rw [er,List.append_assoc]; rfl,hc⟩
@[irreducible] def aP:Ct:=fun os P=>∃ rows:List Rw,os=[.fz (.lst (rows.map cu))]/\BookG rows/\P (.fz (.str (aZ rows))) os
@[irreducible] def ar:Ct:=fun os P=>∃ d:D,os=[.fz d]/\smD d=true/\(∀ z,d=.str z->z.length<=120000)/\(∀ rows:List Rw,d=.str (aZ rows)->BookG rows->eO (rows.map cu)->P (.fl (rows.map cu)) os)/\((∀ z,d=.str z->¬ uL z)->P (.fz .non) os)
section
variable {P:Program} {w:World} {K:Frag} {mg:Str->Option Value} {base:Heap}
abbrev pw:Stmt:=top 49
abbrev zw:FS :=
  (ap (bB (fC (.str "")) (ad 1))
  (ap (wY (lK (ac 0)) (qm 2 (cN (ad 2) (cN (ad 3) ql)))
   (ap (fIf (ax (fOp aNe (ac 1) (fC (.str ""))))
   (bB (fOp aY (ac 1) (fC (.str "; "))) (ad 1))
   az)
  (bB (fOp aY (fOp aY (fOp aY (ac 1) (ac 2)) (fC (.str " = "))) (ak aO (aa (fFz (ac 3)) ag))) (ad 1))))
  (bp (ac 1))))
theorem zx:Lh aP 1 []:=by delta aP
theorem zy:Hh aP zw [] 4:=by
 intro os P h
 unfold aP at h
 obtain ⟨rows,rfl,hB,q⟩:=h
 have sz:=bH
 ext
 have few:=hB.few
 refine cU (fun i ρ=>∃ x y:Option OV,ρ=[some (.fz (.lst (rows.map cu))),some (.fz (.str (aZ (rows.take i)))),x,y]) ⟨none,none,by rw [List.take_zero,bk0]⟩ ?_ ?_
 ·rintro i d ρ R hd ⟨x,y,rfl⟩ kk
  rw [List.getElem?_map,Option.map_eq_some_iff] at hd
  obtain ⟨r,hr,rfl⟩:=hd
  have hi:=(List.getElem?_eq_some_iff.mp hr).1
  obtain ⟨hn,hf⟩:=hB.ok r (List.mem_of_getElem? hr)
  have hokt:∀ r ∈ rows.take i,a7 r.1/\aT r.2.1 r.2.2:=fun r h=>hB.ok r (List.mem_of_mem_take h)
  have hlt:=vA hokt
  have hmt:(rows.take i).length * 113<=40000 * 113:=Nat.mul_le_mul_right _ (by rw [aau]; nofun)
  have hne:=dC hokt
  obtain ⟨l1,l2,l3⟩:=i3 hn hf
  have l4:=kA hf
  have et:rows.take (i+1)=rows.take i++[r]:=by rw [abb,hr]; rfl
  ext
  refine ⟨rfl,?_⟩
  ext
  refine gr (fun ρ=>∃ z:Str,z.length<=5000000/\z++bY r=aZ (rows.take (i+1))/\ρ=[some (.fz (.lst (rows.map cu))),some (.fz (.str z)),some (.fz (.str r.1)),some (.fz (ci r.2.1 r.2.2))]) ?_ ?_
  ·rintro ρ ⟨z,hz,hzr,rfl⟩
   ext
   refine ⟨by nofun,?_⟩
   ext
   refine ⟨by rw [av,i1]; nofun,?_⟩
   ext
   refine vp hf ?_
   ext
   refine ⟨by rw [av,av,i1]; nofun,?_⟩
   refine kk _ ⟨some (.fz (.str r.1)),some (.fz (ci r.2.1 r.2.2)),?_⟩
   rw [← hzr]
   have e:z++r.1++Str.ofString " = " ++ bf r.2.1 r.2.2=z++bY r:=by
    apply ai
    simp only [aN,List.append_assoc]
   rw [← e]
   rfl
  ·intro go
   ext
   refine ⟨aM,?_⟩
   ext
   refine ah (aZ (rows.take i) ≠ "") (by rw [aak,aas,Ne,bi]) (fun h=>?_) (fun h=>?_)
   ·ext
    refine ⟨by rw [eU]; nofun,?_⟩
    refine go _ ⟨_,by rw [av,eU]; nofun,?_,rfl⟩
    rw [et]
    cases es:rows.take i with
    | nil=>exact absurd (hne.mpr es) h
    | cons a l =>
     show aZ (a::l)++Str.ofString "; " ++ bY r=Builtin.Str.glued (Str.ofString "; ") ((a::l++[r]).map bY)
     rw [aae,List.map_cons,List.map_singleton,jT]
     rfl
   ·have h:=Classical.not_not.mp h
    refine go _ ⟨_,by nofun,?_,rfl⟩
    rw [et,hne.mp h]
    show aZ []++bY r=aZ [r]
    rw [bk0,pp]
    apply ai
    rw [aN]
    rfl
 ·rintro ρ ⟨x,y,rfl⟩
  rw [List.length_map,aah (aac _)]
  ext
  exact q
theorem vC {P:OV->List OV->Prop}(hB:BookG rows)(h:P (.fz (.str (aZ rows))) [.fz (.lst (rows.map cu))]):aP [.fz (.lst (rows.map cu))] P:=by
 unfold aP
 exact ⟨rows,rfl,hB,h⟩
abbrev px:Stmt:=top 52
abbrev zz:FS :=
  (ap (fIf (fQ (cj (fCB cIs (aa (ac 0) (aa (fC (.ty "str")) ag)))))
   (bp (fC .non))
   az)
  (ap (gO 1 (fq ag))
  (ap (bB (ac 0) (ad 2))
  (ap (sZ (ax (fOp aNe (ac 2) (fC (.str ""))))
   (ap (bB (tY (ac 2) (fC (.str "; "))) (ad 3))
  (ap (bB (ac 2) (ad 4))
  (ap (fIf (ax (fOp (fI (fun i j=>decide (j<=i)) fun i j=>!aQ i j) (ac 3) (fC (.int 0))))
   (bB (fSl dB (ac 2) au (bh (ac 3))) (ad 4))
   az)
  (ap (bB (fSl dB (ac 2) (bh (fOp aY (fCB dY (aa (ac 4) ag)) (fC (.int 2)))) au) (ad 2))
  (ap (bB (fSl dB (ac 4) au (bh (fCB Ij (aa (fC (.int 0)) (aa (tY (ac 4) (fC (.str " = "))) ag))))) (ad 5))
  (ap (bB (ak aX (aa (fFz (fSl dB (ac 4) (bh (fOp aY (fCB dY (aa (ac 5) ag)) (fC (.int 3)))) au)) ag)) (ad 6))
  (ap (fIf (fOr (ax (fOp (fI (fun i j=>decide (i < j)) aQ) (tY (ac 4) (fC (.str " = "))) (fC (.int 0)))) (fOr (fQ (cj (ak ba (aa (fFz (ac 5)) ag)))) (ax (fOp GX (ac 6) (fC .non)))))
   (bp (fC .non))
   az)
  (ap (fIf (fOr (Aw (ax (fOp aNe (ac 1) (fq ag))) (ax (fOp (fI (fun i j=>decide (j<=i)) fun i j=>!aQ i j) (fOp aIx (fOp aIx (ac 1) (Il (fC (.int 1)))) (fC (.int 0))) (ac 5)))) (Aw (ax (fOp (fI (fun i j=>decide (j<=i)) fun i j=>!aQ i j) (ac 3) (fC (.int 0)))) (ax (fOp aEq (ac 2) (fC (.str ""))))))
   (bp (fC .non))
   az)
  (sW (EO 1 (qi (aa (ac 5) (aa (ac 6) ag))))))))))))))
  (bp (ac 1))))))
theorem zA:Lh ar 1 []:=by delta ar
theorem zB:Hh ar zz [] 7:=by
 intro os P h
 unfold ar at h
 obtain ⟨d,rfl,sm,hl,q1,q2⟩:=h
 have sz:=bH
 ext
 refine bd ?_
 ext
 refine ⟨⟨gR sm,rfl⟩,?_⟩
 ext
 refine ah (¬ ∃ z,d=.str z) (by rw [aak,aas,Ne,fW]) (fun h=>?_) (fun h=>?_)
 ·ext
  exact q2 fun z e=>absurd ⟨z,e⟩ h
 obtain ⟨z,rfl⟩:=Classical.not_not.mp h
 have hzl:=hl z rfl
 have no:¬ uL z->P (.fz .non) [.fz (.str z)]:=fun h=>q2 fun y e=>by cases e; exact h
 ext
 refine ⟨aam _,?_⟩
 ext
 refine tM (fun m ρ=>∃ (rs:List Rw) (left:Str) (x3 x4 x5 x6:Option OV),BookAt z rs left/\left.length=m/\ρ=[some (.fz (.str z)),some (.fl (rs.map cu)),some (.fz (.str left)),x3,x4,x5,x6]) z.length ⟨[],z,none,none,none,none,mw z,rfl,rfl⟩ ?_
 rintro m ρ R ⟨rs,left,x3,x4,x5,x6,hA,rfl,rfl⟩ kk
 have hll:=hA.len
 ext
 refine ⟨aM,?_⟩
 ext
 refine ah (left ≠ "") (by rw [aak,aas,Ne,bi]) (fun hne=>?_) (fun h=>?_)
 ·ext
  refine gr (fun ρ=>∃ part:Str,PartOf left part/\ρ=[some (.fz (.str z)),some (.fl (rs.map cu)),some (.fz (.str left)),some (.fz (.int (Txt.find left (Str.ofString "; ")))),some (.fz (.str part)),x5,x6]) ?_ ?_
  ·rintro ρ ⟨part,hp,rfl⟩
   have hpl:=hp.le
   ext
   refine ⟨by nofun,?_⟩
   ext
   refine ⟨by nofun,?_⟩
   ext
   refine ⟨by nofun,?_⟩
   ext
   have hnl:=gy part none (some (if Txt.find part (Str.ofString " = ") > 0 then Txt.find part (Str.ofString " = ") else 0))
   have bad1:(∀ r:Rw,a7 r.1->aT r.2.1 r.2.2->part≠bY r)->P (.fz .non) [.fz (.str z)]:=fun h=>no fun ⟨rows,hok,hr,e⟩=>by
    obtain ⟨r,rows',rfl,hpt,_⟩:=hp.hyp hA hne rows hok hr e
    have hm:=hok r (List.mem_append.mpr (.inr (aad ..)))
    exact h r hm.1 hm.2 hpt
   refine ⟨by nofun,?_⟩
   ext
   refine ⟨by nofun,?_⟩
   ext
   have hsmS:∀ z:Str,z.length<=120000->smD (.str z)=true:=fun z hz=>by simp only [smD,decide_eq_true_iff]; nofun
   refine vv (hsmS _ (aaq (gy _ _ _) (by nofun))) (fun y e=>by cases e; exact aaq (gy _ _ _) (by nofun)) (fun word rest e hf=>?_) (fun hno=>?_)
   ·have ert:HJ part=bf word rest:=by injection e
    rw [e]
    ext
    refine bo (a7 (kU part)/\part=bY (kU part,word,rest)) (fun hg=>?_) (fun go=>?_)
    rotate_left
    ·ext
     refine ah (Txt.find part (Str.ofString " = ") < 0) decide_eq_true_iff (fun h=>?_) (fun h=>?_)
     ·ext
      refine dM ?_
      ext
      refine bad1 fun r hn _ e=>?_
      rw [e,(gb hn).1] at h
      nofun
     ·ext
      refine gx (hsmS _ (by nofun)) fun b hb=>?_
      ext
      refine ah (¬ eN (.str (kU part))) (qK hb) (fun h2=>?_) (fun h2=>?_)
      ·ext
       refine dM ?_
       ext
       refine bad1 fun r hn _ e=>?_
       rw [e,(gb hn).2.1] at h2
       exact h2 hn
      ·ext
       refine gX ?_
       refine go ⟨Classical.not_not.mp h2,?_⟩
       have:=qV h
       rw [ert] at this
       exact this
    ·have bad2:(∀ (r:Rw) (rows':List Rw),part=bY r->kU part=r.1->cG left (some ((part.length:Int)+2)) none=aZ rows'->(∀ q ∈ rows',a7 q.1/\aT q.2.1 q.2.2)->(0<=Txt.find left (Str.ofString "; ")->rows'≠[])->eO ((rs++r::rows').map cu)->False)->P (.fz .non) [.fz (.str z)]:=fun h=>no fun ⟨rows,hok,hr,e⟩=>by
      obtain ⟨r,rows',rfl,hpt,hc,hx⟩:=hp.hyp hA hne rows hok hr e
      have hm:=hok r (List.mem_append.mpr (.inr (aad ..)))
      exact h r rows' hpt (by rw [hpt]; exact (gb hm.1).2.1) hc (fun q hq=>hok q (List.mem_append.mpr (.inr (aag _ hq)))) hx hr
     refine bo ((∀ l r0,rs=l++[r0]->aQ r0.1 (kU part)=true)/\(0<=Txt.find left (Str.ofString "; ")->cG left (some ((part.length:Int)+2)) none ≠ "")) (fun hg2=>?_) (fun go=>?_)
     rotate_left
     ·ext
      refine ⟨aam _,?_⟩
      ext
      refine ⟨mC (rows':=[]),?_⟩
      ext
      refine ah (rs≠[]) (by rw [aak,aas,Ne,zv]) (fun h=>?_) (fun h=>?_)
      ·obtain ⟨l,r0,rfl⟩:∃ l r0,rs=l++[r0]:=by
        rcases List.eq_nil_or_concat rs with e | ⟨l,r0,e⟩
        ·exact absurd e h
        ·exact ⟨l,r0,by rw [e,List.concat_eq_append]⟩
       ext
       rw [vo]
       ext
       refine ah (aQ r0.1 (kU part)=false) (by rw [aak]) (fun h2=>?_) (fun h2=>?_)
       ·ext
        refine dM ?_
        ext
        refine bad2 fun r rows' _ hnm _ _ _ hri=>?_
        have:=hri l.length r0.1 (ci r0.2.1 r0.2.2) r.1 (ci r.2.1 r.2.2) (by rw [List.append_assoc,aae,List.getElem?_append_right (by rw [List.length_map]; exact aac _),List.length_map,Nat.sub_self]; rfl) (by rw [List.append_assoc,aae,List.getElem?_append_right (by rw [List.length_map]; exact aa8 _),List.length_map,aaM]; rfl)
        rw [hnm,this] at h2
        exact nomatch h2
       ·have hlast:∀ l' r',l++[r0]=l'++[r']->aQ r'.1 (kU part)=true:=fun l' r' e=>by
         have e2:=(List.append_inj' e rfl).2
         rw [← (abo e2).1]
         exact Bool.not_eq_false _ ▸ h2
        ext
        refine ah (0<=Txt.find left (Str.ofString "; ")) decide_eq_true_iff (fun h3=>?_) (fun h3=>?_)
        ·ext
         refine ⟨aM,?_⟩
         ext
         refine ah (cG left (some ((part.length:Int)+2)) none = "") bi (fun h4=>?_) (fun h4=>?_)
         ·ext
          refine bad2 fun r rows' _ _ hc hok hx _=>hx h3 ((dC hok).mp (hc.symm.trans h4))
         ·exact go ⟨hlast,fun _=>h4⟩
        ·ext
         refine gX ?_
         exact go ⟨hlast,fun z=>absurd z h3⟩
      ·have h:=Classical.not_not.mp h
       have hlast:∀ l' r',rs=l'++[r']->aQ r'.1 (kU part)=true:=fun l' r' e=>by
        rw [h] at e
        exact absurd (congrArg List.length e) (by rw [List.length_append]; exact fun z=>nomatch z)
       ext
       refine gX ?_
       ext
       refine ah (0<=Txt.find left (Str.ofString "; ")) decide_eq_true_iff (fun h3=>?_) (fun h3=>?_)
       ·ext
        refine ⟨aM,?_⟩
        ext
        refine ah (cG left (some ((part.length:Int)+2)) none = "") bi (fun h4=>?_) (fun h4=>?_)
        ·ext
         refine bad2 fun r rows' _ _ hc hok hx _=>hx h3 ((dC hok).mp (hc.symm.trans h4))
        ·exact go ⟨hlast,fun _=>h4⟩
       ·ext
        refine gX ?_
        exact go ⟨hlast,fun z=>absurd z h3⟩
     ·ext
      refine ⟨rfl,?_⟩
      ext
      refine ⟨jP,?_⟩
      ext
      refine ⟨by rw [List.length_map]; nofun,?_⟩
      refine kk _ _ (pv hne) ⟨rs++[(kU part,word,rest)],cG left (some ((part.length:Int)+2)) none,some (.fz (.int (Txt.find left (Str.ofString "; ")))),some (.fz (.str part)),some (.fz (.str (kU part))),some (.fz (ci word rest)),hA.step hp hne hg.1 hf hg.2 hg2.1 hg2.2,rfl,?_⟩
      rw [aae]
      rfl
   ·have hno:=hno _ rfl
    have hb:P (.fz .non) [.fz (.str z)]:=bad1 fun r hn hf e=>hno ⟨r.2.1,r.2.2,hf,by
     show HJ part=_
     rw [e]; exact (gb hn).2.2⟩
    ext
    refine bd ?_
    ext
    refine ah (Txt.find part (Str.ofString " = ") < 0) decide_eq_true_iff (fun h=>?_) (fun h=>?_)
    ·ext
     refine dM ?_
     ext
     exact hb
    ·ext
     refine gx (hsmS _ (by nofun)) fun b _=>?_
     ext
     refine ah (b=false) (by cases b <;> simp) (fun h2=>?_) (fun h2=>?_)
     ·ext
      refine dM ?_
      ext
      exact hb
     ·ext
      refine dM ?_
      ext
      exact hb
  ·intro go
   ext
   refine ah (0<=Txt.find left (Str.ofString "; ")) decide_eq_true_iff (fun h=>?_) (fun h=>?_)
   ·ext
    refine ⟨by nofun,?_⟩
    exact go _ ⟨_,zt h,rfl⟩
   ·exact go _ ⟨_,Eg h,rfl⟩
 ·ext
  have h:=Classical.not_not.mp h
  obtain ⟨e,hB⟩:=hA.done h
  exact q1 rs (congrArg D.str e) ⟨hA.ok,by rw [← e]; exact hzl⟩ hB
theorem mD {d:D}{P:OV->List OV->Prop}(sm:smD d=true)(hl:∀ z,d=.str z->z.length<=120000)(h1:∀ rows:List Rw,d=.str (aZ rows)->BookG rows->eO (rows.map cu)->P (.fl (rows.map cu)) [.fz d])(h2:(∀ z,d=.str z->¬ uL z)->P (.fz .non) [.fz d]):ar [.fz d] P:=by
 unfold ar
 exact ⟨d,rfl,sm,hl,h1,h2⟩
end
end KR
namespace KR
open PySem L2
variable{P:OV->List OV->Prop}{w:World}{mg:Str->Option Value}{base:Heap}{b0 b1 b2:Int}{f C cR:Addr}{fd:FuncData}{z:Str}{k:Nat}
theorem JF (z:Str):(cG z none (some 4000)).length<=4000:=by
 rw [af,cB]
 have e:cg z.cps.toList none (some (4000:Int))=z.cps.toList.take 4000:=il z.cps.toList 4000
 rw [e,aau]
 nofun
abbrev A6:List Str:=["; ", "a ", "a = any; ", ";", "=", "any", " ", "row a", "none; "]
theorem vD:∀ z ∈ A6,0 < z.length/\z.length<=9:=by decide +kernel
theorem kO:bootBuiltins "ValueError" = some (.type "ValueError"):=by decide +kernel
def spX (C:Addr):Sp:=fun vs H Q _=>∃ ea,vs=[.ref ea]/\H ea=some (l6 ea C)/\∀ H',Same H H'->Q (.bl true) H'
abbrev Km:List Str:=["any", "none"]
theorem Ei:∀ z ∈ Km,z.length<=4:=by decide +kernel
abbrev Kn:List Str:=[";", " ;", ";  ", ", ", " ; ", "", " ", "; ; ", ";; "]
theorem Ej:∀ z ∈ Kn,z.length<=4:=by decide +kernel
@[irreducible] def aH:Ct:=fun os P=>∃ (b0 b1 b2 n:Int) (z:Str),os=[bC b0 b1 b2,.fz (.str z)]/\BagB b1 b2 n/\n < 2 ^ 37/\z.length<=4000/\∀ (y:Str) (b0' b1' b2':Int),y.length<=1000000->BagB b1' b2' (n+10)->P (.fz (.str y)) [bC b0' b1' b2',.fz (.str z)]
@[irreducible] def bE:Ct:=fun os P=>∃ (b0 b1 b2 n:Int) (z:Str),os=[bC b0 b1 b2,.fz (.str z)]/\BagB b1 b2 n/\n < 2 ^ 36/\z.length<=4000/\∀ (y:Str) (b0' b1' b2':Int),y.length<=sizeLine->BagB b1' b2' (n+11)->P (.fz (.str y)) [bC b0' b1' b2',.fz (.str z)]
@[irreducible] def b9:Ct:=fun os P=>∃ (b0 b1 b2 n:Int),os=[bC b0 b1 b2]/\BagB b1 b2 n/\n < 2 ^ 37/\∀ (y:Str) (b0' b1' b2':Int),y.length<=4000->BagB b1' b2' (n+1)->P (.fz (.str y)) [bC b0' b1' b2']
section
variable {P:Program}  {K:Frag}  
abbrev vE:Stmt:=top 55
abbrev Ek:FS :=
  (ap (bB (fOp aIx (fq (aa (fC (.str "; ")) (aa (fC (.str "a ")) (aa (fC (.str "a = any; ")) (aa (fC (.str ";")) (aa (fC (.str "=")) (aa (fC (.str "any")) (aa (fC (.str " ")) (aa (fC (.str "row a")) (aa (fC (.str "none; ")) ag)))))))))) (ak ae (aa (ac 0) (aa (fC (.int 9)) ag)))) (ad 1))
  (bp (fSl dB (fOp ni (ac 1) (fOp aY (fC (.int 1)) (ak ae (aa (ac 0) (aa (fC (.int 1300)) ag))))) au (bh (fC (.int 4000))))))
theorem El:Lh b8 1 [0]:=by delta b8
theorem Em:Hh b8 Ek [0] 2:=by
 intro os P h
 unfold b8 at h
 obtain ⟨b0,b1,b2,n,rfl,hb,hn,q⟩:=h
 have sz:=bH
 ext
 refine ⟨by show 9<=sizeLine; nofun,?_⟩
 ext
 refine aq n hb (by nofun) (by decide) (by decide) fun r b0 b1 b2 r0 r1 hb1=>?_
 ext
 refine dD (zs:=A6) r0 (by show r < 9; exact r1) fun y hy=>?_
 obtain ⟨y0,y9⟩:=vD y hy
 ext
 refine aq (n+1) hb1 (by nofun) (by decide) (by decide) fun r2 b0 b1 b2 r20 r21 hb2=>?_
 have hm:y.length * (1+r2).toNat<=9 * 1300:=Nat.mul_le_mul y9 (by nofun)
 have ht:=gu y (1+r2)
 ext
 refine ⟨⟨by nofun,y0,by nofun⟩,?_⟩
 ext
 refine ⟨by nofun,?_⟩
 ext
 exact q _ _ _ _ (JF _) (hb2.mono (by nofun))
theorem zD (n:Int){P:OV->List OV->Prop}(hb:BagB b1 b2 n)(hn:n < 2 ^ 37)(h:∀ (y:Str) (b0' b1' b2':Int),y.length<=4000->BagB b1' b2' (n+10)->P (.fz (.str y)) [bC b0' b1' b2']):b8 [bC b0 b1 b2] P:=by
 unfold b8
 exact ⟨b0,b1,b2,n,rfl,hb,hn,h⟩
abbrev kP:Stmt:=top 57
theorem vF:FnScope ["caught"] ["caught"] (aj kP):=⟨rfl,rfl,rfl,by decide +kernel,rfl,by decide +kernel,by decide +kernel⟩
theorem vG {c0 c1 c2 c3 c4 c5 c6 c7 c8 c9:Addr}  (F:Fun K "_law_plain_refusal" "_law_plain_refusal" kP f fd) (T:Txt K mg)
  (hC:ExcCl K C) (hmN:mg "NoText" = some (.ref C)) (k0:mg "Loops" = some (.ref c0)) (k1:mg "NoBook" = some (.ref c1)) (k2:mg "NoDeed" = some (.ref c2)) (k3:mg "NoForm" = some (.ref c3)) (k4:mg "NoName" = some (.ref c4)) (k5:mg "NoPlace" = some (.ref c5)) (k6:mg "NoRow" = some (.ref c6)) (k7:mg "NoRows" = some (.ref c7)) (k8:mg "NoRule" = some (.ref c8)) (k9:mg "TooMany" = some (.ref c9))
  (ha1:PySem.W.kitAny K (.ref C) ([c0,c1,c2,c3,c4].map Value.ref)=some false) (ha2:PySem.W.kitAny K (.ref C) ([c5,c6,c7,c8,c9].map Value.ref)=some false) (hval:PySem.W.kitOne K (.ref C) (.type "ValueError")=some true):FnOk P w K mg base CX0 1 f fd ["caught"] (spX C):=by
 have hone:PySem.W.kitOne K (.ref C) (.ref C)=some true:=by
  unfold PySem.W.kitOne
  rw [if_pos (by simp)]
 refine Fun.okB F vF (fun vs H Q E h=>?_) (fun cdv A outer s H vs Q E hr h=>?_)
 ·obtain ⟨ea,rfl,_⟩:=h
  rfl
 ·obtain ⟨ea,rfl,hea,q⟩:=h
  refine ⟨_,aS (jd (eY (cS ⟨l7 hC ha1⟩ T.n_isinstance bu (cQ (bN 0) (cQ (lB (cQ (dG (v:=.ref c0) ⟨_,k0,rfl⟩ rfl) (cQ (dG (v:=.ref c1) ⟨_,k1,rfl⟩ rfl) (cQ (dG (v:=.ref c2) ⟨_,k2,rfl⟩ rfl) (cQ (dG (v:=.ref c3) ⟨_,k3,rfl⟩ rfl) (cQ (dG (v:=.ref c4) ⟨_,k4,rfl⟩ rfl) bq rfl) rfl) rfl) rfl) rfl)) bq rfl) rfl) rfl rfl)) (bU (eP B9)) cY)
   (aS (jd (eY (cS ⟨l7 hC ha2⟩ T.n_isinstance bu (cQ (bN 0) (cQ (lB (cQ (dG (v:=.ref c5) ⟨_,k5,rfl⟩ rfl) (cQ (dG (v:=.ref c6) ⟨_,k6,rfl⟩ rfl) (cQ (dG (v:=.ref c7) ⟨_,k7,rfl⟩ rfl) (cQ (dG (v:=.ref c8) ⟨_,k8,rfl⟩ rfl) (cQ (dG (v:=.ref c9) ⟨_,k9,rfl⟩ rfl) bq rfl) rfl) rfl) rfl) rfl)) bq rfl) rfl) rfl rfl)) (bU (eP B9)) cY)
   (bU (eP (lA (cS ⟨oI (c:=.ref C) hC (fun u h=>h) hone⟩ T.n_isinstance bu (cQ (bN 0) (cQ (dG (v:=.ref C) ⟨_,hmN,rfl⟩ rfl) bq rfl) rfl) rfl rfl)
    (nT (cS ⟨oI (c:=.ty "ValueError") hC (fun u h=>h) hval⟩ T.n_isinstance bu (cQ (bN 0) (cQ (so T.n_ValueError kO rfl) bq rfl) rfl) rfl rfl)))))),?_⟩
  refine ⟨.ref ea,rfl,(by show 5<=sizeLine; decide),fun p hp=>?_⟩
  have hea1:=bn (o:=.tup ([c0,c1,c2,c3,c4].map V.ref)) hp _ _ hea
  refine ⟨ea,p,rfl,hea1,ao,false,rfl,JV ?_⟩
  refine ⟨.ref ea,rfl,(by show 5<=sizeLine; decide),fun p2 hp2=>?_⟩
  have hea2:=bn (o:=.tup ([c5,c6,c7,c8,c9].map V.ref)) hp2 _ _ hea1
  refine ⟨ea,p2,rfl,hea2,ao,false,rfl,JV ?_⟩
  refine ⟨.ref ea,rfl,ea,rfl,hea2,true,rfl,IT ?_⟩
  exact ⟨.ref ea,rfl,ea,rfl,hea2,q _ ((bn hp).trans (bn hp2))⟩
abbrev vH:Stmt:=top 58
abbrev En:FS :=
  (ap (gO 2 (fT1 eT (ac 1) (fC (.str "; "))))
  (ap (bB (ak ae (aa (ac 0) (aa (fC (.int 4)) ag))) (ad 3))
  (ap (bB (ak ae (aa (ac 0) (aa (fFz (fCB dY (aa (ac 2) ag))) ag))) (ad 4))
  (ap (bB (ak ae (aa (ac 0) (aa (fFz (fCB dY (aa (ac 2) ag))) ag))) (ad 5))
  (ap (fIf (ax (fOp aEq (ac 3) (fC (.int 0))))
   (bp (gP (fC (.str "; ")) (fOp aY (fSl dB (ac 2) au (bh (ac 4))) (fSl dB (ac 2) (bh (fOp aY (ac 4) (fC (.int 1)))) au))))
   az)
  (ap (fIf (ax (fOp aEq (ac 3) (fC (.int 1))))
   (bp (gP (fC (.str "; ")) (fOp aY (fOp aY (fSl dB (ac 2) au (bh (ac 5))) (fSl dB (ac 2) (bh (ac 4)) (bh (fOp aY (ac 4) (fC (.int 1)))))) (fSl dB (ac 2) (bh (ac 5)) au))))
   az)
  (ap (fIf (ax (fOp aEq (ac 3) (fC (.int 2))))
   (ap (bB (fOp aIx (ac 2) (ac 4)) (ad 6))
  (ap (iC 2 (fOp aIx (ac 2) (ac 5)) (ac 4))
  (ap (iC 2 (ac 6) (ac 5))
  (bp (gP (fC (.str "; ")) (ac 2))))))
   az)
  (ap (bB (fOp aIx (fq (aa (fC (.str ";")) (aa (fC (.str " ;")) (aa (fC (.str ";  ")) (aa (fC (.str ", ")) (aa (fC (.str " ; ")) (aa (fC (.str "")) (aa (fC (.str " ")) (aa (fC (.str "; ; ")) (aa (fC (.str ";; ")) ag)))))))))) (ak ae (aa (ac 0) (aa (fC (.int 9)) ag)))) (ad 7))
  (bp (fOp aY (fOp aY (gP (fC (.str "; ")) (fSl dB (ac 2) au (bh (fOp aY (ac 4) (fC (.int 1)))))) (ac 7)) (gP (fC (.str "; ")) (fSl dB (ac 2) (bh (fOp aY (ac 4) (fC (.int 1)))) au))))))))))))
theorem Eo:Lh aH 2 [0]:=by delta aH
theorem Ep:Hh aH En [0] 8:=by
 intro os P h
 unfold aH at h
 obtain ⟨b0,b1,b2,n,z,rfl,hb,hn,hz,q⟩:=h
 have sz:=bH
 have hc:=bZ z (Str.ofString "; ")
 have hp:=i4 z (Str.ofString "; ")
 have hs:=fZ z (Str.ofString "; ")
 have hsp:=eU
 ext
 refine ⟨⟨by decide +kernel,by nofun⟩,?_⟩
 generalize hW:Txt.split z (Str.ofString "; ")=W at hc hp hs
 have hWp:∀ y ∈ W,y.length<=z.length:=fun y hy=>dg (y:=Str.ofString "; ") (by rw [hW]; exact hy)
 have cl:∀ lo hi,(cg W lo hi).length<=W.length:=ik W
 have cs:∀ lo hi,((cg W lo hi).map (·.length)).sum<=(W.map (·.length)).sum:=vh W
 ext
 refine aq n hb (by nofun) (by decide) (by decide) fun way b0 b1 b2 w0 w1 hb1=>?_
 ext
 rw [List.length_map]
 refine aq (n+1) hb1 (by nofun) (by nofun) (by nofun) fun a b0 b1 b2 a0 a1 hb2=>?_
 ext
 rw [List.length_map]
 refine aq (n+1+1) hb2 (by nofun) (by nofun) (by nofun) fun oth b0 b1 b2 o0 o1 hb3=>?_
 ext
 refine bd ?_
 ext
 refine ⟨aA,?_⟩
 ext
 refine ah (way=0) aV (fun _=>?_) (fun _=>?_)
 ·have c1:=cl none (some a)
  have c2:=cl (some (a+1)) none
  have s1:=cs none (some a)
  have s2:=cs (some (a+1)) none
  generalize hX:cg W none (some a)=X1 at c1 s1
  generalize hY:cg W (some (a+1)) none=X2 at c2 s2
  ext
  rw [cD,cD,hX,hY]
  refine ⟨by rw [List.length_map,List.length_map]; nofun,?_⟩
  rw [← aae]
  have t1:((X1++X2).map (·.length)).sum=(X1.map (·.length)).sum+(X2.map (·.length)).sum:=by rw [aae,aaQ]
  have t2:(X1++X2).length=X1.length+X2.length:=List.length_append
  have t3:=cH (Str.ofString "; ") (X1++X2)
  rw [hsp] at t3
  refine cA ⟨by rw [hsp]; nofun,?_⟩
  ext
  exact q _ _ _ _ (by nofun) (hb3.mono (by nofun))
 ext
 refine bd ?_
 ext
 refine ⟨aA,?_⟩
 ext
 refine ah (way=1) aV (fun _=>?_) (fun _=>?_)
 ·have c1:=cl none (some oth)
  have c2:=cl (some a) (some (a+1))
  have c3:=cl (some oth) none
  have s1:=cs none (some oth)
  have s2:=cs (some a) (some (a+1))
  have s3:=cs (some oth) none
  generalize hX:cg W none (some oth)=X1 at c1 s1
  generalize hY:cg W (some a) (some (a+1))=X2 at c2 s2
  generalize hZ:cg W (some oth) none=X3 at c3 s3
  ext
  rw [cD,cD,hX,hY]
  refine ⟨by rw [List.length_map,List.length_map]; nofun,?_⟩
  rw [← aae]
  ext
  rw [cD,hZ]
  refine ⟨by rw [List.length_map,List.length_map,List.length_append]; nofun,?_⟩
  rw [← aae]
  have t1:((X1++X2++X3).map (·.length)).sum=(X1.map (·.length)).sum+(X2.map (·.length)).sum+(X3.map (·.length)).sum:=by rw [aae,aae,aaQ,aaQ]
  have t2:(X1++X2++X3).length=X1.length+X2.length+X3.length:=by rw [List.length_append,List.length_append]
  have t3:=cH (Str.ofString "; ") (X1++X2++X3)
  rw [hsp] at t3
  refine cA ⟨by rw [hsp]; nofun,?_⟩
  ext
  exact q _ _ _ _ (by nofun) (hb3.mono (by nofun))
 ext
 refine bd ?_
 ext
 refine ⟨aA,?_⟩
 ext
 refine ah (way=2) aV (fun _=>?_) (fun _=>?_)
 ·ext
  refine dD (zs:=W) a0 a1 fun y hy=>?_
  have hyl:=hWp y hy
  ext
  refine dD (zs:=W) o0 o1 fun y2 hy2=>?_
  have hyl2:=hWp y2 hy2
  ext
  refine ⟨rfl,?_⟩
  have x1:ixN (W.map D.str).length a=some a.toNat:=by unfold ixN; rw [if_pos a0,if_pos (by rw [List.length_map]; exact a1)]
  ext
  rw [x1]
  ext
  refine ⟨rfl,?_⟩
  have x2:ixN ((W.map D.str).set a.toNat (.str y2)).length oth=some oth.toNat:=by unfold ixN; rw [if_pos o0,if_pos (by rw [aaD,List.length_map]; exact o1)]
  ext
  rw [x2]
  ext
  rw [kJ,kJ]
  have t1:=nv W a.toNat y2
  have t2:=nv (W.set a.toNat y2) oth.toNat y
  have t3:=cH (Str.ofString "; ") ((W.set a.toNat y2).set oth.toNat y)
  rw [aaD,aaD,hsp] at t3
  refine cA ⟨by rw [aaD,aaD,hsp]; nofun,?_⟩
  ext
  exact q _ _ _ _ (by nofun) (hb3.mono (by nofun))
 ·ext
  refine ⟨by show 9<=sizeLine; nofun,?_⟩
  ext
  refine aq (n+1+1+1) hb3 (by nofun) (by decide) (by decide) fun r b0 b1 b2 r0 r1 hb4=>?_
  ext
  refine dD (zs:=Kn) r0 (by show r < 9; exact r1) fun y hy=>?_
  have hyl:=Ej y hy
  have c1:=cl none (some (a+1))
  have c2:=cl (some (a+1)) none
  have s1:=cs none (some (a+1))
  have s2:=cs (some (a+1)) none
  generalize hX:cg W none (some (a+1))=X1 at c1 s1
  generalize hY:cg W (some (a+1)) none=X2 at c2 s2
  have t1:=cH (Str.ofString "; ") X1
  have t2:=cH (Str.ofString "; ") X2
  rw [hsp] at t1 t2
  ext
  rw [cD,hX]
  refine cA ⟨by rw [hsp]; nofun,?_⟩
  ext
  refine ⟨by nofun,?_⟩
  ext
  rw [cD,hY]
  refine cA ⟨by rw [hsp]; nofun,?_⟩
  ext
  refine ⟨by rw [av]; nofun,?_⟩
  ext
  exact q _ _ _ _ (by rw [av,av]; nofun) (hb4.mono (by nofun))
theorem zE (n:Int){P:OV->List OV->Prop}(hb:BagB b1 b2 n)(hn:n < 2 ^ 37)(hz:z.length<=4000)(h:∀ (y:Str) (b0' b1' b2':Int),y.length<=1000000->BagB b1' b2' (n+10)->P (.fz (.str y)) [bC b0' b1' b2',.fz (.str z)]):aH [bC b0 b1 b2,.fz (.str z)] P:=by
 unfold aH
 exact ⟨b0,b1,b2,n,z,rfl,hb,hn,hz,h⟩
abbrev pz:Stmt:=top 59
abbrev zF:FS :=
  (ap (bB (ak ae (aa (ac 0) (aa (fC (.int 10)) ag))) (ad 2))
  (ap (fIf (ax (fOp (fI (fun i j=>decide (j < i)) fun i j=>aQ j i) (ac 2) (fC (.int 7))))
   (bp (ak aG (aa (ac 0) (aa (fFz (ac 1)) ag))))
   az)
  (ap (fIf (ax (fOp (fI (fun i j=>decide (i < j)) aQ) (ac 2) (fC (.int 3))))
   (bp (ak aJ (aa (ac 0) (aa (fFz (ac 1)) ag))))
   az)
  (ap (fIf (ax (fOp (fI (fun i j=>decide (i < j)) aQ) (ac 2) (fC (.int 5))))
   (bp (ak aE (aa (ac 0) (aa (fFz (ac 1)) ag))))
   az)
  (ap (fIf (ax (fOp (fI (fun i j=>decide (i < j)) aQ) (ac 2) (fC (.int 7))))
   (bp (ak aH (aa (ac 0) (aa (fFz (ac 1)) ag))))
   az)
  (bp (ac 1)))))))
theorem zG:Lh bE 2 [0]:=by delta bE
theorem zH:Hh bE zF [0] 3:=by
 intro os P h
 unfold bE at h
 obtain ⟨b0,b1,b2,n,z,rfl,hb,hn,hz,q⟩:=h
 have sz:=bH
 ext
 refine aq n hb (by nofun) (by decide) (by decide) fun way b0 b1 b2 w0 w1 hb1=>?_
 ext
 refine bd ?_
 ext
 refine ah (7 < way) decide_eq_true_iff (fun _=>?_) (fun _=>?_)
 ·ext
  refine zb (n+1) hb1 (by nofun) (by nofun) fun y b0 b1 b2 hy hb2=>?_
  ext
  exact q _ _ _ _ hy (hb2.mono (by nofun))
 ext
 refine bd ?_
 ext
 refine ah (way < 3) decide_eq_true_iff (fun _=>?_) (fun _=>?_)
 ·ext
  refine y4 (n+1) hb1 (by nofun) (by nofun) fun y b0 b1 b2 hy hb2=>?_
  ext
  exact q _ _ _ _ (by nofun) (hb2.mono (by nofun))
 ext
 refine bd ?_
 ext
 refine ah (way < 5) decide_eq_true_iff (fun _=>?_) (fun _=>?_)
 ·ext
  refine za (n+1) hb1 (by nofun) (by nofun) fun y b0 b1 b2 hy hb2=>?_
  ext
  exact q _ _ _ _ (by nofun) (hb2.mono (by nofun))
 ext
 refine bd ?_
 ext
 refine ah (way < 7) decide_eq_true_iff (fun _=>?_) (fun _=>?_)
 ·ext
  refine zE (n+1) hb1 (by nofun) hz fun y b0 b1 b2 hy hb2=>?_
  ext
  exact q _ _ _ _ (by nofun) (hb2.mono (by nofun))
 ext
 exact q _ _ _ _ (by nofun) (hb1.mono (by nofun))
theorem vI (n:Int){P:OV->List OV->Prop}(hb:BagB b1 b2 n)(hn:n < 2 ^ 36)(hz:z.length<=4000)(h:∀ (y:Str) (b0' b1' b2':Int),y.length<=sizeLine->BagB b1' b2' (n+11)->P (.fz (.str y)) [bC b0' b1' b2',.fz (.str z)]):bE [bC b0 b1 b2,.fz (.str z)] P:=by
 unfold bE
 exact ⟨b0,b1,b2,n,z,rfl,hb,hn,hz,h⟩
abbrev vJ:Stmt:=top 61
abbrev Er:FS :=
  (ap (bB (fC (.str "abcdefghijklmnopqrstuvwxyz")) (ad 1))
  (ap (gO 2 (fq ag))
  (ap (wY (dS (aa (ak ae (aa (ac 0) (aa (fC (.int 391)) ag))) ag)) (ad 3)
   (sW (EO 2 (fOp aY (fOp aY (fOp aY (fOp aIx (ac 1) (fOp (aIC rm fun i j=>.int (i / j)) (ac 3) (fC (.int 26)))) (fOp aIx (ac 1) (fOp (aIC (fun _ j=>0 < j) fun i j=>.int (i % j)) (ac 3) (fC (.int 26))))) (fC (.str " = "))) (fOp aIx (fq (aa (fC (.str "any")) (aa (fC (.str "none")) ag))) (fOp (aIC rm fun i j=>.int (i / j)) (fOp (aIC (fun _ j=>0 < j) fun i j=>.int (i % j)) (ac 3) (fC (.int 5))) (fC (.int 4))))))))
  (bp (fSl dB (gP (fC (.str "; ")) (ac 2)) au (bh (fC (.int 4000))))))))
theorem Es:Lh b9 1 [0]:=by delta b9
theorem Et:Hh b9 Er [0] 4:=by
 intro os P h
 unfold b9 at h
 obtain ⟨b0,b1,b2,n,rfl,hb,hn,q⟩:=h
 have sz:=bH
 have hal:(Str.ofString "abcdefghijklmnopqrstuvwxyz").cps.toList.length=26:=by decide +kernel
 have hsp:=eU
 ext
 refine ⟨aam _,?_⟩
 ext
 refine aq n hb (by nofun) (by decide) (by decide) fun m b0 b1 b2 m0 m1 hb1=>?_
 ext
 refine ⟨⟨by nofun,by nofun⟩,?_⟩
 ext
 refine cU (fun i ρ=>∃ (L:List Str) (x:Option OV),L.length=i/\(∀ y ∈ L,y.length<=9)/\ρ=[some (bC b0 b1 b2),some (.fz (.str (Str.ofString "abcdefghijklmnopqrstuvwxyz"))),some (.fl (L.map .str)),x]) ⟨[],_,rfl,(fun _ h=>nomatch h),rfl⟩ ?_ ?_
 ·rintro i d ρ R hd ⟨L,x,hL,hLl,rfl⟩ kk
  obtain ⟨hi,rfl⟩:=bW hd
  have hi2:i<=390:=by nofun
  ext
  refine ⟨rfl,?_⟩
  ext
  refine ⟨⟨by decide,by decide⟩,?_⟩
  ext
  have q0:0<=(0+(i:Int)) / 26/\(0+(i:Int)) / 26 < ((Str.ofString "abcdefghijklmnopqrstuvwxyz").cps.toList.length:Int):=by rw [hal]; nofun
  have q1:0<=(0+(i:Int)) % 26/\(0+(i:Int)) % 26 < ((Str.ofString "abcdefghijklmnopqrstuvwxyz").cps.toList.length:Int):=by rw [hal]; nofun
  refine ⟨by decide +kernel,?_⟩
  refine fF q0.1 q0.2 fun c _=>?_
  ext
  refine ⟨(by decide:(0:Int) < 26),?_⟩
  ext
  refine ⟨by decide +kernel,?_⟩
  refine fF q1.1 q1.2 fun c2 _=>?_
  have k1:=eE c
  have k2:=eE c2
  have k3:=i1
  ext
  refine ⟨by nofun,?_⟩
  ext
  refine ⟨by rw [av]; nofun,?_⟩
  ext
  refine ⟨jP,?_⟩
  ext
  refine ⟨(by decide:(0:Int) < 5),?_⟩
  ext
  refine ⟨⟨by decide,by decide⟩,?_⟩
  ext
  refine dD (zs:=Km) (by nofun) (by show _ < (2:Int); nofun) fun y hy=>?_
  have hyl:=Ei y hy
  ext
  refine ⟨by rw [av,av]; nofun,?_⟩
  ext
  refine ⟨by rw [List.length_map]; nofun,?_⟩
  refine kk _ ⟨L++[⟨#[c]⟩++⟨#[c2]⟩++Str.ofString " = " ++ y],some (.fz (.int (0+(i:Int)))),by rw [List.length_append,hL]; rfl,fun y' h'=>?_,?_⟩
  ·rcases List.mem_append.mp h' with h | h
   ·exact hLl y' h
   ·rw [List.mem_singleton.mp h,av,av,av]
    nofun
  ·rw [aae]
   rfl
 ·rintro ρ ⟨L,x,hL,hLl,rfl⟩
  have t0:=oX hLl
  have t1:=cH (Str.ofString "; ") L
  rw [hsp] at t1
  have hL2:L.length<=390:=by rw [hL]; unfold cf; rw [List.length_map,List.length_range]; nofun
  ext
  refine cA ⟨by rw [hsp]; nofun,?_⟩
  ext
  refine ⟨by nofun,?_⟩
  ext
  exact q _ _ _ _ (JF _) hb1
theorem zI (n:Int){P:OV->List OV->Prop}(hb:BagB b1 b2 n)(hn:n < 2 ^ 37)(h:∀ (y:Str) (b0' b1' b2':Int),y.length<=4000->BagB b1' b2' (n+1)->P (.fz (.str y)) [bC b0' b1' b2']):b9 [bC b0 b1 b2] P:=by
 unfold b9
 exact ⟨b0,b1,b2,n,rfl,hb,hn,h⟩
end
theorem gM:∀ {rows rows':List Rw},(∀ r ∈ rows,a7 r.1/\aT r.2.1 r.2.2)->(∀ r ∈ rows',a7 r.1/\aT r.2.1 r.2.2)->rows.map bY=rows'.map bY->rows=rows'
 | [],[],_,_,_=>rfl
 | [],_::_,_,_,e=>nomatch e
 | _::_,[],_,_,e=>nomatch e
 | r::rs,r'::rs',h,h',e=>by
  have e1:=(abo e).1
  have e2:=(abo e).2
  have g:=h r (aad ..)
  have g':=h' r' (aad ..)
  rw [pq g.1 g.2 g'.1 g'.2 e1,gM (fun q hq=>h q (aag _ hq)) (fun q hq=>h' q (aag _ hq)) e2]
theorem vK {rows rows':List Rw}(h:∀ r ∈ rows,a7 r.1/\aT r.2.1 r.2.2)(h':∀ r ∈ rows',a7 r.1/\aT r.2.1 r.2.2)(e:aZ rows=aZ rows'):rows=rows':=by
 by_cases h0:rows=[]
 ·subst h0
  rw [bk0] at e
  exact ((dC h').mp e.symm).symm
 ·by_cases h1:rows'=[]
  ·subst h1
   rw [bk0] at e
   exact (dC h).mp e
  ·have e1:=gv h0 h
   rw [e,gv h1 h'] at e1
   exact (gM h' h e1).symm
@[irreducible] def gc:Ct:=fun os P=>∃ rows:List Rw,os=[.fz (.str (aZ rows))]/\BookG rows/\eO (rows.map cu)/\P (.fz (.bl true)) os
@[irreducible] def bG:Ct:=fun os P=>∃ d:D,os=[.fz d]/\smD d=true/\(∀ z,d=.str z->z.length<=120000)/\P (.fz (.bl true)) os
def spN (K:Frag):Sp:=fun vs H Q _=>∃ (F1:Hp) (d:D),Same F1 H/\Dens K F1 vs [d]/\nr [d]/\∀ H',Same H H'->Q (.bl true) H'
section
variable {P:Program}  {K:Frag}  
abbrev ge:Stmt:=top 60
theorem mE:FnScope ["text", "found", "caught", "e", "due"] ["text"] (aj ge):=⟨rfl,rfl,rfl,by decide +kernel,rfl,by decide +kernel,by decide +kernel⟩
def pA:FS:=ap (bB (fC .non) (ad 1)) (ap (bB (fC .non) (ad 2)) (ap (bB (ak a8 (aa (fFz (ac 0)) ag)) (ad 1)) (ap (bB (ak ar (aa (fFz (ac 0)) ag)) (ad 4)) (ap (fIf (ax (fOp GX (ac 4) (fC .non))) jH az) (bp (gN (fOp GX (ac 2) (fC .non)) (gN (fCB cIs (aa (ac 1) (aa (fC (.ty "list")) ag))) (fOp aEq (ac 1) (ac 4)))))))))
theorem nu2:List.Nodup [("text" : Str),("found" : Str),("caught" : Str),("e" : Str),("due" : Str)]:=by decide +kernel
theorem nu3:List.Nodup [("text" : Str), "found", "caught", "e", "due"]:=by decide +kernel
theorem zJ   (F:Fun K "_law_asked" "_law_asked" ge f fd) (T:Txt K mg) (O_read_book:Own P w K mg base "read_book" 7 ["text"] (spM K a8)) (O_law_read_book:Own P w K mg base "_law_read_book" 4 ["text"] (spM K ar))
  (R_read_book:OwnR P w K mg base "read_book" 7 ["text"] (spR K nr C)) (hmR:mg "ReadError" = some (.ref cR)) (hx:PySem.W.exmOne K (.ref C) (.ref cR)=some true)
  (hlen:Lh gc 1 [])
  (hc:Hh gc pA [] 5):FnOk P w K mg base CX0 8 f fd ["text"] (spM K gc) :=
 Fun.okG 5 [] F mE rfl (by decide) hlen (by decide) (fun cdv A outer s H E hr=>⟨_,aS (eQ (i:=1) nu2 rfl (Or.inl rfl) fO rfl (Or.inl rfl)) (aS (eQ (i:=2) nu2 rfl (Or.inl rfl) fO rfl (Or.inl rfl)) (aS
   (uh (iN:=3) (iY:=2) K rfl (eQ (i:=1) nu2 rfl (Or.inl rfl) (fP O_read_book (hr.mono (by decide)) (cQ (bN 0) bq rfl) rfl rfl) rfl (Or.inl rfl)) R_read_book (hr.mono (by decide)) rfl (cQ (bN 0) bq rfl) ⟨rfl,rfl⟩ rfl hmR hx nu3 rfl rfl rfl rfl (by decide) rfl rfl rfl rfl rfl rfl rfl)
   (aS (eQ (i:=4) nu2 rfl (Or.inl rfl) (fP O_law_read_book (hr.mono (by decide)) (cQ (bN 0) bq rfl) rfl rfl) rfl (Or.inl rfl)) (aS (jd (lD j4 (bN 4) fO eZ) (bU km) cY) (bU (eP (lA (nU j4 (bN 2) fO eZ) (lA (cS (oh K rfl) T.n_isinstance bu (cQ (bN 1) (cQ (so T.n_list se rfl) bq rfl) rfl) rfl rfl) (nT (nU (nW K hr.units rfl) (bN 1) (bN 4) eZ)))))))))),
  jy (gE lI (qZ (by decide)) (cT (by decide))) (jy (gE lI (qZ (by decide)) (cT (by decide))) (jy (Dx (gE (gl (c:=a8) (bV (qk iK) de)) (qZ (by decide)) (cT (by decide)))) (jy (gE (gl (c:=ar) (bV (qk iK) de)) (qZ (by decide)) (cT (by decide))) (jy (CH (ix (qj na iK lI)) oD fu) (lN (mX (qj na iK lI) (mX (sS xj (bV iK (bV wR de))) (qj oj iK iK))))))))⟩) hc
theorem zK:Lh gc 1 []:=by delta gc
theorem zL:Hh gc pA [] 5:=by
 intro os P h
 unfold gc at h
 obtain ⟨rows,rfl,hB,hR,q⟩:=h
 have sz:=bH
 have hl:=hB.len
 have sm:smD (.str (aZ rows))=true:=by simp only [smD,decide_eq_true_iff]; nofun
 ext
 refine yS hB hR ?_
 ext
 refine mD sm (fun z e=>by cases e; exact hl) (fun rows' e hB' hR'=>?_) (fun h=>absurd ⟨rows,hB.ok,hR,rfl⟩ (h _ rfl))
 ext
 refine bd ?_
 ext
 refine gX ?_
 ext
 refine dM ?_
 ext
 refine ⟨⟨rfl,rfl⟩,?_⟩
 ext
 refine dM ?_
 ext
 refine ⟨mC,?_⟩
 have er:rows=rows':=vK hB.ok hB'.ok (by injection e)
 subst er
 rw [pr]
 ext
 exact q
theorem zM   (F:Fun K "_law_asked" "_law_asked" ge f fd) (T:Txt K mg) (O_read_book:Own P w K mg base "read_book" 7 ["text"] (spM K a8)) (O_law_read_book:Own P w K mg base "_law_read_book" 4 ["text"] (spM K ar)) (O_plain:Own P w K mg base "_law_plain_refusal" 1 ["caught"] (spX C))
  (R_read_book:OwnR P w K mg base "read_book" 7 ["text"] (spR K nr C)) (hmR:mg "ReadError" = some (.ref cR)) (hx:PySem.W.exmOne K (.ref C) (.ref cR)=some true):FnOk P w K mg base CX0 8 f fd ["text"] (spN K):=by
 refine Fun.okB F mE (fun vs H Q E h=>?_) (fun cdv A outer s H vs Q E hr h=>?_)
 ·obtain ⟨F1,d,_,hd,_⟩:=h
  exact hd.length
 ·obtain ⟨F1,d,sf,hd,hn,q⟩:=h
  obtain ⟨v,rfl⟩:=List.length_eq_one_iff.mp (show vs.length=1 from hd.length)
  refine ⟨_,aS (eQ (i:=1) nu2 rfl (Or.inl rfl) fO rfl (Or.inl rfl)) (aS (eQ (i:=2) nu2 rfl (Or.inl rfl) fO rfl (Or.inl rfl)) (aS
   (uh (iN:=3) (iY:=2) K rfl (eQ (i:=1) nu2 rfl (Or.inl rfl) (fP O_read_book (hr.mono (by decide)) (cQ (bN 0) bq rfl) rfl rfl) rfl (Or.inl rfl)) R_read_book (hr.mono (by decide)) rfl (cQ (bN 0) bq rfl) ⟨rfl,rfl⟩ rfl hmR hx nu3 rfl rfl rfl rfl (by decide) rfl rfl rfl rfl rfl rfl rfl)
   (aS (eQ (i:=4) nu2 rfl (Or.inl rfl) (fP O_law_read_book (hr.mono (by decide)) (cQ (bN 0) bq rfl) rfl rfl) rfl (Or.inl rfl)) (aS (jd (lD j4 (bN 4) fO eZ) (bU (eP (lA (nU nX (bN 2) fO eZ) (nT (fP O_plain (hr.mono (by decide)) (cQ (bN 2) bq rfl) rfl rfl))))) cY) (bU km))))),?_⟩
  obtain ⟨d',e,sm,hl⟩:=id hn
  cases e
  refine .inr ⟨v,rfl,⟨F1,[d],sf,hd,hn,fun _ _=>rfl⟩,Same.refl _,fun ea H2 s2 hea=>?_⟩
  refine ⟨v,rfl,Dy (E:=E0) (d:=.non) (sf.trans s2) hd (mD sm (fun z e=>(hl z e).1) (fun rows e hB hR=>absurd ⟨rows,hB.ok,hR,rfl⟩ (hl _ e).2) fun _=>rfl) fun u F' H3 s3 _ dn=>?_⟩
  rw [dn.non_eq]
  refine ⟨.non,rfl,rfl,?_⟩
  refine ⟨true,rfl,IT ?_⟩
  refine ⟨.ref ea,rfl,rfl,true,rfl,IT ?_⟩
  exact ⟨.ref ea,rfl,ea,rfl,s3 _ _ hea,fun H4 s4=>q H4 ((s2.trans s3).trans s4)⟩
theorem zN (vs:List V)(H:Hp)(Q:VK)(E:XK)(h:spM K bG vs H Q E):spM K gc vs H Q E∨spN K vs H Q E:=by
 obtain ⟨F1,Z,os,Cc,Pq,sf,sz,dj,ho,nd,fr,hcc,q⟩:=h
 unfold bG at hcc
 obtain ⟨d,rfl,sm,hl,hP⟩:=hcc
 by_cases W:∃ rows,d=.str (aZ rows)/\BookG rows/\eO (rows.map cu)
 ·obtain ⟨rows,rfl,hB,hR⟩:=W
  refine .inl ⟨F1,Z,_,Cc,Pq,sf,sz,dj,ho,nd,fr,?_,q⟩
  unfold gc
  exact ⟨rows,rfl,hB,hR,hP⟩
 ·obtain ⟨v,rfl⟩:=List.length_eq_one_iff.mp (show vs.length=1 from ho.length)
  have hd:Dens K F1 [v] [d]:=by
   cases ho with
   | cons h1 t1=>cases h1 with | fz d1=>exact .cons d1 .nil
  refine .inr ⟨F1,d,sf,hd,⟨d,rfl,sm,fun z e=>⟨hl z e,fun ⟨rows,hok,hR,e2⟩=>W ⟨rows,by rw [e,e2],⟨hok,by rw [← e2]; exact hl z e⟩,hR⟩⟩⟩,fun H' sH=>?_⟩
  exact q (.fz (.bl true)) _ (.bl true) F1 _ [] [] hP (Same.refl _) (sf.trans sH) (sz.trans sH) dj (tS hd) (.fz (.bl true)) aaP (fun _ z=>nomatch z)
theorem vL   (F:Fun K "_law_asked" "_law_asked" ge f fd) (T:Txt K mg) (O_read_book:Own P w K mg base "read_book" 7 ["text"] (spM K a8)) (O_law_read_book:Own P w K mg base "_law_read_book" 4 ["text"] (spM K ar)) (O_plain:Own P w K mg base "_law_plain_refusal" 1 ["caught"] (spX C))
  (R_read_book:OwnR P w K mg base "read_book" 7 ["text"] (spR K nr C)) (hmR:mg "ReadError" = some (.ref cR)) (hx:PySem.W.exmOne K (.ref C) (.ref cR)=some true):FnOk P w K mg base CX0 8 f fd ["text"] (spM K bG) :=
 ((zJ F T O_read_book O_law_read_book R_read_book hmR hx zK zL).or (zM F T O_read_book O_law_read_book O_plain R_read_book hmR hx)).imp zN
theorem i8 {d:D}{P:OV->List OV->Prop}(sm:smD d=true)(hl:∀ z,d=.str z->z.length<=120000)(h:P (.fz (.bl true)) [.fz d]):bG [.fz d] P:=by
 unfold bG
 exact ⟨d,rfl,sm,hl,h⟩
end
theorem Eu {ns:List Int}(h:∀ z:Int,P (.fz (.int z)) [.fz (.lst (ns.map .int)),.fz (.int k)]):bv [.fz (.lst (ns.map .int)),.fz (.int k)] P:=by
 unfold bv
 exact ⟨ns,k,rfl,h⟩
theorem HK {z:Int}(hk:k<=100)(h:∀ b0 b1 b2,BagB b1 b2 0->P (bC b0 b1 b2) [.fz (.int z),.fz (.int k)]):cq [.fz (.int z),.fz (.int k)] P:=by
 unfold cq
 exact ⟨z,k,rfl,hk,h⟩
@[irreducible] def nz:Ct:=fun os P=>∃ ns:List Int,os=[.fz (.lst (ns.map .int))]/\ns.length<=63/\P (.fz (.bl true)) os
abbrev Ko:List Str:=["a = signs \t", "a = signs \na", "a = any\n", "\n"]
theorem Ev:∀ z ∈ Ko,z.length<=100:=by decide +kernel
section
variable {P:Program}  {K:Frag}  
abbrev HL:Stmt:=top 62
abbrev JG:FS :=
  (ap (wY (dS (aa (fCB Ij (aa (fC (.int 1)) (aa (fCB Jk (aa (fC (.int 16)) (aa (fCB dY (aa (ac 0) ag)) ag))) ag))) ag)) (ad 1)
   (ap (gO 2 (ak cq (aa (fFz (ak bv (aa (fFz (ac 0)) (aa (fFz (ac 1)) ag)))) (aa (fFz (ac 1)) ag))))
  (ap (bB (ak ae (aa (ac 2) (aa (fC (.int 10)) ag))) (ad 3))
  (ap (bB (ak ae (aa (ac 2) (aa (fC (.int 3)) ag))) (ad 4))
  (ap (bB (ak b7 (aa (ac 2) ag)) (ad 5))
  (ap (bB (ak aP (aa (fFz (ac 5)) ag)) (ad 6))
  (ap (bB (fq (aa (ak b8 (aa (ac 2) ag)) (aa (ac 5) (aa (ak b9 (aa (ac 2) ag)) ag)))) (ad 7))
  (ap (fIf (Aw (ax (fOp aEq (ac 1) (fC (.int 0)))) (fQ (cj (fCB xl (aa (cV [] 1 (lK (ac 7)) (ad 0) mG (ak bG (aa (fFz (ac 0)) ag))) ag)))))
   (bp (fC (.bl false)))
   az)
  (ap (wY (dS (aa (ac 4) ag)) (ad 8)
   (bB (fSl dB (ak bE (aa (ac 2) (aa (fFz (ac 6)) ag))) au (bh (fC (.int 4000)))) (ad 6)))
  (ap (fIf (fQ (cj (ak bG (aa (fFz (ac 6)) ag))))
   (bp (fC (.bl false)))
   az)
  (ap (bB (fq (aa (fC .non) (aa (fC (.int 0)) (aa (fC (.bl true)) (aa (fq (aa (ac 6) ag)) (aa (qi (aa (ac 6) ag)) (aa (Kh 0) (aa (fq ag) (aa (fC (.int 7)) (aa (fC (.str "a = signs \t")) (aa (fC (.str "a = signs \na")) (aa (fC (.str "a = any\n")) (aa (fC (.str "\n")) ag))))))))))))) (ad 9))
  (fIf (Aw (ax (fOp (fI (fun i j=>decide (j < i)) fun i j=>aQ j i) (ac 3) (fC (.int 7)))) (fQ (cj (ak bG (aa (fFz (fOp aIx (ac 9) (ak ae (aa (ac 2) (aa (fC (.int 12)) ag))))) ag)))))
   (bp (fC (.bl false)))
   az))))))))))))
  (bp (fC (.bl true))))
theorem JH:Lh nz 1 []:=by delta nz
theorem JI:Hh nz JG [] 10:=by
 intro os P h
 unfold nz at h
 obtain ⟨ns,rfl,hns,q⟩:=h
 have sz:=bH
 ext
 rw [List.length_map]
 refine ⟨⟨?_,?_⟩,?_⟩
 ·split <;> split <;> nofun
 ·split <;> split <;> nofun
 ext
 refine cU (fun i ρ=>∃ x1 x2 x3 x4 x5 x6 x7 x8 x9:Option OV,ρ=[some (.fz (.lst (ns.map .int))),x1,x2,x3,x4,x5,x6,x7,x8,x9]) ⟨none,none,none,none,none,none,none,none,none,rfl⟩ ?_ ?_
 ·rintro i d ρ R hd ⟨x1,x2,x3,x4,x5,x6,x7,x8,x9,rfl⟩ kk
  obtain ⟨hi,rfl⟩:=bW hd
  have hi':i<=40:=by split at hi <;> split at hi <;> nofun
  ext
  rw [Int.zero_add]
  refine Eu fun c=>?_
  ext
  refine HK (by nofun) fun b0 b1 b2 hb=>?_
  ext
  refine aq 0 hb (by decide) (by decide) (by decide) fun odd b0 b1 b2 w0 w1 hb1=>?_
  ext
  refine aq _ hb1 (by decide) (by decide) (by decide) fun turns b0 b1 b2 t0 t1 hb2=>?_
  ext
  refine DM hb2 (by decide) fun rows b0 b1 b2 hB hb3=>?_
  have few:=hB.few
  have hG:=hB.g
  have hlen:=o8 hB.ok few
  ext
  refine vC hG ?_
  ext
  refine zD _ hb3 (by decide) fun lz b0 b1 b2 hlz hb4=>?_
  ext
  refine zI _ hb4 (by decide) fun mz b0 b1 b2 hmz hb5=>?_
  ext
  refine ⟨by rw [sz]; exact aa9 rfl,?_⟩
  have hsmB:smD (.lst (rows.map cu))=true:=uS hB.ok (by nofun)
  have hsmS:∀ z:Str,z.length<=120000->smD (.str z)=true:=fun z hz=>by simp only [smD,decide_eq_true_iff]; nofun
  ext
  refine bo True (fun _=>?_) (fun go=>?_)
  rotate_left
  ·ext
   refine ⟨aA,?_⟩
   ext
   refine ah ((i:Int)=0) aV (fun _=>?_) (fun _=>?_)
   ·ext
    refine bM (fun j as ρ=>∃ (x:Option OV),as=(List.replicate j true).map .bl/\ρ=[x,some (.fz (.lst (ns.map .int))),some (.fz (.int i)),some (bC b0 b1 b2),some (.fz (.int odd)),some (.fz (.int turns)),some (.fz (.lst (rows.map cu))),some (.fz (.str (aZ rows))),some (.fz (.lst [.str lz,.lst (rows.map cu),.str mz])),x8,x9]) ⟨none,rfl,rfl⟩ ?_ ?_
    ·rintro j d as ρ R2 hd2 ⟨x,rfl,rfl⟩ k2
     have hj:j < 3:=(List.getElem?_eq_some_iff.mp hd2).1
     have hm:=List.mem_of_getElem? hd2
     have ok:smD d=true/\∀ z,d=.str z->z.length<=120000:=by
      rcases List.mem_cons.mp hm with rfl | hm
      ·exact ⟨hsmS _ (by nofun),fun z e=>by cases e; nofun⟩
      rcases List.mem_cons.mp hm with rfl | hm
      ·exact ⟨hsmB,fun z e=>nomatch e⟩
      ·rw [List.mem_singleton.mp hm]
       exact ⟨hsmS _ (by nofun),fun z e=>by cases e; nofun⟩
     ext
     refine dM ?_
     ext
     refine i8 ok.1 ok.2 ?_
     ext
     refine ⟨by rw [List.length_map,aay]; nofun,k2 _ _ ⟨_,?_,rfl⟩⟩
     rw [List.replicate_succ',aae]
     rfl
    ·rintro as ρ ⟨x,rfl,rfl⟩
     ext
     exact gX (go trivial)
   ·exact gX (go trivial)
  ext
  refine ⟨⟨by nofun,by nofun⟩,?_⟩
  ext
  refine cU (fun j ρ=>∃ (z:Str) (b0 b1 b2:Int) (y8:Option OV),z.length<=4000/\BagB b1 b2 (6000+11 * j)/\ρ=[some (.fz (.lst (ns.map .int))),some (.fz (.int i)),some (bC b0 b1 b2),some (.fz (.int odd)),some (.fz (.int turns)),some (.fz (.lst (rows.map cu))),some (.fz (.str z)),some (.fz (.lst [.str lz,.lst (rows.map cu),.str mz])),y8,x9]) ⟨aZ rows,b0,b1,b2,_,hlen,hb5.mono (by decide),rfl⟩ ?_ ?_
  ·rintro j d ρ R2 hd2 ⟨z,b0,b1,b2,y8,hz,hb6,rfl⟩ kk2
   obtain ⟨hj,rfl⟩:=bW hd2
   have hj3:j<=2:=by nofun
   ext
   refine vI _ hb6 (by nofun) hz fun y b0 b1 b2 hy hb7=>?_
   ext
   refine ⟨hy,?_⟩
   exact kk2 _ ⟨_,b0,b1,b2,_,JF y,hb7.mono (by nofun),rfl⟩
  ·rintro ρ ⟨z,b0,b1,b2,y8,hz,hb6,rfl⟩
   have el:∀ m:Nat,(cf 0 m).length=m:=fun m=>by
    unfold cf; rw [List.length_map,List.length_range]
   rw [el] at hb6
   ext
   refine bo True (fun _=>?_) (fun go=>?_)
   rotate_left
   ·ext
    refine i8 (hsmS z (by nofun)) (fun y e=>by cases e; nofun) ?_
    ext
    exact gX (go trivial)
   ext
   refine ⟨ph,?_⟩
   ext
   refine ⟨ph,?_⟩
   ext
   intro a
   ext
   refine ⟨aam _,?_⟩
   ext
   refine ⟨by rw [sz]; exact aa9 rfl,?_⟩
   ext
   refine bd ?_
   ext
   refine ah (7 < odd) decide_eq_true_iff (fun _=>?_) (fun _=>?_)
   ·ext
    refine aq _ hb6 (by nofun) (by decide) (by decide) fun r b0 b1 b2 r0 r1 hb7=>?_
    ext
    refine iL r0 r1 fun d hd=>?_
    have hsz:=hsmS z (by nofun)
    have ok:smD d=true/\∀ y,d=.str y->y.length<=120000:=by
     have st:∀ y:Str,y ∈ Ko->smD (.str y)=true/\∀ y',D.str y=.str y'->y'.length<=120000:=fun y hy=>by
      have:=Ev y hy
      exact ⟨hsmS y (by nofun),fun y' e=>by cases e; nofun⟩
     have sub:∀ y:Str,smD (.str y)=true->smD (.lst [.str y])=true/\smD (.tup [.str y])=true:=fun y h=>by
      constructor
      ·show (decide (1<=1000000) && (smD (.str y) && true))=true
       rw [h]; rfl
      ·show (decide (1<=1000000) && (smD (.str y) && true))=true
       rw [h]; rfl
     simp only [List.mem_cons,List.not_mem_nil,or_false] at hd
     rcases hd with rfl | rfl | rfl | rfl | rfl | rfl | rfl | rfl | rfl | rfl | rfl | rfl
     ·exact ⟨rfl,fun y e=>nomatch e⟩
     ·exact ⟨rfl,fun y e=>nomatch e⟩
     ·exact ⟨rfl,fun y e=>nomatch e⟩
     ·exact ⟨(sub z hsz).1,fun y e=>nomatch e⟩
     ·exact ⟨(sub z hsz).2,fun y e=>nomatch e⟩
     ·exact ⟨rfl,fun y e=>nomatch e⟩
     ·exact ⟨by first | rfl | decide +kernel,fun y e=>nomatch e⟩
     ·exact ⟨rfl,fun y e=>nomatch e⟩
     ·exact st _ (by simp)
     ·exact st _ (by simp)
     ·exact st _ (by simp)
     ·exact st _ (by simp)
    ext
    refine i8 ok.1 ok.2 ?_
    ext
    exact gX (kk _ ⟨_,_,_,_,_,_,_,_,_,rfl⟩)
   ·exact gX (kk _ ⟨_,_,_,_,_,_,_,_,_,rfl⟩)
 ·rintro ρ ⟨x1,x2,x3,x4,x5,x6,x7,x8,x9,rfl⟩
  ext
  exact q
end
end KR
open PySem L2
local macro_rules | `(tactic| walk_at "f1") => `(tactic| (repeat' (first
  | (with_reducible exact Kf (by decide)) | (with_reducible apply Go) | (with_reducible apply iw) | (with_reducible apply qj) | (with_reducible apply bV) | (with_reducible apply de) | (with_reducible apply jy) | (with_reducible apply gE) | (with_reducible exact qZ (by decide)) | (with_reducible apply ix)
  | (with_reducible apply oj) | (with_reducible apply GM) | (with_reducible apply GK) | (with_reducible apply iD) | (with_reducible apply xD) | (with_reducible apply CW) | (with_reducible apply C4) | (with_reducible apply GL) | (with_reducible apply tz) | (with_reducible apply CY) | (with_reducible apply xf) | (with_reducible apply CZ) | (with_reducible apply C0) | (with_reducible apply xg) | (with_reducible apply na) | (with_reducible apply Do) | (with_reducible apply qG)
  | (with_reducible apply sS) | (with_reducible apply xW) | (with_reducible apply qk) | (with_reducible exact Jt (by decide)) | (with_reducible apply Je) | (with_reducible apply lI) | (with_reducible apply wR) | (with_reducible apply mX) | (with_reducible apply Gp) | (with_reducible apply wS) | (with_reducible apply AA) | (with_reducible apply AB) | (with_reducible apply Jg)
  | (with_reducible apply GN) | (with_reducible apply xj) | (with_reducible apply GQ) | (with_reducible apply xt) | (with_reducible apply C6) | (with_reducible apply ot) | (with_reducible apply GO) | (with_reducible apply GP) | (with_reducible apply GS) 
  | (with_reducible apply kc) | (with_reducible apply Jo) | (with_reducible apply CC) | (with_reducible apply CD)
  | (with_reducible apply CH) | (with_reducible apply lN) | (with_reducible apply fu) | (with_reducible apply CI) | (with_reducible apply CJ) | (with_reducible apply Gs) | (with_reducible apply wZ) | (with_reducible apply w9) | (with_reducible apply CL) | (with_reducible apply oD)
  | (with_reducible apply Hf) | (with_reducible apply lJ) | (with_reducible apply Gq) | (with_reducible apply Jf) | (with_reducible apply Az) 
  | (with_reducible exact gf_c (by decide) (by decide)) | (with_reducible apply sT) | (with_reducible apply mZ) | (with_reducible apply dw)
  | (with_reducible apply n8) | (with_reducible apply CF) | (with_reducible apply CG) | (with_reducible apply wW) | (with_reducible apply wX)
  | (with_reducible apply Ju) | (with_reducible apply Jv) | (with_reducible apply Dc) | (with_reducible apply Db) | (with_reducible apply t7) | (with_reducible apply kq) | (with_reducible apply kr) | (with_reducible apply Dp) | (with_reducible apply ul) | (with_reducible apply Jq)
  | (with_reducible apply m9) | (with_reducible apply m8) | (with_reducible apply CB) | (with_reducible apply Dq) | (with_reducible apply GU) | (with_reducible apply GW)
  | (with_reducible exact Jw rfl) | (with_reducible apply Hg) | (with_reducible apply DC) | exact rfl
  | (with_reducible exact cT (by decide)) | (with_reducible exact GV (by decide)) | (with_reducible exact oz (by decide)) | (show Program; exact Zz.P (by assumption)) | (show World; exact Zz.w (by assumption)) | decide)))
local macro_rules | `(tactic| walk_at "f2") => `(tactic| (repeat' (first
  | (with_reducible exact sk) | (with_reducible exact dF) | (with_reducible apply Ao) | (with_reducible apply DD) | (with_reducible apply aS) | (with_reducible apply bU) | (with_reducible apply cY) | (with_reducible apply cQ) | (with_reducible apply bq) | (with_reducible apply Gz) | exact rfl | exact Or.inl rfl | exact Or.inr rfl | exact Or.inr (Or.inl rfl) | assumption
  | (with_reducible apply I0) | (with_reducible apply nU) | (with_reducible apply lD) | ((with_reducible apply Jz); exact rfl) | (with_reducible apply eQ) | (with_reducible apply sx) | (with_reducible apply jd) | (with_reducible apply eP) | (with_reducible apply Ck) | (with_reducible apply F9) | (with_reducible apply wJ) | (with_reducible apply Cy) | (with_reducible apply km)
  | exact Room.units (by assumption) | exact IS (by assumption) | exact Room.gd (by assumption) | exact Room.mono (by assumption) (by decide) | exact fun _=>rfl | exact fun _ _=>rfl | exact sA (by decide) (by decide)
  | (with_reducible apply fP) | (with_reducible apply xX) | (with_reducible apply B9) | (with_reducible apply fO) | (with_reducible apply lA) | (with_reducible apply nT) | (with_reducible apply FY) | (with_reducible apply wD) | (with_reducible apply wI) | (with_reducible apply Aq) | (with_reducible apply lB) | (with_reducible apply wG) | (with_reducible apply tW) | (with_reducible apply Cf) | (with_reducible apply Cg) | (with_reducible apply Ca)
  | (with_reducible apply nW) | (with_reducible apply Ga) | (with_reducible apply oi) | (with_reducible apply xC) | (with_reducible apply Cl) | (with_reducible apply CO) | (with_reducible apply CP) | (with_reducible apply CQ) | (with_reducible apply CS) | (with_reducible apply CN) | (with_reducible apply qu) | (with_reducible apply Cm) | (with_reducible apply wK) | (with_reducible apply Cn) | (with_reducible apply Co) | (with_reducible apply wL) | (with_reducible apply j4) | (with_reducible apply nX) | (with_reducible apply Dj) | (with_reducible apply qE)
  | (with_reducible apply Gb) | (with_reducible apply oh) | (with_reducible apply Ge) | (with_reducible apply xr) | (with_reducible apply Cw) | (with_reducible apply n4) | (with_reducible apply Gc) | (with_reducible apply Gd) | (with_reducible apply GH) | (with_reducible apply Gh) | (with_reducible apply C8) | (with_reducible apply xq) 
  | (with_reducible exact bu) | (with_reducible exact se) | (with_reducible exact nR) | (with_reducible exact sd) | exact Or.inl ⟨_,rfl⟩ | exact Or.inr ⟨_,rfl⟩
  | (with_reducible apply lE) | (with_reducible apply Cj) | (with_reducible apply FZ) | (with_reducible apply F0) | (with_reducible apply Ja) | (with_reducible apply eY) 
  | (with_reducible apply dN) | (with_reducible apply sr) | (with_reducible apply mV) | (with_reducible apply du) | (with_reducible apply F6) | exact PassesOwn.never
  | (with_reducible apply sv) | (with_reducible apply sw) | (with_reducible apply su) | (with_reducible apply F7) | (with_reducible apply F8) | (with_reducible apply sq) | (with_reducible apply Ci)
  | (with_reducible apply Jy) | exact CompScope.of rfl rfl rfl | (intro C s H fp) | exact Jx rfl
  | (with_reducible apply im) | (with_reducible apply wF) | (with_reducible exact PySem.F.plainAttrs_list) | (with_reducible exact aaY) | (with_reducible exact PySem.F.slot_list_append) | (with_reducible exact PySem.F.type_list_append) | (with_reducible apply sy) | (with_reducible exact PySem.F.slot_str_join) | (with_reducible exact PySem.F.type_str_join) | (with_reducible apply Cp) 
  | (with_reducible exact PySem.F.slot_list_extend) | (with_reducible exact PySem.F.type_list_extend) | (with_reducible exact PySem.F.slot_list_reverse) | (with_reducible exact PySem.F.type_list_reverse) | (with_reducible exact PySem.F.slot_list_index) | (with_reducible exact PySem.F.type_list_index) | (with_reducible exact PySem.F.slot_list_remove) | (with_reducible exact PySem.F.type_list_remove) 
  | (with_reducible exact aaX) | (with_reducible exact PySem.F.type_str_split) | (with_reducible apply kn) | (with_reducible exact abd) | (with_reducible exact abK) | (with_reducible apply ko) | (with_reducible exact PySem.F.slot_str_find) | (with_reducible exact PySem.F.type_str_find) | (with_reducible apply Dm) | (with_reducible exact PySem.F.slot_str_upper) | (with_reducible exact PySem.F.type_str_upper) | (with_reducible apply xK)
  | (with_reducible apply so) | (with_reducible apply dG) | (with_reducible apply CV) | (with_reducible apply Hb) | (with_reducible apply Js) | (with_reducible apply Ap) | (with_reducible apply GT) | (with_reducible apply wt_w) | (with_reducible apply xF) | (with_reducible apply Cb) | apply wH | apply Cd | exact dF | exact sk | exact ⟨rfl,rfl,rfl,rfl⟩ | decide | decide +kernel)))
local macro_rules | `(tactic| walk_at "bd") => `(tactic| (intro cdv A outer s H E T nd hr; cases T; apply Exists.intro; apply And.intro; (focus walk_at "f1"); (focus ((conv => (arg 2; whnf)); walk_at "f2"))))
local macro_rules | `(tactic| walk_at "bn") => `(tactic| (first | exact fun _ _ _ _ _ _ us hl => (match us, hl with | [_], _ => rfl) | exact fun _ _ _ _ _ _ us hl => (match us, hl with | [_, _], _ => rfl) | exact fun _ _ _ _ _ _ us hl => (match us, hl with | [_, _, _], _ => rfl) | exact fun _ _ _ _ _ _ us hl => (match us, hl with | [_, _, _, _], _ => rfl) | exact fun _ _ _ _ _ _ us hl => (match us, hl with | [_, _, _, _, _], _ => rfl) | exact fun _ _ _ _ _ _ us hl => (match us, hl with | [], _ => rfl)))
local macro_rules | `(tactic| walk_at "o") => `(tactic| ((focus walk_at "bn"); (focus exact ⟨rfl, rfl, rfl, by decide +kernel, rfl, by decide +kernel, by decide +kernel⟩); walk_at "bd"))
local macro_rules | `(tactic| walk_at "ol") => `(tactic| ((focus exact ⟨rfl, rfl, rfl, by decide +kernel, rfl, by decide +kernel, by decide +kernel⟩); walk_at "bd"))
local macro_rules | `(tactic| walk_at "l") => `(tactic| (repeat (obtain ⟨x, h⟩ := h)))
namespace KR
section
variable {Z:Zz} {f:Addr} {fd:FuncData} (t:TopZ Z (Txt Z.K Z.mg))
include t
abbrev kQ (Z:Zz):Prop:=dJ Z "is_name" 1 ["thing"] bX
theorem zO (D:Df Z.K "is_name" oO f fd):kQ Z:=by
 refine aW ["thing"] t D yf yg ?_ ?_ ?_
 walk_at "o"
abbrev pB (Z:Zz):Prop:=dJ Z "is_sign" 1 ["sign"] cw
theorem zP (D:Df Z.K "is_sign" oP f fd):pB Z:=by
 refine aW ["sign"] t D yi yj ?_ ?_ ?_
 walk_at "o"
abbrev pD (Z:Zz):Prop:=dJ Z "is_text" 2 ["thing"] cv
theorem zQ (D:Df Z.K "is_text" oQ f fd) (_:pB Z):pD Z:=by
 refine aW ["thing"] t D ym yn ?_ ?_ ?_
 walk_at "o"
abbrev pE (Z:Zz):Prop:=dJ Z "are_rising_signs" 3 ["thing"] aB
theorem zR (D:Df Z.K "are_rising_signs" oR f fd) (_:pD Z):pE Z:=by
 refine aW ["thing"] t D yq yr ?_ ?_ ?_
 walk_at "o"
abbrev kS (Z:Zz):Prop:=dJ Z "is_form" 4 ["thing"] bI
theorem zS (D:Df Z.K "is_form" oU f fd) (_:pE Z) (_:kQ Z):kS Z:=by
 refine aW ["thing", "word"] t D yu yv ?_ ?_ ?_
 walk_at "o"
abbrev pF (Z:Zz):Prop:=dJ Z "is_rule" 5 ["thing"] cy
theorem zT (D:Df Z.K "is_rule" oV f fd) (_:kQ Z) (_:kS Z):pF Z:=by
 refine aW ["thing"] t D yx yz ?_ ?_ ?_
 walk_at "o"
abbrev vM (Z:Zz):Prop:=dJ Z "names_rise" 1 ["rows"] bD
theorem Ew (D:Df Z.K "names_rise" uI f fd):vM Z:=by
 refine aW ["rows"] t D DO DP ?_ ?_ ?_
 walk_at "o"
abbrev pG (Z:Zz):Prop:=dJ Z "is_book" 6 ["thing"] bP
theorem zU (D:Df Z.K "is_book" oW f fd) (_:pF Z) (_:vM Z):pG Z:=by
 refine aW ["thing"] t D yF yG ?_ ?_ ?_
 walk_at "o"
abbrev vN (Z:Zz):Prop:=dJ Z "read_form" 5 ["text"] bQ
theorem Ex (D:Df Z.K "read_form" kD f fd) (_:kS Z):vN Z:=by
 refine aW ["text", "word", "blank", "rest", "form"] t D DR DS ?_ ?_ ?_
 walk_at "o"
abbrev vO (Z:Zz):Prop:=dJ Z "read_rule" 6 ["text"] bj
theorem Ey (D:Df Z.K "read_rule" kH f fd) (_:vN Z):vO Z:=by
 refine aW ["text", "name", "mid", "rest"] t D DX DY ?_ ?_ ?_
 walk_at "o"
abbrev Ez (Z:Zz):Prop:=dJ Z "read_book" 7 ["text"] a8
theorem EA (D:Df Z.K "read_book" kI f fd) (_:vO Z) (_:pG Z):Ez Z:=by
 refine aW ["text", "book"] t D D0 D1 ?_ ?_ ?_
 walk_at "o"
abbrev A7 (Z:Zz):Prop:=dJ Z "_law_cell_at" 1 ["script", "k"] bv
theorem HM (D:Df Z.K "_law_cell_at" AO f fd):A7 Z:=by
 refine aW ["script", "k"] t D Hm Hn ?_ ?_ ?_
 walk_at "o"
abbrev HN (Z:Zz):Prop:=dJ Z "_law_bag" 1 ["cell", "place"] cq
theorem JJ (D:Df Z.K "_law_bag" Hk f fd):HN Z:=by
 refine aW ["cell", "place"] t D JB JC ?_ ?_ ?_
 walk_at "o"
abbrev cX (Z:Zz):Prop:=dJ Z "_law_draw" 1 ["bag", "many"] ae
theorem HP (D:Df Z.K "_law_draw" AQ f fd):cX Z:=by
 refine aW ["bag", "many", "found", "mixed"] t D Ho Hq ?_ ?_ ?_
 walk_at "o"
abbrev A8 (Z:Zz):Prop:=dJ Z "_law_name" 2 ["bag", "last"] b5
theorem HQ (D:Df Z.K "_law_name" AR f fd) (_:cX Z):A8 Z:=by
 refine aW ["bag", "last", "letters", "way", "letter", "at"] t D Hs Ht ?_ ?_ ?_
 walk_at "o"
abbrev vP (Z:Zz):Prop:=dJ Z "_law_names" 3 ["bag", "many"] bF
theorem EB (D:Df Z.K "_law_names" ut f fd) (_:A8 Z):vP Z:=by
 refine aW ["bag", "many", "found", "name", "k"] t D DH DI ?_ ?_ ?_
 walk_at "o"
abbrev vQ (Z:Zz):Prop:=dJ Z "_law_signs" 2 ["bag"] bO
theorem EC (D:Df Z.K "_law_signs" uv f fd) (_:cX Z):vQ Z:=by
 refine aW ["bag", "some", "many"] t D DK DL ?_ ?_ ?_
 walk_at "o"
abbrev A9 (Z:Zz):Prop:=dJ Z "_law_form" 3 ["bag", "names"] b6
theorem HR (D:Df Z.K "_law_form" AS f fd) (_:cX Z) (_:vQ Z):A9 Z:=by
 refine aW ["bag", "names", "words", "word", "many"] t D Hv Hw ?_ ?_ ?_
 walk_at "o"
abbrev Ba (Z:Zz):Prop:=dJ Z "_law_book" 4 ["bag"] b7
theorem HS (D:Df Z.K "_law_book" AT f fd) (_:cX Z) (_:vP Z) (_:A9 Z):Ba Z:=by
 refine aW ["bag", "later", "most", "many", "names", "found", "k"] t D Hy Hz ?_ ?_ ?_
 walk_at "o"
abbrev vR (Z:Zz):Prop:=dJ Z "_law_sign" 2 ["bag"] bK
theorem HU (D:Df Z.K "_law_sign" AX f fd) (_:cX Z):vR Z:=by
 refine aW ["bag", "some"] t D HF HH ?_ ?_ ?_
 walk_at "o"
abbrev i9 (Z:Zz):Prop:=dJ Z "_law_is_name" 1 ["thing"] ba
theorem vS (D:Df Z.K "_law_is_name" mq f fd):i9 Z:=by
 refine aW ["thing"] t D vb vc ?_ ?_ ?_
 walk_at "o"
abbrev jU (Z:Zz):Prop:=dJ Z "_law_is_signs" 1 ["thing"] bc
theorem qW (D:Df Z.K "_law_is_signs" jR f fd):jU Z:=by
 refine aW ["thing", "some", "places"] t D qP qQ ?_ ?_ ?_
 walk_at "o"
abbrev mF (Z:Zz):Prop:=dJ Z "_law_is_form" 2 ["thing"] bw
theorem vT (D:Df Z.K "_law_is_form" mr f fd) (_:jU Z) (_:i9 Z):mF Z:=by
 refine aW ["thing", "most"] t D ve vg ?_ ?_ ?_
 walk_at "o"
abbrev pH (Z:Zz):Prop:=dJ Z "_law_form_shown" 1 ["form"] aO
theorem zV (D:Df Z.K "_law_form_shown" pi f fd):pH Z:=by
 refine aW ["form", "text", "part"] t D zg zi ?_ ?_ ?_
 walk_at "o"
abbrev pJ (Z:Zz):Prop:=dJ Z "_law_book_shown" 2 ["book"] aP
theorem zW (D:Df Z.K "_law_book_shown" pw f fd) (_:pH Z):pJ Z:=by
 refine aW ["book", "text", "name", "form"] t D zx zy ?_ ?_ ?_
 walk_at "o"
abbrev pK (Z:Zz):Prop:=dJ Z "_law_words" 1 ["text"] bR
theorem zX (D:Df Z.K "_law_words" pj f fd):pK Z:=by
 refine aW ["text", "words", "sign"] t D zk zm ?_ ?_ ?_
 walk_at "o"
abbrev pL (Z:Zz):Prop:=dJ Z "_law_read_form" 3 ["text"] aX
theorem zY (D:Df Z.K "_law_read_form" pk f fd) (_:pK Z) (_:mF Z):pL Z:=by
 refine aW ["text", "form"] t D zp zq ?_ ?_ ?_
 walk_at "o"
abbrev zZ (Z:Zz):Prop:=dJ Z "_law_read_book" 4 ["text"] ar
theorem Aa (D:Df Z.K "_law_read_book" px f fd) (_:pL Z) (_:i9 Z):zZ Z:=by
 refine aW ["text", "book", "left", "at", "part", "name", "form"] t D zA zB ?_ ?_ ?_
 walk_at "o"
abbrev vU (Z:Zz):Prop:=dJ Z "_law_text_turned" 3 ["bag", "text"] aJ
theorem ED (D:Df Z.K "_law_text_turned" vi f fd) (_:cX Z) (_:vR Z):vU Z:=by
 refine aW ["bag", "text", "way", "at"] t D D4 D6 ?_ ?_ ?_
 walk_at "o"
abbrev vV (Z:Zz):Prop:=dJ Z "_law_whole_turned" 3 ["bag", "text"] aG
theorem EE (D:Df Z.K "_law_whole_turned" vn f fd) (_:cX Z) (_:vR Z):vV Z:=by
 refine aW ["bag", "text", "way", "words", "at", "place"] t D Eb Ed ?_ ?_ ?_
 walk_at "o"
abbrev vW (Z:Zz):Prop:=dJ Z "_law_long" 2 ["bag"] b8
theorem EG (D:Df Z.K "_law_long" vE f fd) (_:cX Z):vW Z:=by
 refine aW ["bag", "piece"] t D El Em ?_ ?_ ?_
 walk_at "o"
abbrev vX (Z:Zz):Prop:=dJ Z "_law_words_turned" 3 ["bag", "text"] aE
theorem EH (D:Df Z.K "_law_words_turned" vm f fd) (_:cX Z):vX Z:=by
 refine aW ["bag", "text", "words", "way", "at", "other", "some", "between"] t D D8 D9 ?_ ?_ ?_
 walk_at "o"
abbrev vY (Z:Zz):Prop:=dJ Z "_law_rules_turned" 2 ["bag", "text"] aH
theorem EI (D:Df Z.K "_law_rules_turned" vH f fd) (_:cX Z):vY Z:=by
 refine aW ["bag", "text", "rules", "way", "at", "other", "saved", "between"] t D Eo Ep ?_ ?_ ?_
 walk_at "o"
abbrev pM (Z:Zz):Prop:=dJ Z "_law_turned" 4 ["bag", "text"] bE
theorem Ab (D:Df Z.K "_law_turned" pz f fd) (_:cX Z) (_:vV Z) (_:vU Z) (_:vX Z) (_:vY Z):pM Z:=by
 refine aW ["bag", "text", "way"] t D zG zH ?_ ?_ ?_
 walk_at "o"
abbrev pN (Z:Zz):Prop:=dJ Z "_law_asked" 8 ["text"] bG
abbrev vZ (Z:Zz):Prop:=dJ Z "_law_many" 2 ["bag"] b9
theorem EJ (D:Df Z.K "_law_many" vJ f fd) (_:cX Z):vZ Z:=by
 refine aW ["bag", "letters", "rules", "k"] t D Es Et ?_ ?_ ?_
 walk_at "o"
theorem o_law (D:Df Z.K "law" HL f fd) (_:A7 Z) (_:HN Z) (_:cX Z) (_:Ba Z) (_:pJ Z) (_:vW Z) (_:vZ Z) (_:pN Z) (_:pM Z):FnOk Z.P Z.w Z.K Z.mg Z.base CX0 9 f fd ["script"] (spM Z.K nz):=by
 refine Hi ["script", "k", "bag", "odd", "turns", "book", "text", "more", "turn", "some"] t D JH JI ?_ ?_
 walk_at "ol"
end
end KR
open PySem L2
namespace KR
def Ac (K:Frag):Sp:=fun vs H Q _=>∃ (a:Addr) (ns:List Int),vs=[.ref a]/\SqL K H a (ns.map V.int)/\ns.length<=63/\∀ H',Q (.bl true) H'
variable{q:Program}{loose:List Str}{XP:(Str->Option Value)->Heap->Prop}
theorem HV {K:Frag}(vs:List V)(H:Hp)(Q:VK)(E:XK)(h:Ac K vs H Q E):spM K nz vs H Q E:=by
 obtain ⟨a,ns,rfl,hS,hl,q⟩:=h
 refine ⟨H,fun _=>none,[.fz (.lst (ns.map .int))],[],fun o _=>o=.fz (.bl true),Same.refl H,(fun _ _ z=>nomatch z),fun _ _ _=>rfl,.cons (.fz (.lst hS (Dens.ints ns))) .nil,aaP,(fun _ z=>nomatch z),?_,fun o os' v F' H' C' B e _ _ _ _ _ ow _ _=>?_⟩
 ·unfold nz
  exact ⟨ns,rfl,hl,rfl⟩
 ·subst e
  cases ow with
  | fz d=>rw [d.bl_eq]; exact q H'
theorem all_mk {l:PySem.W.OpenLaw} {w:World} {K:Frag} {h:Heap} {mg:Str->Option Value} {fa f0 f1 f2 f3 f4 f5 f6 f7 f8 f9 f10 f11 f12 f13 f14 f15 f16 f17 f18 f19 f20 f21 f22 f23 f24 f25 f26 f27 f28 f29 f30 f31 f32 f33 f34 f35 f36 f37:Addr} {u0 u1 u2 u3 u4 u5 u6 u7 u8 u9 u10 u11 u12 u13 u14 u15 u16 u17 u18 u19 u20 u21 u22 u23 u24 u25 u26 u27 u28 u29 u30 u31 u32 u33 u34 u35 u36 u37:FuncData} {C cR e0 e1 e2 e3 e4 e5 e6 e7 e8 e9:Addr} (X:K.In h) (G:h.Ns mainGlobals mg) (hfa:mg "law" = some (.ref fa))
  (d0:Df K "is_name" oO f0 u0)
  (d1:Df K "is_sign" oP f1 u1)
  (d2:Df K "is_text" oQ f2 u2)
  (d3:Df K "are_rising_signs" oR f3 u3)
  (d4:Df K "is_form" oU f4 u4)
  (d5:Df K "is_rule" oV f5 u5)
  (d6:Df K "names_rise" uI f6 u6)
  (d7:Df K "is_book" oW f7 u7)
  (d8:Df K "read_form" kD f8 u8)
  (d9:Df K "read_rule" kH f9 u9)
  (d10:Df K "read_book" kI f10 u10)
  (d11:Df K "_law_cell_at" AO f11 u11)
  (d12:Df K "_law_bag" Hk f12 u12)
  (d13:Df K "_law_draw" AQ f13 u13)
  (d14:Df K "_law_name" AR f14 u14)
  (d15:Df K "_law_names" ut f15 u15)
  (d16:Df K "_law_signs" uv f16 u16)
  (d17:Df K "_law_form" AS f17 u17)
  (d18:Df K "_law_book" AT f18 u18)
  (d19:Df K "_law_sign" AX f19 u19)
  (d20:Df K "_law_is_name" mq f20 u20)
  (d21:Df K "_law_is_signs" jR f21 u21)
  (d22:Df K "_law_is_form" mr f22 u22)
  (d23:Df K "_law_form_shown" pi f23 u23)
  (d24:Df K "_law_book_shown" pw f24 u24)
  (d25:Df K "_law_words" pj f25 u25)
  (d26:Df K "_law_read_form" pk f26 u26)
  (d27:Df K "_law_read_book" px f27 u27)
  (d28:Df K "_law_text_turned" vi f28 u28)
  (d29:Df K "_law_whole_turned" vn f29 u29)
  (d30:Df K "_law_long" vE f30 u30)
  (d31:Df K "_law_words_turned" vm f31 u31)
  (d32:Df K "_law_plain_refusal" kP f32 u32)
  (d33:Df K "_law_rules_turned" vH f33 u33)
  (d34:Df K "_law_turned" pz f34 u34)
  (d35:Df K "_law_asked" ge f35 u35)
  (d36:Df K "_law_many" vJ f36 u36)
  (d37:Df K "law" HL f37 u37)
  (z0:PySem.W.nsIn K mainGlobals "len" = some none)
  (z1:PySem.W.nsIn K mainGlobals "max" = some none)
  (z2:PySem.W.nsIn K mainGlobals "min" = some none)
  (z3:PySem.W.nsIn K mainGlobals "isinstance" = some none)
  (z4:PySem.W.nsIn K mainGlobals "all" = some none)
  (z5:PySem.W.nsIn K mainGlobals "sorted" = some none)
  (z6:PySem.W.nsIn K mainGlobals "range" = some none)
  (z7:PySem.W.nsIn K mainGlobals "str" = some none)
  (z8:PySem.W.nsIn K mainGlobals "list" = some none)
  (z9:PySem.W.nsIn K mainGlobals "tuple" = some none)
  (z10:PySem.W.nsIn K mainGlobals "set" = some none)
  (z11:PySem.W.nsIn K mainGlobals "ord" = some none)
  (z12:PySem.W.nsIn K mainGlobals "ValueError" = some none) {tk0:Tok}
  (gl0:PySem.W.nsIn K mainGlobals "LETTERS" = some (some (.str "abcdefghijklmnopqrstuvwxyz" tk0))) {tk1:Tok}
  (gl1:PySem.W.nsIn K mainGlobals "MOST_LETTERS" = some (some (.int 8 tk1))) {tk2:Tok}
  (gl2:PySem.W.nsIn K mainGlobals "MOST_SIGNS" = some (some (.int 40 tk2))) {tk3:Tok}
  (gl3:PySem.W.nsIn K mainGlobals "MOST_PARTS" = some (some (.int 8 tk3))) {tk4:Tok}
  (gl4:PySem.W.nsIn K mainGlobals "BARRED_SIGN" = some (some (.int 37 tk4))) {ta0:Addr} {odt0:Option Addr} {nt0:Nat} {slt0:Array (Option Value)} {tt0_0 tt0_1:Tok}
  (ga0:PySem.W.nsIn K mainGlobals "WORDS_ALONE" = some (some (.ref ta0)))
  (gt0:K.lookup ta0=some ⟨.type "tuple", odt0,.seq #[.str "none" tt0_0,.str "any" tt0_1] nt0,slt0⟩) {ta1:Addr} {odt1:Option Addr} {nt1:Nat} {slt1:Array (Option Value)} {tt1_0 tt1_1 tt1_2:Tok}
  (ga1:PySem.W.nsIn K mainGlobals "WORDS_WITH_ONE" = some (some (.ref ta1)))
  (gt1:K.lookup ta1=some ⟨.type "tuple", odt1,.seq #[.str "again" tt1_0,.str "ahead" tt1_1,.str "not" tt1_2] nt1,slt1⟩) {ta2:Addr} {odt2:Option Addr} {nt2:Nat} {slt2:Array (Option Value)} {tt2_0 tt2_1:Tok}
  (ga2:PySem.W.nsIn K mainGlobals "WORDS_WITH_SOME" = some (some (.ref ta2)))
  (gt2:K.lookup ta2=some ⟨.type "tuple", odt2,.seq #[.str "row" tt2_0,.str "first" tt2_1] nt2,slt2⟩)
  (x0:PySem.W.nsIn K mainGlobals "NoText" = some (some (.ref C)))
  (x1:PySem.W.nsIn K mainGlobals "ReadError" = some (some (.ref cR)))
  (x2:PySem.W.nsIn K mainGlobals "Loops" = some (some (.ref e0)))
  (x3:PySem.W.nsIn K mainGlobals "NoBook" = some (some (.ref e1)))
  (x4:PySem.W.nsIn K mainGlobals "NoDeed" = some (some (.ref e2)))
  (x5:PySem.W.nsIn K mainGlobals "NoForm" = some (some (.ref e3)))
  (x6:PySem.W.nsIn K mainGlobals "NoName" = some (some (.ref e4)))
  (x7:PySem.W.nsIn K mainGlobals "NoPlace" = some (some (.ref e5)))
  (x8:PySem.W.nsIn K mainGlobals "NoRow" = some (some (.ref e6)))
  (x9:PySem.W.nsIn K mainGlobals "NoRows" = some (some (.ref e7)))
  (x10:PySem.W.nsIn K mainGlobals "NoRule" = some (some (.ref e8)))
  (x11:PySem.W.nsIn K mainGlobals "TooMany" = some (some (.ref e9)))
  (xe:en K C)
  (xf1:PySem.W.findIn K (.ref C) "__getattribute__" = some (some (.builtin "BaseException.__getattribute__")))
  (xf2:PySem.W.findIn K (.ref C) "__getattr__" = some none)
  (xf3:PySem.W.findIn K (.ref C) "__class__" = some (some (.builtin "object.__class__")))
  (xf4:PySem.W.specialIn K (.builtin "object.__class__") "__get__" = some (some (.builtin "getset_descriptor.__get__")))
  (xf5:PySem.W.takesIn K (.builtin "object.__class__")=some true)
  (xf6:PySem.W.mroIn K C (.type "object")=some true)
  (xf7:PySem.W.mroIn K C (.type "BaseException")=some true)
  (xs:PySem.W.subIn K (.ref cR) (.type "BaseException")=some true)
  (xk:PySem.W.kitOne K (.ref C) (.ref cR)=some true)
  (xn:(Value.ref C == Value.ref cR)=false)
  (xa:PySem.W.kitAny K (.ref C) ([e0,e1,e2,e3,e4].map Value.ref)=some false)
  (xb:PySem.W.kitAny K (.ref C) ([e5,e6,e7,e8,e9].map Value.ref)=some false)
  (xv:PySem.W.kitOne K (.ref C) (.type "ValueError")=some true)
  : ∃ fd:FuncData,(∀ (s:Shared) (v:Value),BindsTo s fd ⟨[v],[]⟩ [("script", v)])/\∀ base:Heap,K.In base->base.Ns mainGlobals mg->FnOk l.prog w K mg base CX0 9 fa fd ["script"] (Ac K):=by
 have e:=hfa.symm.trans (aap X G d37.ns)
 cases e
 have T:Txt K mg:=⟨aav X G z0,aav X G z1,aav X G z2,aav X G z3,aav X G z4,aav X G z5,aav X G z6,aav X G z7,aav X G z8,aav X G z9,aav X G z10,aav X G z11,aav X G z12,⟨_,aap X G gl0,⟨_,rfl⟩⟩,⟨_,aap X G gl1,⟨_,rfl⟩⟩,⟨_,aap X G gl2,⟨_,rfl⟩⟩,⟨_,aap X G gl3,⟨_,rfl⟩⟩,⟨_,aap X G gl4,⟨_,rfl⟩⟩,⟨ta0,aap X G ga0,fun _=>.inr ⟨_,_,_,gt0,rfl,rfl,(by show 2<=sizeLine; decide),(.cons ⟨_,rfl⟩ (.cons ⟨_,rfl⟩ Paired.nil))⟩⟩,⟨ta1,aap X G ga1,fun _=>.inr ⟨_,_,_,gt1,rfl,rfl,(by show 3<=sizeLine; decide),(.cons ⟨_,rfl⟩ (.cons ⟨_,rfl⟩ (.cons ⟨_,rfl⟩ Paired.nil)))⟩⟩,⟨ta2,aap X G ga2,fun _=>.inr ⟨_,_,_,gt2,rfl,rfl,(by show 2<=sizeLine; decide),(.cons ⟨_,rfl⟩ (.cons ⟨_,rfl⟩ Paired.nil))⟩⟩⟩
 refine ⟨u37,?_,fun base _ _=>?_⟩
 ·obtain ⟨oc,od,kV,doc,pm,an,cdv,ct,osl,rfl,lk,hcd⟩:=d37.fn.ex
  exact fun s v=>.of_eq rfl
 have t:TopZ ⟨l.prog,w,K,mg,base,h⟩ (Txt K mg):=⟨X,G,T⟩
 have O_isname:=zO t d0
 have O_issign:=zP t d1
 have O_istext:=zQ t d2 O_issign
 have O_rising:=zR t d3 O_istext
 have O_isform:=zS t d4 O_rising O_isname
 have O_isrule:=zT t d5 O_isname O_isform
 have O_nrise:=Ew t d6
 have O_isbook:=zU t d7 O_isrule O_nrise
 have O_readf:=Ex t d8 O_isform
 have O_readr:=Ey t d9 O_readf
 have O_readb:=EA t d10 O_readr O_isbook
 have O_cell:=HM t d11
 have O_bag:=JJ t d12
 have O_draw:=HP t d13
 have O_name:=HQ t d14 O_draw
 have O_names:=EB t d15 O_name
 have O_signs:=EC t d16 O_draw
 have O_form:=HR t d17 O_draw O_signs
 have O_book:=HS t d18 O_draw O_names O_form
 have O_sign:=HU t d19 O_draw
 have O_lisname:=vS t d20
 have O_lissigns:=qW t d21
 have O_lisform:=vT t d22 O_lissigns O_lisname
 have O_lshowf:=zV t d23
 have O_lshowb:=zW t d24 O_lshowf
 have O_lwords:=zX t d25
 have O_lreadf:=zY t d26 O_lwords O_lisform
 have O_lreadb:=Aa t d27 O_lreadf O_lisname
 have O_tturn:=ED t d28 O_draw O_sign
 have O_aturn:=EE t d29 O_draw O_sign
 have O_llong:=EG t d30 O_draw
 have O_wturn:=EH t d31 O_draw
 have O_lplain:Own l.prog w K mg base "_law_plain_refusal" 1 ["caught"] (spX C):=AN X G d32 (vG d32.fn T (xB xe xf1 xf2 xf3 xf4 xf5 xf6 xf7) (aap X G x0) (aap X G x2) (aap X G x3) (aap X G x4) (aap X G x5) (aap X G x6) (aap X G x7) (aap X G x8) (aap X G x9) (aap X G x10) (aap X G x11) xa xb xv) (by walk_at "bn")
 have O_rturn:=EI t d33 O_draw
 have O_turned:=Ab t d34 O_draw O_aturn O_tturn O_wturn O_rturn
 have R_read_form:OwnR l.prog w K mg base "read_form" 5 ["text"] (spR K uN C):=nj X G d8 (uQ d8.fn T O_isform (aap X G x0) xe) (by walk_at "bn")
 have R_read_rule:OwnR l.prog w K mg base "read_rule" 6 ["text"] (spR K uO C):=nj X G d9 (uT d9.fn T R_read_form) (by walk_at "bn")
 have R_read_book:OwnR l.prog w K mg base "read_book" 7 ["text"] (spR K nr C):=nj X G d10 (uU d10.fn T O_readr R_read_rule O_isbook (aap X G x0) xe) (by walk_at "bn")
 have O_lasked:pN ⟨l.prog,w,K,mg,base,h⟩:=AN X G d35 (vL d35.fn T O_readb O_lreadb O_lplain R_read_book (aap X G x1) (G1 xs xk xn)) (by walk_at "bn")
 have O_lmany:=EJ t d36 O_draw
 exact (o_law t d37 O_cell O_bag O_draw O_book O_lshowb O_llong O_lmany O_lasked O_turned).imp HV
theorem walk {l:PySem.W.OpenLaw}{YP:World->Heap->Prop}{d:DefRec}{K:Params->Frag}(hn:l.most=some 63)(hdf:d.params.defaults=[])
  (hY:∀ (w:World) (h:Heap),YP w h->(K w.params).In h)
  (F:∀ (w:World) (mg:Str->Option Value) (fa:Addr) (h:Heap),(K w.params).In h->h.Ns mainGlobals mg->mg d.name=some (.ref fa) ->
   ∃ fd:FuncData,(∀ (s:Shared) (u:Value),BindsTo s fd ⟨[u],[]⟩ [("script", u)])/\∀ base:Heap,(K w.params).In base->base.Ns mainGlobals mg->FnOk l.prog w (K w.params) mg base CX0 9 fa fd ["script"] (Ac (K w.params))) :
  PySem.W.WalkO q loose XP YP l.row.toRowW d [] (fun f vs=>PySem.call f vs) :=
 L2.walk_of (n:=63) (k:=9) (x := "script") (CX:=fun _=>CX0) (sp:=fun w=>Ac (K w.params)) hn (by decide) hdf ⟨rfl,by decide,by decide,rfl⟩ hY F (fun _ _ a ns hl _ hS=>⟨a,ns,rfl,hS,hl,fun _=>rfl⟩) fun _ _ _ _ _ z=>z
theorem walkX {r:PySem.W.RowW}{d:DefRec}{kwd:List (Str×Expr)}{run:Value->List Value->Sem Value}{K:Params->Frag}{as:List Addr}{n t:Nat}(e:∀ P,as=(K P).map (·.1))(W:PySem.W.WalkO q loose XP (fun w h=>(K w.params).In h) r d kwd run) :
  PySem.W.WalkX q loose XP (PySem.W.X.obsZ as) (PySem.W.X.valZ K n t) r d kwd run:=by
 intro w s₀ s₁ mg mb G y a o pm cd doc dV kV ho hd hcd hD hmg hg args vals as' L hpre hlay hrd hwl hlo
 exact W w s₀ s₁ mg mb G (PySem.W.InK.keeps w _ _ (PySem.W.X.z_facts e y).2.1 L.keeps) a o pm cd doc dV kV ho hd hcd hD hmg hg args vals as' hpre hlay hrd hwl hlo
end KR
open PySem PySem.W PyProof.Rows
local macro_rules | `(tactic| walk_at "df") => `(tactic| (refine' L2.df_mk ?a ?l ?c ?k; (case a => k_is); (case l => k_is); (case c => k_is); (case k => k_is)))
def PySem.W.Fast.tw13847064930924667360 : Nat := 0
def PySem.W.Fast.tw14091806890098566825 : Nat := 0
def PySem.W.Fast.tw342784265390538228 : Nat := 0
def PySem.W.Fast.tw8925071272611179643 : Nat := 0
def PySem.W.Fast.tw16733101340519728577 : Nat := 0
def PySem.W.Fast.tw17789241815404762477 : Nat := 0
def PySem.W.Fast.tw8936358032748126096 : Nat := 0
def PySem.W.Fast.tw6817513257604559021 : Nat := 0
def PySem.W.Fast.tw1809753445598738635 : Nat := 0
def PySem.W.Fast.tw12288114701202839248 : Nat := 0
def PySem.W.Fast.tw15720626981708780090 : Nat := 0
def PySem.W.Fast.tw7016869189074662195 : Nat := 0
def PySem.W.Fast.tw6231305431419516935 : Nat := 0
def PySem.W.Fast.tw14599971107554024970 : Nat := 0
def PySem.W.Fast.tw14097468040184906036 : Nat := 0
def PySem.W.Fast.tw11449505806006065940 : Nat := 0
def PySem.W.Fast.tw14337753458415123537 : Nat := 0
def PySem.W.Fast.tw13617905395929359189 : Nat := 0
def PySem.W.Fast.tw12642618890874345205 : Nat := 0
def PySem.W.Fast.tw9266445214316721854 : Nat := 0
def PySem.W.Fast.tw7285892636127594797 : Nat := 0
def PySem.W.Fast.tw14194623354304796944 : Nat := 0
def PySem.W.Fast.tw1562628052175216765 : Nat := 0
def PySem.W.Fast.tw3595889839685598700 : Nat := 0
def PySem.W.Fast.tw8197461467778792296 : Nat := 0
def PySem.W.Fast.tw3228974104784465728 : Nat := 0
def PySem.W.Fast.tw4058277931379727153 : Nat := 0
def PySem.W.Fast.tw40235178013727476 : Nat := 0
def PySem.W.Fast.tw11523716563506061781 : Nat := 0
def PySem.W.Fast.tw10841694551122501197 : Nat := 0
def PySem.W.Fast.tw1273976190302602341 : Nat := 0
def PySem.W.Fast.tw3755247241984621454 : Nat := 0
def PySem.W.Fast.tw998515786226637157 : Nat := 0
def PySem.W.Fast.tw5357368993518650483 : Nat := 0
def PySem.W.Fast.tw12587642071984234267 : Nat := 0
def PySem.W.Fast.tw15534253367630237371 : Nat := 0
def PySem.W.Fast.tw12217956204121964210 : Nat := 0
def PySem.W.Fast.tw13047001823097980325 : Nat := 0
def PySem.W.Fast.tw15189514230354515567 : Nat := 0
def PySem.W.Fast.tw5790854695228534467 : Nat := 0
def PySem.W.Fast.tw9590154456607181590 : Nat := 0
def PySem.W.Fast.tw3564378127974099685 : Nat := 0
def PySem.W.Fast.tw13686192465303635062 : Nat := 0
def PySem.W.Fast.tw13735565445840367164 : Nat := 0
def PySem.W.Fast.tw15040595880822395204 : Nat := 0
def PySem.W.Fast.tw12472046230805687835 : Nat := 0
def PySem.W.Fast.tw1590340206796448726 : Nat := 0
def PySem.W.Fast.tw10213351006470162605 : Nat := 0
def PySem.W.Fast.tw13899159625603954419 : Nat := 0
def PySem.W.Fast.tw16284862830741794630 : Nat := 0
def PySem.W.Fast.tw4262173895354550432 : Nat := 0
def PySem.W.Fast.tw11713795537116420915 : Nat := 0
def PySem.W.Fast.tw13199233038703294335 : Nat := 0
def PySem.W.Fast.tw17728907709348873279 : Nat := 0
def PySem.W.Fast.tw11930787618680522386 : Nat := 0
def PySem.W.Fast.tw1455078729378166965 : Nat := 0
def PySem.W.Fast.tw12575088850733394642 : Nat := 0
def PySem.W.Fast.tw11019109683541303161 : Nat := 0
def PySem.W.Fast.tw2468613795685121527 : Nat := 0
def PySem.W.Fast.tw15662449478366829669 : Nat := 0
set_option maxRecDepth 100000 in
set_option maxHeartbeats 0 in
theorem PySem.Challenge.cw_keptreading_k48_texts_of_no_book_holds : PySem.Challenge.rw_keptreading_k48_texts_of_no_book.Holds := by
  w_on; o_law; z_head; (case hw=>w_witness2)
  k_fill
  refine KR.walkX (fun _=>rfl) (KR.walk (l:=PySem.Challenge.rw_keptreading_k48_texts_of_no_book) rfl rfl (fun w h Y=>Y) ?F)
  case F =>
    intro w mg fa h KX G hmg
    refine' KR.all_mk KX G hmg ?d0 ?d1 ?d2 ?d3 ?d4 ?d5 ?d6 ?d7 ?d8 ?d9 ?d10 ?d11 ?d12 ?d13 ?d14 ?d15 ?d16 ?d17 ?d18 ?d19 ?d20 ?d21 ?d22 ?d23 ?d24 ?d25 ?d26 ?d27 ?d28 ?d29 ?d30 ?d31 ?d32 ?d33 ?d34 ?d35 ?d36 ?d37 ?z0 ?z1 ?z2 ?z3 ?z4 ?z5 ?z6 ?z7 ?z8 ?z9 ?z10 ?z11 ?z12 ?gl0 ?gl1 ?gl2 ?gl3 ?gl4 ?ga0 ?gt0 ?ga1 ?gt1 ?ga2 ?gt2 ?x0 ?x1 ?x2 ?x3 ?x4 ?x5 ?x6 ?x7 ?x8 ?x9 ?x10 ?x11 ?xe ?xf1 ?xf2 ?xf3 ?xf4 ?xf5 ?xf6 ?xf7 ?xs ?xk ?xn ?xa ?xb ?xv
    (case d0=>walk_at "df"); (case d1=>walk_at "df"); (case d2=>walk_at "df"); (case d3=>walk_at "df"); (case d4=>walk_at "df"); (case d5=>walk_at "df")
    (case d6=>walk_at "df"); (case d7=>walk_at "df"); (case d8=>walk_at "df"); (case d9=>walk_at "df"); (case d10=>walk_at "df"); (case d11=>walk_at "df")
    (case d12=>walk_at "df"); (case d13=>walk_at "df"); (case d14=>walk_at "df"); (case d15=>walk_at "df"); (case d16=>walk_at "df"); (case d17=>walk_at "df")
    (case d18=>walk_at "df"); (case d19=>walk_at "df"); (case d20=>walk_at "df"); (case d21=>walk_at "df"); (case d22=>walk_at "df"); (case d23=>walk_at "df")
    (case d24=>walk_at "df"); (case d25=>walk_at "df"); (case d26=>walk_at "df"); (case d27=>walk_at "df"); (case d28=>walk_at "df"); (case d29=>walk_at "df")
    (case d30=>walk_at "df"); (case d31=>walk_at "df"); (case d32=>walk_at "df"); (case d33=>walk_at "df"); (case d34=>walk_at "df"); (case d35=>walk_at "df")
    (case d36=>walk_at "df"); (case d37=>walk_at "df"); (case z0=>k_is); (case z1=>k_is); (case z2=>k_is); (case z3=>k_is)
    (case z4=>k_is); (case z5=>k_is); (case z6=>k_is); (case z7=>k_is); (case z8=>k_is); (case z9=>k_is)
    (case z10=>k_is); (case z11=>k_is); (case z12=>k_is); (case gl0=>k_is); (case gl1=>k_is); (case gl2=>k_is)
    (case gl3=>k_is); (case gl4=>k_is); (case ga0=>k_is); (case gt0=>k_is); (case ga1=>k_is); (case gt1=>k_is)
    (case ga2=>k_is); (case gt2=>k_is); (case x0=>k_is); (case x1=>k_is); (case x2=>k_is); (case x3=>k_is)
    (case x4=>k_is); (case x5=>k_is); (case x6=>k_is); (case x7=>k_is); (case x8=>k_is); (case x9=>k_is)
    (case x10=>k_is); (case x11=>k_is); (case xe=>(show PySem.W.excIn _ _ [.type "ValueError", .type "Exception", .type "BaseException", .type "object"] "ValueError.__new__" = true; k_exc)); (case xf1=>k_is); (case xf2=>k_is); (case xf3=>k_is)
    (case xf4=>k_is); (case xf5=>k_is); (case xf6=>k_is); (case xf7=>k_is); (case xs=>k_is); (case xk=>kit_is)
    (case xn=>first | rfl | decide); (case xa=>kit_is); (case xb=>kit_is); (case xv=>kit_is)
