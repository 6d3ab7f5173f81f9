import PyProof.Rows.All
import Wide.All
import OpenK.AllK
import Wide.FinOn
import Lean
import PyProof.EqAt
import PyProof.EqKinds
import PyProof.TupleCall
import PySem.Challenge.RW_keptreading_k13_again_and_again
set_option genSizeOf false
set_option genSizeOfSpec false
set_option genInjectivity false
set_option Elab.async false
set_option linter.all false
set_option maxRecDepth 100000
open PySem.W (Frag)
noncomputable section
local macro_rules|`(tactic|nofun) => `(tactic|(first|lia|omega))
local macro_rules|`(tactic|exists $h:term) => `(tactic|(first|exact List.mem_singleton.mp $h|simpa using $h))
local macro_rules|`(tactic|ext) => `(tactic|(conv => whnf))
set_option compiler.extract_closed false
def abK:=@List.length_map
def abL:=@List.mem_append
def abM:=@List.map_cons
def abN:=@List.mem_singleton
def abO:=@List.length_cons
def abP:=@Bool.false_ne_true
def abQ:=@List.mem_cons
def abR:=@List.mem_map
def abS:=@List.nodup_cons
def abT:=@List.size_toArray
def abU:=@Array.length_toList
def abV:=@List.nodup_append
def abW:=@Bool.and_eq_true_iff
def abX:=@List.mem_filter
def abY:=@Bool.and_eq_true
def abZ:=@Option.isSome_iff_exists
def ab0:=@List.forall_mem_cons
def ab1:=@Bool.eq_false_iff
def ab2:=@List.mem_range
def ab3:=@List.all_eq_true
def ab4:=@List.length_range
def ab5:=@List.zip_cons_cons
def ab6:=@List.pairwise_iff_getElem
def ab7:=@List.mem_filterMap
def ab8:=@Option.map_eq_some_iff
def ab9:=@List.not_lt
def aca:=@Nat.lt_trans
def acb:=@Nat.le_of_lt
def acd:=@List.any_map
def aaa:=@PySem.wpAny_bind
def aab:=@List.mem_cons_self
def aac:=@Nat.le_refl
def aad:=@List.mem_cons_of_mem
def aae:=@PySem.wpAny_pure
def aaf:=@List.map_append
def aag:=@List.length_append
def aah:=@PySem.Heap.lt_size
def aai:=@List.mem_append_right
def aaj:=@Option.some.inj
def aak:=@Nat.ne_of_lt
def aal:=@List.take_of_length_le
def aam:=@List.mem_append_left
def aan:=@Nat.lt_of_lt_of_le
def aao:=@List.length_take
def aap:=@Option.map_eq_some_iff
def aaq:=@Nat.zero_le
def aar:=@PySem.W.mg_none_of
def aas:=@List.append_assoc
def aat:=@List.take_succ
def aau:=@Nat.le_trans
def aav:=@List.map_map
def aaw:=@List.drop_eq_getElem_cons
def aax:=@PySem.W.kia_one
def aay:=@List.append_nil
def aaz:=@List.Nodup.length_le_of_subset
def aaA:=@List.eq_nil_of_length_eq_zero
def aaB:=@List.nodup_nil
def aaC:=@PySem.wpAny_call_entry
def aaD:=@List.Perm.refl
def aaE:=@Nat.lt_succ_self
def aaF:=@List.length_replicate
def aaG:=@List.lookup_cons
def aaH:=@List.getElem_mem
def aaI:=@PySem.wpAny_holding
def aaJ:=@PySem.Around.under_plainId
def aaK:=@PySem.wpAny_truthy_bool
def aaL:=@PySem.wpAny_newObj_type
def aaM:=@Nat.lt_succ_of_lt
def aaN:=@List.length_set
def aaO:=@List.all_cons
def aaP:=@PySem.mem_of_lookup
def aaQ:=@PySem.W.mg_of
def aaR:=@Nat.lt_irrefl
def aaS:=@List.Perm.append_left
def aaT:=@List.filter_append
def aaU:=@PySem.Heap.size_push
def aaV:=@List.take_sublist
def aaW:=@Bool.not_eq_true'
def aaX:=@Nat.le_succ
def aaY:=@PySem.Calls.callWith_builtin
def aaZ:=@List.any_eq_true
def aa0:=@PySem.F.slot_dict_get
def aa1:=@PySem.Paired.length
def aa2:=@List.length_singleton
def aa3:=@List.length_filter_le
def aa4:=@List.drop_zero
def aa5:=@PyProof.Rows.slot_tuple_getitem
def aa6:=@Sum.inr.inj
def aa7:=@PySem.F.plainAttrs_dict
def aa8:=@Nat.add_sub_cancel_left
def aa9:=@List.map_congr_left
def aba:=@Int.eq_ofNat_of_zero_le
def abb:=@List.drop_length
def abd:=@List.Perm.append_right
def abe:=@PySem.wpAny_setField_rec
def abf:=@PySem.F.slot_dict_keyiterator_next
def abg:=@PySem.wpAny_passesOwn
def abh:=@List.perm_append_comm
def abi:=@PySem.wpAny_setState_of
def abj:=@List.foldl_append
def abk:=@Ne.symm
def abl:=@Array.toArray_toList
def abm:=@PyProof.Rows.F.plain_set_update_loop
def abn:=@PySem.wpAny_askSetting
def abo:=@Nat.succ_le_succ
def abp:=@PySem.wpAny_setEntries_of
def abq:=@List.length_reverse
def abr:=@List.getElem_of_mem
def abt:=@List.filterMap_cons
def abu:=@PySem.wpAny_mono
def abv:=@PySem.wpAny_getItem_str_slice
def abw:=@PySem.Calls.spliced_cons
def abx:=@Bool.eq_iff_iff
def aby:=@PySem.F.entry_dict_get
def abz:=@PySem.W.kitx_dict
def abA:=@List.set_set
def abB:=@List.length_drop
def abC:=@List.getElem_inj
def abD:=@List.mem_of_mem_take
def abE:=@PySem.Calls.evalArgs_plain
def abF:=@PySem.wpAny_attempt
def abG:=@List.any_cons
def abH:=@PySem.wpAny_rule
def abI:=@PySem.SeqAt.EqAt.same
def abJ:=@PyProof.Rows.callWith_type1
namespace L2
theorem aF(_:True:=by first|exact .inl rfl|exact .inr rfl|assumption):True:=trivial
theorem aD(_:True:=by decide):True:=trivial
theorem aI(_:True:=by intro _;rfl):True:=trivial
theorem aR(_:True:=by rfl):True:=trivial
end L2
namespace L2
open PySem PySem.Spec PyProof.Rows
variable{a b L it dx C:Addr}{u:Value}{P prog:Program}{w:World}{h h' base:Heap}{α:Type}{x name m qual:Str}{e c tg l:Expr}{g:Int->Int->Int}{p pos pos' apos:Pos}{pins:List (Addr×Obj)}{s s':Shared}{t' i j k n:Nat}{ch fp:List Addr}{N ps:List Str}{A:Around}{E Q:Value->Shared->Prop}{op op':CmpOp}{es:List Expr}{body:List Stmt}{f:Value->Value->Sem Value}{us:List Value}{mA mg:Str->Option Value}{pl:Sem Bool}{kw:List (Str×Value)}{fd:FuncData}{outer:List Env}{scope:Scope}
abbrev Key:=Sum Int Str
def jt:Key->Value->Bool
 |.inl k,v=>Value.isInt k v
 |.inr x,v=>Value.isStrOf x v
def keyH(w:World):Key->Int
 |.inl k=>hashInt k
 |.inr x=>hashStr w x
theorem aV:∀ {k:Key} {v:Value},jt k v=true->(∃ i t,k=Sum.inl i/\v=Value.int i t)∨(∃ x t,k=Sum.inr x/\v=Value.str x t)
 | .inl i,v,h=>by
  obtain⟨t,e⟩:=Value.isInt_shape (k:=i) (v:=v) h;exact .inl ⟨i,t,rfl,e⟩
 | .inr x,v,h=>by
  obtain⟨t,e⟩:=Value.isStrOf_shape (x:=x) (v:=v) h;exact .inr ⟨x,t,rfl,e⟩
theorem qw(i:Int)(t:Tok):jt (.inl i) (.int i t)=true:=by simp[jt,Value.isInt]
theorem kj(x:Str)(t:Tok):jt (.inr x) (.str x t)=true:=by simp[jt,Value.isStrOf]
theorem Gk(a b:Int):decide ((Sum.inl a:Key)=Sum.inl b)=(a==b):=by
 by_cases e:a=b
 ·subst e;simp
 ·have h:¬ (Sum.inl a:Key)=Sum.inl b:=λ q=>e (Sum.inl.inj q);rw[decide_eq_false h];exact(beq_eq_false_iff_ne.mpr e).symm
theorem Gm(a b:Str):decide ((Sum.inr a:Key)=Sum.inr b)=decide (a=b):=by
 by_cases e:a=b
 ·subst e;simp
 ·have h:¬ (Sum.inr a:Key)=Sum.inr b:=λ q=>e (aa6 q);rw[decide_eq_false h,decide_eq_false e]
theorem Gn(a:Int)(b:Str):decide ((Sum.inl a:Key)=Sum.inr b)=false:=decide_eq_false (λ q=>nomatch q)
theorem Go(a:Str)(b:Int):decide ((Sum.inr a:Key)=Sum.inl b)=false:=decide_eq_false (λ q=>nomatch q)
def aq(prog:Program)(w:World):PySem.KeyKind prog w Key where
 is:=jt
 hash:=keyH w
 inj:=λ v a b ha hb=>by
  rcases aV ha with ⟨i,t,rfl,rfl⟩|⟨x,t,rfl,rfl⟩
  ·rcases aV hb with ⟨j,u,rfl,e⟩|⟨y,u,rfl,e⟩
   ·injection e with e1 _;rw[e1]
   ·exact nomatch e
  ·rcases aV hb with ⟨j,u,rfl,e⟩|⟨y,u,rfl,e⟩
   ·exact nomatch e
   ·injection e with e1 _;rw[e1]
 byValue:=λ k v h=>by
  rcases aV h with ⟨i,t,rfl,rfl⟩|⟨x,t,rfl,rfl⟩ <;> rfl
 pyHash:=λ hv h=>by
  rcases aV hv with ⟨i,t,rfl,rfl⟩|⟨x,t,rfl,rfl⟩
  ·exact wpAny_pyHash_int h
  ·exact wpAny_pyHash_str h
 eqBool:=λ hu hv h=>by
  rcases aV hu with ⟨i,t,rfl,rfl⟩|⟨x,t,rfl,rfl⟩
  ·rcases aV hv with ⟨j,u,rfl,rfl⟩|⟨y,u,rfl,rfl⟩
   ·rw[Gk] at h;exact wpAny_eqBool_int h
   ·rw[Gn] at h;exact SeqAt.EqAt.int_str i t y u _ _ _ _ h
  ·rcases aV hv with ⟨j,u,rfl,rfl⟩|⟨y,u,rfl,rfl⟩
   ·rw[Go] at h;exact SeqAt.EqAt.str_int x t j u _ _ _ _ h
   ·rw[Gm] at h;exact wpAny_eqBool_str h
 «strs»:=λ k x t v h=>by
  rcases aV h with ⟨i,u,rfl,e⟩|⟨y,u,rfl,e⟩
  ·exact nomatch e
  ·injection e with e1 _
   subst e1
   cases v <;> rfl
theorem lZ(prog:Program)(w:World)(i:Int)(t:Tok):(aq prog w).is (.inl i) (.int i t)=true:=qw i t
theorem l0(prog:Program)(w:World)(x:Str)(t:Tok):(aq prog w).is (.inr x) (.str x t)=true:=kj x t
inductive V where
 |non|bl (b:Bool)|int (i:Int)|str (x:Str)|byt (b:Array UInt8)|flt (b:UInt64)|ref (a:Addr)|ty (n:String)
 deriving DecidableEq
variable{v y:V}{xs vs:List V}
def RelV:V->Value->Prop
 |.non,u=>u=Value.none
 |.bl b,u=>u=Value.bool b
 |.int i,u=>∃ t,u=Value.int i t
 |.str x,u=>∃ t,u=Value.str x t
 |.byt b,u=>∃ t,u=Value.bytes b t
 |.flt b,u=>∃ t,u=Value.float b t
 |.ref a,u=>u=Value.ref a
 |.ty n,u=>u=Value.type n
abbrev Vals:List V->List Value->Prop:=Paired RelV
theorem Vals.length{xs:List V}{us:List Value}(r:Vals xs us):xs.length=us.length:=aa1 r
theorem Vals.get:∀ {xs:List V} {us:List Value} {i:Nat} {x:V},Vals xs us->xs[i]?=some x->∃ u,us[i]?=some u/\RelV x u
 |_,_,_,_,.nil,e=>by simp at e
 |_,_,0,_,.cons r _,e=>by simp at e;subst e;exact⟨_,rfl,r⟩
 | _,_,i+1,x,.cons _ t,e=>by
  obtain⟨u,h1,h2⟩:=Vals.get (i:=i) (x:=x) t (by exists e);exact⟨u,(by exists h1),h2⟩
theorem Vals.set{x:V}{u:Value}(r:RelV x u):∀ {xs:List V} {us:List Value} (i:Nat),Vals xs us->Vals (xs.set i x) (us.set i u)
 |_,_,_,.nil=>.nil
 |_,_,0,.cons _ t=>.cons r t
 |_,_,i+1,.cons q t=>.cons q (Vals.set r i t)
theorem Vals.append:∀ {xs ys:List V} {us ws:List Value},Vals xs us->Vals ys ws->Vals (xs++ys) (us++ws)
 |_,_,_,_,.nil,s=>s
 |_,_,_,_,.cons r t,s=>.cons r (Vals.append t s)
theorem Vals.take:∀ {xs:List V} {us:List Value} (n:Nat),Vals xs us->Vals (xs.take n) (us.take n)
 |_,_,0,_=>.nil
 |_,_,_+1,.nil=>.nil
 |_,_,n+1,.cons r t=>.cons r (Vals.take n t)
theorem Vals.drop:∀ {xs:List V} {us:List Value} (n:Nat),Vals xs us->Vals (xs.drop n) (us.drop n)
 |_,_,0,r=>r
 |_,_,_+1,.nil=>.nil
 |_,_,n+1,.cons _ t=>Vals.drop n t
def RelO:Option V->Option Value->Prop
 |some v,some u=>RelV v u
 |none,none=>True
 |_,_=>False
def KV{κ:Type}:List (κ×V)->List (κ×Value)->Prop:=Paired λ (p:κ×V) (q:κ×Value)=>p.1=q.1/\RelV p.2 q.2
def kV:Key->V
 |.inl i=>.int i
 |.inr x=>.str x
inductive HO where
 |lst (xs:List V)
 |tup (xs:List V)
 |dK (kvs:List (Key×V))|dT (kvs:List (List Key×V))
 |set (S:Int->Bool) (n:Nat)
 |ins (C dx:Addr) (fs:List (Str×V))
 |own (x:Addr)
 |xd (fs:List (Str×V))
 |met (f x:Addr)
 |rng (lo hi:Int)
 |frz (o:Obj) (u:HO)
 |tbl (ps:Array Value)
 |ext (φ:Heap->Prop)
variable{o:HO}
abbrev Hp:=Addr->Option HO
variable{H H':Hp}{R:V->V->Hp->Prop}
def upd(H:Hp)(a:Addr)(o:HO):Hp:=λ b=>if b=a then some o else H b
theorem ae :upd H a o a=some o:=by unfold upd;rw[if_pos rfl]
theorem af(h:b≠a):upd H a o b=H b:=by unfold upd;rw[if_neg h]
theorem Ly{u:HO}(h:H a=some o)(h':H b=some u)(d:o≠u):a≠b:=by
 intro e;subst e;rw[h] at h';exact d (aaj h')
theorem bq(h:H a=some o)(h':H b=none):a≠b:=by
 intro e;subst e;rw[h] at h';cases h'
section
variable (P:Program) (w:World)
def ObjOk(H:Hp)(h:Heap)(a:Addr):HO->Prop
 |.lst xs=>xs.length<=sizeLine/\∃ (its:List Value) (n:Nat),Vals xs its/\h.get? a=some { cls:=.type "list", data:=.seq its.toArray n }
 |.tup xs=>xs.length<=sizeLine/\∃ its:List Value,Vals xs its/\IsTup h a its.toArray
 |.dK kvs=>kvs.length<=sizeLine/\(a==sysModules)=false/\∃ vs,KV kvs vs/\h.DictOf (aq P w) a vs
 | .dT kvs=>kvs.length<=sizeLine/\(a==sysModules)=false/\∃ xs:List (List Key×Addr×Value),
   Paired (λ (p:List Key×V) (q:List Key×Addr×Value)=>p.1=q.1/\H q.2.1=some (.tup (p.1.map kV))/\RelV p.2 q.2.2) kvs xs /\
   ∃ o es ep,h.get? a=some o/\o.ExactDict/\o.data=.dict es ep/\es.toList=xs.map (entryOfKey (tupleKind (aq P w)))/\(xs.map (·.1)).Nodup
 |.set S n=>h.SetOf (intKind P w) a S n
 | .ins C dx fs=>H dx=some (.own a)/\fs.length<=1000/\dx≠a/\h.get? a=some (PySem.W.instObj C dx) /\
   ∃ mA,h.Ns1 dx mA/\(∀ f,RelO (fs.lookup f) (mA f))/\PySem.Within mA (fs.map (·.1))
 |.own _=>∃ o,h.get? a=some o
 |.xd fs=>∃ mA,h.Ns1 a mA/\∀ f,RelO (fs.lookup f) (mA f)
 |.rng lo hi=>∃ t u v,h.get? a=some { cls:=.type "range", data:=.fields #[.int lo t,.int hi u,.int 1 v] }
 |.frz o u=>h.get? a=some o/\ObjOk H h a u
 |.tbl ps=>h.get? a=some { cls:=.none,data:=.fields ps }
 |.met f x=>h.get? a=some (PySem.W.methodObj (.ref f) (.ref x))
 |.ext φ=>φ h/\(∃ o,h.get? a=some o)/\∀ h1 h2:Heap,φ h1->(∀ o,h1.get? a=some o->h2.get? a=some o)->φ h2
def HOk(H:Hp)(h:Heap):Prop:=∀ a o,H a=some o->ObjOk P w H h a o
end
theorem ObjOk.lt(x:ObjOk P w H h a o):a<h.objs.size:=by
 cases o with
 |lst xs=>obtain⟨_,_,_,_,e⟩:=x;exact aah e
 |tup xs=>obtain⟨_,_,_,p⟩:=x;exact p.lt
 |dK kvs=>obtain⟨_,_,_,_,o,_,_,e,_⟩:=x;exact aah e
 |dT kvs=>obtain⟨_,_,_,_,o,_,_,e,_⟩:=x;exact aah e
 |set S n=>obtain⟨o,_,_,_,e,_⟩:=x;exact aah e
 |ins C dx fs=>obtain⟨_,_,_,e,_⟩:=x;exact aah e
 |own y=>obtain⟨_,e⟩:=x;exact aah e
 |xd fs=>obtain⟨_,⟨_,_,_,e,_⟩,_⟩:=x;exact aah e
 |rng lo hi=>obtain⟨_,_,_,e⟩:=x;exact aah e
 |frz ob u=>obtain⟨e,_⟩:=x;exact aah e
 |tbl ps=>exact aah (show h.get? a=some _ from x)
 |met f y=>exact aah (show h.get? a=some _ from x)
 |ext φ=>obtain⟨_,⟨_,e⟩,_⟩:=x;exact aah e
theorem Paired.mapP{β:Type}{F G:α->β->Prop}{l₁:List α}{l₂:List β}(h:Paired F l₁ l₂)(f:∀ a b,F a b->G a b):Paired G l₁ l₂:=by
 induction h with
 |nil=>exact .nil
 |cons r t ih=>exact .cons (f _ _ r) ih
theorem ObjOk.stay(x:ObjOk P w H h a o)(k:∀ b u,(b=a∨H b=some (.own a))->h.get? b=some u->h'.get? b=some u)
  (ho:∀ b,H b=some (.own a)->H' b=some (.own a)) (ht:∀ b xs,H b=some (.tup xs)->H' b=some (.tup xs)):ObjOk P w H' h' a o:=by
 induction o with
 |lst xs=>obtain⟨z,its,n,r,e⟩:=x;exact⟨z,its,n,r,k _ _ (.inl rfl) e⟩
 |tup xs=>obtain⟨z,its,r,ob,e,c⟩:=x;exact⟨z,its,r,ob,k _ _ (.inl rfl) e,c⟩
 |dK kvs=>obtain⟨z,y,vs,r,ob,es,ep,e,c⟩:=x;exact⟨z,y,vs,r,ob,es,ep,k _ _ (.inl rfl) e,c⟩
 | dT kvs=>
  obtain⟨z,y,xs,r,ob,es,ep,e,c⟩:=x;exact⟨z,y,xs,Paired.mapP r λ p q z=>⟨z.1,ht _ _ z.2.1,z.2.2⟩,ob,es,ep,k _ _ (.inl rfl) e,c⟩
 |set S n=>obtain⟨ob,es,ep,t,e,c⟩:=x;exact⟨ob,es,ep,t,k _ _ (.inl rfl) e,c⟩
 | ins C dx fs=>
  obtain⟨d,z,ne,e,mA,⟨od,es,ep,e2,c⟩,r⟩:=x;exact⟨ho _ d,z,ne,k _ _ (.inl rfl) e,mA,⟨od,es,ep,k _ _ (.inr d) e2,c⟩,r⟩
 |own y=>obtain⟨ob,e⟩:=x;exact⟨ob,k _ _ (.inl rfl) e⟩
 |xd fs=>obtain⟨mA,⟨od,es,ep,e,c⟩,r⟩:=x;exact⟨mA,⟨od,es,ep,k _ _ (.inl rfl) e,c⟩,r⟩
 |rng lo hi=>obtain⟨t,u,v,e⟩:=x;exact⟨t,u,v,k _ _ (.inl rfl) e⟩
 |frz ob u ih=>obtain⟨e,q⟩:=x;exact⟨k _ _ (.inl rfl) e,ih q⟩
 | tbl ps=>
  have e:h.get? a=some { cls:=.none,data:=.fields ps }:=x;show h'.get? a=some { cls:=.none,data:=.fields ps };exact k a _ (.inl rfl) e
 | met f y=>
  have e:h.get? a=some (PySem.W.methodObj (.ref f) (.ref y)):=x;show h'.get? a=some (PySem.W.methodObj (.ref f) (.ref y));exact k a _ (.inl rfl) e
 |ext φ=>obtain⟨p,⟨o,e⟩,st⟩:=x;exact⟨st _ _ p λ o q=>k _ _ (.inl rfl) q,⟨o,k _ _ (.inl rfl) e⟩,st⟩
theorem HOk.lt(x:HOk P w H h)(e:H a=some o):a<h.objs.size:=(x a o e).lt
theorem HOk.fresh(x:HOk P w H h)(e:h.objs.size<=a):H a=none:=by
 cases q:H a with
 |none=>rfl
 |some u=>exact absurd (aan (x.lt q) e) (aaR _)
theorem HOk.kept(x:HOk P w H h)(k:∀ b u,h.get? b=some u->h'.get? b=some u):HOk P w H h':=λ a o e=>
 (x a o e).stay (λ b u _ q=>k b u q) (λ _ q=>q) λ _ _ q=>q
theorem HOk.laid(x:HOk P w H h)(k:∀ b u,h.get? b=some u->h'.get? b=some u)(hp:h.objs.size<=a)(new:ObjOk P w (upd H a o) h' a o):HOk P w (upd H a o) h':=λ b u e=>by
 have hn:=x.fresh hp;by_cases hb:b=a
 ·subst hb;rw[ae] at e;cases e;exact new
 ·rw[af hb] at e;exact(x b u e).stay (λ c v _ q=>k c v q) (λ c q=>by rw[af (bq q hn)];exact q) λ c xs q=>by rw[af (bq q hn)];exact q
def Rd(H:Hp)(a:Addr)(u:HO):Prop:=H a=some u∨∃ o,H a=some (.frz o u)
theorem Rd.ok{u:HO}(r:Rd H a u)(x:HOk P w H h):ObjOk P w H h a u:=by
 rcases r with r|⟨o,r⟩
 ·exact x a u r
 ·obtain⟨_,q⟩:=x a _ r;exact q
def Mut:Option HO->Prop
 |some (.lst _)=>True
 |some (.dK _)=>True
 |some (.dT _)=>True
 |some (.set _ _)=>True
 |some (.ins _ _ _)=>True
 |some (.ext _)=>True
 |_=>False
section
variable     {x e:Addr} {o':HO}
theorem HOk.write(ok:HOk P w H h)(mu:Mut (H x))(he:e=x∨H e=some (.own x))(k:∀ b u,b≠e->h.get? b=some u->h'.get? b=some u)(heo:∃ u,h'.get? e=some u)
  (new:ObjOk P w (upd H x o') h' x o'):HOk P w (upd H x o') h':=λ b u q=>by
 have nown:∀ c y,H c=some (.own y)->c≠x:=λ c y r z=>by subst z;rw[r] at mu;exact mu
 have ntup:∀ c xs,H c=some (.tup xs)->c≠x:=λ c xs r z=>by subst z;rw[r] at mu;exact mu
 by_cases hb:b=x
 ·subst hb;rw[ae] at q;cases q;exact new
 ·rw[af hb] at q;by_cases hbe:b=e
  ·have q':H b=some (.own x):=by
    rcases he with z|z
    ·exact absurd (hbe.trans z) hb
    ·rw[hbe];exact z
   rw[q] at q';cases q';obtain⟨v,hv⟩:=heo;exact⟨v,by rw[hbe];exact hv⟩
  ·refine(ok b u q).stay (λ c v hc r=>k c v ?_ r) (λ c r=>by rw[af (nown c b r)];exact r) λ c xs r=>by rw[af (ntup c xs r)];exact r
   rcases hc with rfl|hc
   ·exact hbe
   ·rintro rfl;rcases he with z|z
    ·exact nown c b hc z
    ·rw[hc] at z;cases z;exact hb rfl
end
structure Un(fs ex:List Addr)(H H':Hp)(h h':Heap):Prop where
 keep:∀ b o,h.get? b=some o->H b=none->b∉fs->b∉ex->h'.get? b=some o
 slot:∀ b o,h.get? b=some o->H b=none->b∈fs->b∉ex->∃ sl,h'.get? b=some { o with slots:=sl }
 free:∀ b o,h.get? b=some o->H b=none->b∉ex->H' b=none
 there:∀ b o,h.get? b=some o->b∉ex->∃ o',h'.get? b=some o'
 tups:∀ b xs,H b=some (.tup xs)->H' b=some (.tup xs)
 frzs:∀ b o u,H b=some (.frz o u)->H' b=some (.frz o u)
 tbls:∀ b ps,H b=some (.tbl ps)->∃ more,H' b=some (.tbl (ps++more))
section
variable {fs fs' ex ex':List Addr} {H1 H2:Hp} {h1 h2:Heap} {x e:Addr} 
theorem Un.any(u:Un fs ex H H1 h h1){ob:Obj}(q:h.get? b=some ob)(n:H b=none)(hx:b∉ex):∃ sl,h1.get? b=some { ob with slots:=sl }:=by
 by_cases hb:b∈fs
 ·exact u.slot b ob q n hb hx
 ·exact⟨ob.slots,u.keep b ob q n hb hx⟩
theorem Un.kept(k:∀ b u,h.get? b=some u->h'.get? b=some u):Un fs ex H H h h':=
 ⟨λ b ob q _ _ _=>k b ob q,λ b ob q _ _ _=>⟨ob.slots,k b ob q⟩,λ _ _ _ n _=>n,λ b ob q _=>⟨ob,k b ob q⟩,λ _ _ q=>q,λ _ _ _ q=>q,λ _ ps q=>⟨#[],by rw[q];simp⟩⟩
theorem Un.refl:Un fs ex H H h h:=Un.kept λ _ _ q=>q
theorem Un.laid(k:∀ b u,h.get? b=some u->h'.get? b=some u)(hp:h.objs.size<=a)(hn:H a=none):Un fs ex H (upd H a o) h h' where
 keep:=λ b u q _ _ _=>k b u q
 slot:=λ b u q _ _ _=>⟨u.slots,k b u q⟩
 free:=λ b u q n _=>by rw[af (aak (aan (aah q) hp))];exact n
 there:=λ b u q _=>⟨u,k b u q⟩
 tups:=λ b xs q=>by rw[af (bq q hn)];exact q
 frzs:=λ b u xs q=>by rw[af (bq q hn)];exact q
 tbls:=λ b ps q=>⟨#[],by rw[af (bq q hn),q];simp⟩
theorem Un.write(mu:Mut (H x))(he:e=x∨H e=some (.own x))(k:∀ b u,b≠e->h.get? b=some u->h'.get? b=some u)(heo:∃ u,h'.get? e=some u):Un fs ex H (upd H x o) h h':=by
 have hx:∀ b,H b=none->b≠x:=λ b n z=>by subst z;rw[n] at mu;exact mu
 have hb:∀ b,H b=none->b≠e:=λ b n z=>by
  subst z;rcases he with r|r
  ·exact hx b n r
  ·rw[n] at r;cases r
 have hm:∀ b u,H b=some u->¬ Mut (some u)->b≠x:=λ b u q nm z=>by subst z;rw[q] at mu;exact nm mu
 refine⟨λ b u q n _ _=>k b u (hb b n) q,λ b u q n _ _=>⟨u.slots,k b u (hb b n) q⟩,λ b u q n _=>by rw[af (hx b n)];exact n,λ b u q _=>?_,
  λ b xs q=>by rw[af (hm b _ q λ z=>z)];exact q,λ b u xs q=>by rw[af (hm b _ q λ z=>z)];exact q,λ b ps q=>⟨#[],by rw[af (hm b _ q λ z=>z),q];simp⟩⟩
 by_cases hbe:b=e
 ·subst hbe;exact heo
 ·exact⟨u,k b u hbe q⟩
end
def trk(h:Heap)(H:Hp):List Addr:=(List.range h.objs.size).filter λ a=>(H a).isSome
def vK(h:Heap)(H:Hp):Heap:=PySem.W.hideAll h (trk h H)
theorem qx(h:Heap)(H:Hp):(vK h H).objs.size=h.objs.size:=PySem.W.hideAll_size _ _
theorem vL{o:Obj}(e:h.get? b=some o)(n:H b=none):(vK h H).get? b=some o:=
 PySem.W.hideAll_get _ e λ hm=>by
  have q:(H b).isSome=true:=(abX.mp hm).2;rw[n] at q;simp at q
theorem Bm{o:Obj}(e:(vK h H).get? b=some o):h.get? b=some o/\H b=none:=by
 have e':h.get? b=some o:=PySem.W.of_hideAll (trk h H) e;refine⟨e',?_⟩
 cases q:H b with
 |none=>rfl
 | some x=>
  have hm:b∈trk h H:=abX.mpr ⟨ab2.mpr (aah e'),by simp[q]⟩;have z:(vK h H).get? b=none:=PySem.W.hideAll_none (trk h H) hm;rw[z] at e;cases e
def ju(g h:Heap)(L:Addr):List (Addr×Obj):=(List.range h.objs.size).filterMap λ a=>if a=L∨(g.get? a).isSome=true then none else (h.get? a).map λ o=>(a,o)
theorem eJ{g:Heap}{o:Obj}(h1:a≠L)(h2:g.get? a=none)(h3:h.get? a=some o):(a,o)∈ju g h L:=
 ab7.mpr ⟨a,ab2.mpr (aah h3),by simp[h1,h2,h3]⟩
theorem iL{g:Heap}{p:Addr×Obj}(hp:p∈ju g h L):p.1≠L/\g.get? p.1=none/\h.get? p.1=some p.2:=by
 obtain⟨b,_,e⟩:=ab7.mp hp;split at e
 ·cases e
 ·rename_i hn
  cases q:h.get? b with
  |none=>rw [q] at e;simp at e
  | some u=>
   rw[q] at e;simp only[Option.map_some,Option.some.injEq] at e;subst e;refine⟨λ z=>hn (.inl z),?_,q⟩;show g.get? b=none
   cases r:g.get? b with
   |none=>rfl
   |some v=>exact(hn (.inr (by simp[r]))).elim
def rest(g h:Heap)(L d:Addr):List (Addr×Obj):=(ju g h L).filter λ p=>decide (p.1≠d)
theorem vM{g:Heap}:News g L h (ju g h L):=λ p hp=>let ⟨a,b,c⟩:=iL hp;⟨c,a,b⟩
structure Mod(K:Frag)(mg:Str->Option Value)(base:Heap):Prop where
 kin:K.In base
 glob:base.Ns mainGlobals mg
 blt:∃ mb,base.Ns builtinsNs mb/\∀ x:Str,x ≠ "__name__" -> mb x=bootBuiltins x
 nolimit:base.NoLimit
structure Cx where
 prog:Program
 w:World
 K:Frag
 mg:Str->Option Value
 base:Heap
 A:Around
 N:List Str
 s₀:Shared
 H₀:Hp
 env:Env
 outer:List Env
 stack:List Env
 ex:List Addr
 fn:Str->Bool
 calm:Bool
 pn:List (Addr×Obj)
 xe:Value->Shared->Prop
variable{X:Cx}
def frs(l:List Env):List Addr:=l.filterMap (·.frame)
abbrev Cx.fs(X:Cx):List Addr:=frs X.outer
def Vis(sc:Scope)(x:Str):Prop:=sc.names.lookup x=some .local∨sc.names.lookup x=some .cell∨sc.names.lookup x=some .free
def Loc(sc:Scope)(x:Str):Prop:=sc.names.lookup x=some .local∨sc.names.lookup x=some .cell
def Look(env:Env)(h:Heap)(m:Str->Option Value)(x:Str)(u:Value):Prop:=
 (env.kindOf x=some .local/\m x=some u)∨((env.kindOf x=some .cell∨env.kindOf x=some .free)/\∃ c,env.cells.lookup x=some c/\h.IsCell c (some u))
structure Cx.Ok(X:Cx):Prop where
 mod:Mod X.K X.mg X.base
 kind:X.env.scope.kind=.function
 glob:X.env.globals=mainGlobals
 blt:X.env.builtins=builtinsNs
 above:X.s₀.heap.objs.size<=X.env.locals
 inj:∀ x y c,X.env.cells.lookup x=some c->X.env.cells.lookup y=some c->x=y
 has:∀ x,(X.env.kindOf x=some .cell∨X.env.kindOf x=some .free)->∃ c,X.env.cells.lookup x=some c
 cab:∀ x c,X.fn x=true->X.env.cells.lookup x=some c->X.s₀.heap.objs.size<=c
 hd:X.calm=true->X.A.handled=none
 frames:X.A.frames=some X.stack
 stk:X.stack=X.outer∨(X.stack=X.env::X.outer/\X.env.frame=some X.env.locals)
 exf:∀ b∈X.ex,b≠X.env.locals/\∀ x c,X.env.cells.lookup x=some c->c≠b
 bs:∀ b o,X.base.get? b=some o->X.s₀.heap.get? b=some o/\X.H₀ b=none
 bsz:X.base.objs.size<=X.s₀.heap.objs.size
 noex:∀ b o,X.base.get? b=some o->b∉X.ex
 exfs:∀ b∈X.ex,b∉X.fs
 funs:X.s₀.heap.FunFrames X.base X.outer
 frf:∀ b∈X.fs,X.H₀ b=none
structure Inv(X:Cx)(pins:List (Addr×Obj))(σ:List (Option V))(H:Hp)(s:Shared):Prop where
 ok:X.Ok
 os:s.os=X.s₀.os
 bare:AllBare s.gens
 base:Un X.fs X.ex X.H₀ H X.s₀.heap s.heap
 loc:∃ m,s.heap.Ns X.env.locals m/\∀ (i:Nat) (x:Str) (v:V),X.N[i]?=some x->σ[i]?=some (some v)->Vis X.env.scope x->∃ u,RelV v u/\Look X.env s.heap m x u
 cell:∀ x c,X.env.cells.lookup x=some c->∃ v,s.heap.IsCell c v
 free:H X.env.locals=none
 freeC:∀ x c,X.env.cells.lookup x=some c->H c=none
 pin:∀ p∈X.pn++pins,s.heap.get? p.1=some p.2/\H p.1=none/\p.1≠X.env.locals/\p.1∉X.fs/\∀ v,p.2.data≠.cell v
 hok:HOk X.prog X.w H s.heap
 len:σ.length=X.N.length
section
variable   {σ:List (Option V)}   
theorem Cx.Ok.nofr(ok:X.Ok){o:Obj}(e:X.base.get? b=some o):b∉X.fs:=λ hb=>by
 have:=(ok.funs.mem hb).1;rw[e] at this;cases this
theorem Inv.bs(I:Inv X pins σ H s):∀ b o,X.base.get? b=some o->s.heap.get? b=some o/\H b=none:=λ b o e=>
 ⟨I.base.keep b o (I.ok.bs b o e).1 (I.ok.bs b o e).2 (I.ok.nofr e) (I.ok.noex b o e),I.base.free b o (I.ok.bs b o e).1 (I.ok.bs b o e).2 (I.ok.noex b o e)⟩
theorem Inv.bk(I:Inv X pins σ H s):∀ b o,X.base.get? b=some o->s.heap.get? b=some o:=λ b o e=>(I.bs b o e).1
theorem Inv.mod(I:Inv X pins σ H s):Mod X.K X.mg X.base:=I.ok.mod
theorem Inv.kIn(I:Inv X pins σ H s):X.K.In s.heap:=I.ok.mod.kin.keeps I.bk
theorem Inv.lt(I:Inv X pins σ H s):X.env.locals<s.heap.objs.size:=let ⟨_,hn,_⟩:=I.loc;hn.lt
theorem Inv.sz(I:Inv X pins σ H s):X.s₀.heap.objs.size<=s.heap.objs.size:=aau I.ok.above (acb I.lt)
theorem Inv.nofs(I:Inv X pins σ H s)(h:s.heap.objs.size<=a):a∉X.fs:=λ hb=>by
 obtain⟨_,o,ho,_⟩:=I.ok.funs.mem hb;exact absurd (aan (aah ho) (aau I.sz h)) (aaR _)
theorem Inv.cne(I:Inv X pins σ H s):∀ x c,X.env.cells.lookup x=some c->c≠X.env.locals:=λ x c e z=>by
 obtain⟨v,o,ho,hd⟩:=I.cell x c e;obtain⟨m,⟨o',es,ep,ho',hd',_⟩,_⟩:=I.loc;rw[z,ho'] at ho;cases ho;rw[hd'] at hd;cases hd
theorem Inv.funs(I:Inv X pins σ H s):s.heap.FunFrames X.base X.outer:=by
 have all:∀ (l:List Env),(∀ b∈frs l,b∈X.fs)->X.s₀.heap.FunFrames X.base l->s.heap.FunFrames X.base l:=by
  intro l
  induction l with
  |nil=>intro _ _;trivial
  | cons env r ih=>
   intro hs hl;obtain⟨hk,⟨L,o,hf,hn,ho,hd⟩,hr⟩:=hl;have hL:L∈X.fs:=hs L (by unfold frs;rw[abt,hf];exact aab);obtain⟨sl,e⟩:=I.base.slot L o ho (I.ok.frf L hL) hL λ z=>I.ok.exfs L z hL;exact⟨hk,⟨L,_,hf,hn,e,hd⟩,ih (λ b hb=>hs b (by unfold frs;rw[abt,hf];exact aad _ hb)) hr⟩
 exact all X.outer (λ _ hb=>hb) I.ok.funs
theorem Inv.stack(I:Inv X pins σ H s):s.heap.FunFrames X.base X.stack:=by
 rcases I.ok.stk with e|⟨e,hf⟩
 ·rw[e];exact I.funs
 ·rw[e];obtain⟨m,hn,_⟩:=I.loc;refine .cons (by rw[I.ok.kind];decide) hf hn ?_ I.funs;exact Heap.get?_none_of_le (aau I.ok.bsz I.ok.above)
theorem Inv.stkSub(I:Inv X pins σ H s):∀ b∈frs X.stack,b∈X.env.locals::X.fs:=λ b hb=>by
 rcases I.ok.stk with e|⟨e,hf⟩
 ·rw[e] at hb;exact aad _ hb
 ·rw[e] at hb;unfold frs at hb;rw[abt,hf] at hb;exact hb
theorem Inv.stkFree(I:Inv X pins σ H s):∀ b∈frs X.stack,H b=none:=λ b hb=>by
 rcases abQ.mp (I.stkSub b hb) with e|hb
 ·rw[e];exact I.free
 ·obtain⟨_,o,ho,_⟩:=I.ok.funs.mem hb;exact I.base.free b o ho (I.ok.frf b hb) λ z=>I.ok.exfs b z hb
theorem Inv.step{g':Array GenState}{t':Nat}{d':Drawn}{ch:List Addr}(I:Inv X pins σ H s)
  (hch:∀ b∈ch,(b∈X.ex∨X.s₀.heap.objs.size<=b)/\b≠X.env.locals/\(∀ x c,X.env.cells.lookup x=some c->c≠b)/\∀ p∈X.pn++pins,p.1≠b)
  (keep:∀ b o,b≠X.env.locals->b∉X.fs->b∉ch->s.heap.get? b=some o->H b=none->h'.get? b=some o)
  (slot:∀ b o,b≠X.env.locals->b∈X.fs->b∉ch->s.heap.get? b=some o->H b=none->∃ sl,h'.get? b=some { o with slots:=sl }) (free:∀ b o,b∉ch->s.heap.get? b=some o->H b=none->H' b=none)
  (there:∀ b o,b∉ch->s.heap.get? b=some o->∃ o',h'.get? b=some o')
  (tups:∀ b xs,H b=some (.tup xs)->H' b=some (.tup xs)) (frzs:∀ b o u,H b=some (.frz o u)->H' b=some (.frz o u)) (tbls:∀ b ps,H b=some (.tbl ps)->∃ more,H' b=some (.tbl (ps++more)))
  (ns:∀ m,s.heap.Ns X.env.locals m->h'.Ns X.env.locals m) (hok:HOk X.prog X.w H' h') (hg:AllBare g') :
  Inv X pins σ H' { s with heap:=h',gens:=g',drawn:=d',toks:=t' }:=by
 have neL:∀ b o,X.s₀.heap.get? b=some o->b≠X.env.locals:=λ b o e=>aak (aan (aah e) I.ok.above)
 have neC:∀ b o,X.s₀.heap.get? b=some o->b∉X.ex->b∉ch:=λ b o e hx hb=>by
  rcases (hch b hb).1 with z|z
  ·exact hx z
  ·exact absurd (aan (aah e) z) (aaR _)
 have cellK:∀ x c,X.env.cells.lookup x=some c->∀ v,s.heap.IsCell c v->h'.IsCell c v:=λ x c e v ⟨o,ho,hd⟩=>by
  have nch:c∉ch:=λ z=>(hch c z).2.2.1 x c e rfl;by_cases hc:c∈X.fs
  ·obtain⟨sl,q⟩:=slot c o (I.cne x c e) hc nch ho (I.freeC x c e);exact⟨_,q,hd⟩
  ·exact⟨o,keep c o (I.cne x c e) hc nch ho (I.freeC x c e),hd⟩
 refine⟨I.ok,I.os,hg,⟨λ b o e n hb hx=>?_,λ b o e n hb hx=>?_,λ b o e n hx=>?_,λ b o e hx=>?_,λ b xs e=>tups b xs (I.base.tups b xs e),λ b o xs e=>frzs b o xs (I.base.frzs b o xs e),λ b ps e=>?_⟩,?_,λ x c e=>?_,?_,λ x c e=>?_,λ p hp=>?_,hok,I.len⟩
 ·exact keep b o (neL b o e) hb (neC b o e hx) (I.base.keep b o e n hb hx) (I.base.free b o e n hx)
 ·obtain⟨sl,e1⟩:=I.base.slot b o e n hb hx;obtain⟨sl',e2⟩:=slot b _ (neL b o e) hb (neC b o e hx) e1 (I.base.free b o e n hx);exact⟨sl',e2⟩
 ·obtain⟨o',e1⟩:=I.base.there b o e hx;exact free b o' (neC b o e hx) e1 (I.base.free b o e n hx)
 ·obtain⟨o',e1⟩:=I.base.there b o e hx;exact there b o' (neC b o e hx) e1
 ·obtain⟨m1,e1⟩:=I.base.tbls b ps e;obtain⟨m2,e2⟩:=tbls b _ e1;exact⟨m1++m2,by rw[e2,Array.append_assoc]⟩
 ·obtain⟨m,hn,hl⟩:=I.loc;refine⟨m,ns m hn,λ i x v e1 e2 e3=>?_⟩;obtain⟨u,r,l⟩:=hl i x v e1 e2 e3;refine⟨u,r,?_⟩;rcases l with l|⟨k,c,e,z⟩
  ·exact .inl l
  ·exact .inr ⟨k,c,e,cellK x c e _ z⟩
 ·obtain⟨v,z⟩:=I.cell x c e;exact⟨v,cellK x c e v z⟩
 ·obtain⟨m,⟨o,_,_,ho,_⟩,_⟩:=I.loc;exact free _ o (λ z=>(hch _ z).2.1 rfl) ho I.free
 ·obtain⟨v,o,ho,hd⟩:=I.cell x c e;exact free c o (λ z=>(hch c z).2.2.1 x c e rfl) ho (I.freeC x c e)
 ·obtain⟨e,n,ne,nf,d⟩:=I.pin p hp;have nch:p.1∉ch:=λ z=>(hch p.1 z).2.2.2 p hp rfl;exact⟨keep p.1 p.2 ne nf nch e n,free p.1 p.2 nch e n,ne,nf,d⟩
theorem Inv.un(I:Inv X pins σ H s)(u:Un X.fs [] H H' s.heap h')(hok:HOk X.prog X.w H' h'):Inv X pins σ H' { s with heap:=h',toks:=t' }:=by
 obtain⟨m,⟨o,es,ep,ho,r⟩,_⟩:=id I.loc;obtain⟨sl,hL⟩:=u.any ho I.free (by simp)
 exact I.step (g':=s.gens) (d':=s.drawn) (ch:=[]) (λ _ z=>nomatch z) (λ b o _ hb _ e n=>u.keep b o e n hb (by simp)) (λ b o _ hb _ e n=>u.slot b o e n hb (by simp)) (λ b o _ e n=>u.free b o e n (by simp)) (λ b o _ e=>u.there b o e (by simp)) u.tups u.frzs u.tbls (λ m' hm=>by
  obtain⟨o',es',ep',ho',r'⟩:=hm;rw[ho] at ho';cases ho';exact⟨_,es',ep',hL,r'⟩) hok I.bare
theorem Inv.call{g':Array GenState}{d':Drawn}(I:Inv X pins σ H s)(u:Un (frs X.stack) ch H H' s.heap h')(hok:HOk X.prog X.w H' h')(hg:AllBare g')
  (hch:∀ b∈ch,(b∈X.ex∨X.s₀.heap.objs.size<=b)/\b≠X.env.locals/\(∀ x c,X.env.cells.lookup x=some c->c≠b)/\∀ p∈X.pn++pins,p.1≠b) :
  Inv X pins σ H' { s with heap:=h',gens:=g',drawn:=d',toks:=t' }:=by
 obtain⟨m,⟨o,es,ep,ho,r⟩,_⟩:=id I.loc;obtain⟨sl,hL⟩:=u.any ho I.free λ z=>(hch _ z).2.1 rfl
 exact I.step (ch:=ch) hch (λ b o hL hb hc e n=>u.keep b o e n (λ z=>(abQ.mp (I.stkSub b z)).elim hL hb) hc) (λ b o _ _ hc e n=>u.any e n hc) (λ b o hc e n=>u.free b o e n hc) (λ b o hc e=>u.there b o e hc) u.tups u.frzs u.tbls (λ m' hm=>by
  obtain⟨o',es',ep',ho',r'⟩:=hm;rw[ho] at ho';cases ho';exact⟨_,es',ep',hL,r'⟩) hok hg
theorem Inv.turned(I:Inv X pins σ H s)(k:∀ b o,b≠it->s.heap.get? b=some o->h'.get? b=some o)(hn:H it=none)(hL:it≠X.env.locals)
  (h1:it∈X.ex∨X.s₀.heap.objs.size<=it) (h2:∀ x c,X.env.cells.lookup x=some c->c≠it) (h3:∀ p∈X.pn++pins,p.1≠it):Inv X pins σ H { s with heap:=h',toks:=t' }:=by
 have nit:∀ b u,H b=some u->b≠it:=λ b u e z=>by rw[z,hn] at e;cases e
 refine I.step (g':=s.gens) (d':=s.drawn) (ch:=[it]) (λ b hb=>?_) (λ b o _ _ hc e _=>k b o (λ z=>hc (by simp[z])) e) (λ b o _ _ hc e _=>⟨o.slots,k b o (λ z=>hc (by simp[z])) e⟩) (λ _ _ _ _ n=>n)
  (λ b o hc e=>⟨o,k b o (λ z=>hc (by simp[z])) e⟩) (λ _ _ e=>e) (λ _ _ _ e=>e) (λ b ps e=>⟨#[],by rw[e];simp⟩) (λ m hm=>?_) (λ b u e=>?_) I.bare
 ·have e:b=it:=(by exists hb);subst e;exact⟨h1,hL,h2,h3⟩
 ·obtain⟨o,es,ep,ho,r⟩:=hm;exact⟨o,es,ep,k _ o (abk hL) ho,r⟩
 ·refine(I.hok b u e).stay (λ c v hc q=>k c v ?_ q) (λ _ q=>q) λ _ _ q=>q;rcases hc with z|z
  ·rw[z];exact nit b u e
  ·exact nit c _ z
theorem Inv.tok(I:Inv X pins σ H s)(t:Nat):Inv X pins σ H { s with toks:=t }:=I.un (h':=s.heap) (t':=t) Un.refl I.hok
theorem Inv.kept(I:Inv X pins σ H s)(k:∀ b u,s.heap.get? b=some u->h'.get? b=some u):Inv X pins σ H { s with heap:=h',toks:=t' }:=I.un (Un.kept k) (I.hok.kept k)
theorem Inv.laid(I:Inv X pins σ H s)(k:∀ b u,s.heap.get? b=some u->h'.get? b=some u)(hp:s.heap.objs.size<=a)(new:ObjOk X.prog X.w (upd H a o) h' a o) :
  Inv X pins σ (upd H a o) { s with heap:=h',toks:=t' }:=I.un (Un.laid k hp (I.hok.fresh hp)) (I.hok.laid k hp new)
theorem Inv.write{x e:Addr}(I:Inv X pins σ H s)(mu:Mut (H x))(he:e=x∨H e=some (.own x))(k:∀ b u,b≠e->s.heap.get? b=some u->h'.get? b=some u)(heo:∃ u,h'.get? e=some u)
  (new:ObjOk X.prog X.w (upd H x o) h' x o):Inv X pins σ (upd H x o) { s with heap:=h',toks:=t' }:=I.un (Un.write mu he k heo) (I.hok.write mu he k heo new)
theorem Inv.pins_of{pins':List (Addr×Obj)}(I:Inv X pins σ H s)(h:∀ p∈pins',s.heap.get? p.1=some p.2/\H p.1=none/\p.1≠X.env.locals/\p.1∉X.fs/\∀ v,p.2.data≠.cell v):Inv X pins' σ H s:=
 ⟨I.ok,I.os,I.bare,I.base,I.loc,I.cell,I.free,I.freeC,λ p hp=>(abL.mp hp).elim (λ z=>I.pin p (aam _ z)) (h p),I.hok,I.len⟩
theorem mU(hN:N.Nodup)(a:N[i]?=some x)(b:N[j]?=some x):i=j:=by
 obtain⟨h1,e1⟩:=List.getElem?_eq_some_iff.mp a;obtain⟨h2,e2⟩:=List.getElem?_eq_some_iff.mp b;exact(abC hN).mp (e1.trans e2.symm)
theorem km{M:Model}{Q:Unit->Shared->Prop}(I:Inv X pins σ H s)(hN:X.N.Nodup)(hi:X.N[i]?=some x)(hx:Loc X.env.scope x)(r:RelV v u)
  (h:∀ s',Inv X pins (σ.set i (some v)) H s'->(∃ a,Heap.SameBut a s.heap s'.heap/\(a=X.env.locals∨X.env.cells.lookup x=some a))->Q () s') (hf:autoParam (X.fn x=true∨X.env.scope.names.lookup x=some .local) L2.aF._auto_1):wpAny M A (storeName X.env x u) Q E s:=by
 obtain⟨m,hn,hl⟩:=id I.loc;have hcls:(X.env.scope.kind==.class || (X.env.scope.kind==.module&&X.env.locals != X.env.globals))=false:=by rw[I.ok.kind];rfl
 have hiσ:i<σ.length:=by rw[I.len];exact(List.getElem?_eq_some_iff.mp hi).1
 have cne:=I.cne
 have tracked:∀ {a:Addr} {h':Heap},(∃ o,s.heap.get? a=some o/\H a=none)->Heap.SameBut a s.heap h'->HOk X.prog X.w H h':=fun {a h'} ha hs b ob e=>by
  obtain⟨_,_,hfree⟩:=ha;refine(I.hok b ob e).stay (λ c w' hc q=>(hs.2 c ?_).trans q) (λ _ q=>q) λ _ _ q=>q;rintro rfl;rcases hc with rfl|hc
  ·rw[hfree] at e;cases e
  ·rw[hfree] at hc;cases hc
 rcases hx with hk|hk
 ·refine wpAny_storeName_local hk hn (λ h' hn' hs=>?_) hcls;obtain⟨oL,_,_,hoL,_⟩:=id hn;refine h _ ⟨I.ok,I.os,I.bare,⟨λ b o e n hb hx=>?_,λ b o e n hb hx=>?_,I.base.free,λ b o e hx=>?_,I.base.tups,I.base.frzs,I.base.tbls⟩,⟨_,hn',λ j y v' e1 e2 e3=>?_⟩,λ y c e=>?_,I.free,I.freeC,λ p hp=>?_,tracked ⟨oL,hoL,I.free⟩ hs,by simpa using I.len⟩ ⟨_,hs,.inl rfl⟩
  ·exact(hs.2 b (aak (aan (aah e) I.ok.above))).trans (I.base.keep b o e n hb hx)
  ·obtain⟨sl,e1⟩:=I.base.slot b o e n hb hx;exact⟨sl,(hs.2 b (aak (aan (aah e) I.ok.above))).trans e1⟩
  ·obtain⟨o',e1⟩:=I.base.there b o e hx;exact⟨o',(hs.2 b (aak (aan (aah e) I.ok.above))).trans e1⟩
  ·by_cases hj:j=i
   ·subst hj;rw[hi] at e1;cases e1;rw[List.getElem?_set_self hiσ] at e2;cases e2;exact⟨u,r,.inl ⟨hk,by simp⟩⟩
   ·rw[List.getElem?_set_ne (abk hj)] at e2;obtain⟨u',r',q⟩:=hl j y v' e1 e2 e3;refine⟨u',r',?_⟩;rcases q with ⟨k,e⟩|⟨k,c,e,z⟩
    ·refine .inl ⟨k,?_⟩;have:y≠x:=λ e=>hj (mU hN e1 (e ▸ hi));simp[this,e]
    ·exact .inr ⟨k,c,e,z.sameBut hs (cne y c e)⟩
  ·obtain⟨w',z⟩:=I.cell y c e;exact⟨w',z.sameBut hs (cne y c e)⟩
  ·obtain⟨e,n,ne,nf,d⟩:=I.pin p hp;exact⟨(hs.2 p.1 ne).trans e,n,ne,nf,d⟩
 ·have hfn:X.fn x=true:=by
   rcases hf with z|z
   ·exact z
   ·rw[z] at hk;cases hk
  obtain⟨c,hc⟩:=I.ok.has x (.inl hk);obtain⟨w',z⟩:=I.cell x c hc;refine wpAny_storeName_cell I.ok.kind hk hc z (λ h' hc' hs=>?_);obtain⟨oc,hoc,hocd⟩:=id z;refine h { s with heap:=h' } ⟨I.ok,I.os,I.bare,⟨λ b o e n hb hx=>?_,λ b o e n hb hx=>?_,I.base.free,λ b o e hx=>?_,I.base.tups,I.base.frzs,I.base.tbls⟩,⟨m,hn.sameBut hs (abk (cne x c hc)),λ j y v' e1 e2 e3=>?_⟩,λ y c' e=>?_,I.free,I.freeC,λ p hp=>?_,tracked ⟨oc,hoc,I.freeC x c hc⟩ hs,by simpa using I.len⟩ ⟨c,hs,.inr hc⟩
  ·exact(hs.2 b (aak (aan (aah e) (I.ok.cab x c hfn hc)))).trans (I.base.keep b o e n hb hx)
  ·obtain⟨sl,e1⟩:=I.base.slot b o e n hb hx;exact⟨sl,(hs.2 b (aak (aan (aah e) (I.ok.cab x c hfn hc)))).trans e1⟩
  ·obtain⟨o',e1⟩:=I.base.there b o e hx;exact⟨o',(hs.2 b (aak (aan (aah e) (I.ok.cab x c hfn hc)))).trans e1⟩
  ·by_cases hj:j=i
   ·subst hj;rw[hi] at e1;cases e1;rw[List.getElem?_set_self hiσ] at e2;cases e2;exact⟨u,r,.inr ⟨.inl hk,c,hc,hc'⟩⟩
   ·rw[List.getElem?_set_ne (abk hj)] at e2;obtain⟨u',r',q⟩:=hl j y v' e1 e2 e3;refine⟨u',r',?_⟩;rcases q with q|⟨k,c',e,z'⟩
    ·exact .inl q
    ·refine .inr ⟨k,c',e,z'.sameBut hs ?_⟩;rintro rfl;exact hj (mU hN e1 (I.ok.inj _ _ _ e hc ▸ hi))
  ·by_cases hcc:c'=c
   ·subst hcc;exact⟨_,hc'⟩
   ·obtain⟨w2,z2⟩:=I.cell y c' e;exact⟨w2,z2.sameBut hs hcc⟩
  ·obtain⟨e,n,ne,nf,d⟩:=I.pin p hp;refine⟨(hs.2 p.1 ?_).trans e,n,ne,nf,d⟩;intro q;rw[q,hoc] at e;have q':oc=p.2:=aaj e;exact d w' (by rw[← q'];exact hocd)
theorem mV{M:Model}{Q:Unit->Shared->Prop}(I:Inv X pins σ H s)(hN:X.N.Nodup)(hi:X.N[i]?=some x)(hx:Loc X.env.scope x)(r:RelV v u)
  (h:∀ s',Inv X pins (σ.set i (some v)) H s'->Q () s') (hf:autoParam (X.fn x=true∨X.env.scope.names.lookup x=some .local) L2.aF._auto_1):wpAny M A (storeName X.env x u) Q E s:=
 km I hN hi hx r (λ s' I' _=>h s' I') hf
theorem Inv.call'(I:Inv X pins σ H s)(ho:s'.os=s.os)(u:Un (frs X.stack) ch H H' s.heap s'.heap)(hok:HOk X.prog X.w H' s'.heap)(hg:AllBare s'.gens)
  (hch:∀ b∈ch,(b∈X.ex∨X.s₀.heap.objs.size<=b)/\b≠X.env.locals/\(∀ x c,X.env.cells.lookup x=some c->c≠b)/\∀ p∈X.pn++pins,p.1≠b):Inv X pins σ H' s':=by
 obtain⟨h',g',d',t',o'⟩:=s';have e:o'=s.os:=ho;subst e;exact I.call (g':=g') (t':=t') (d':=d') u hok hg hch
end
abbrev XK:=Value->Option Addr->Hp->Prop
abbrev St:=List (Option V)
variable{σ:St}
abbrev VK:=V->Hp->Prop
abbrev TE:=St->Hp->VK->Prop
variable{ta tb te tl:TE}
abbrev TT:=St->Hp->(Bool->Hp->Prop)->Prop
variable{tc:TT}
abbrev TA:=St->Hp->(List V->Hp->Prop)->Prop
variable{t:TA}
structure Ends where
 nx:St->Hp->Prop
 rt:VK
 bk:St->Hp->Prop:=λ _ _=>False
 ct:St->Hp->Prop:=λ _ _=>False
abbrev TS:=Ends->St->Hp->Prop
def EP(X:Cx)(pins:List (Addr×Obj))(σ:St)(Q:VK)(u:Value)(s':Shared):Prop:=∃ v H',Inv X pins σ H' s'/\RelV v u/\Q v H'
def TP(X:Cx)(pins:List (Addr×Obj))(σ:St)(Q:Bool->Hp->Prop)(b:Bool)(s':Shared):Prop:=∃ H',Inv X pins σ H' s'/\Q b H'
def AP(X:Cx)(pins:List (Addr×Obj))(σ:St)(Q:List V->Hp->Prop)(us:List Value)(s':Shared):Prop:=∃ vs H',Inv X pins σ H' s'/\Vals vs us/\Q vs H'
def SP(X:Cx)(pins:List (Addr×Obj))(D:Ends)(f:Flow)(s':Shared):Prop:=
 match f with
 |.next=>∃ σ' H',Inv X pins σ' H' s'/\D.nx σ' H'
 |.brk=>∃ σ' H',Inv X pins σ' H' s'/\D.bk σ' H'
 |.cont=>∃ σ' H',Inv X pins σ' H' s'/\D.ct σ' H'
 |.ret u=>∃ v σ' H',Inv X pins σ' H' s'/\RelV v u/\D.rt v H'
def PE(X:Cx)(e:Expr)(t:TE):Prop:=
 ∀ (pins:List (Addr×Obj)) (s:Shared) (σ:St) (H:Hp) (Q:VK),Inv X pins σ H s->t σ H Q->wpAny (model X.prog X.w) X.A (eval e X.env) (EP X pins σ Q) X.xe s
def PT(X:Cx)(e:Expr)(t:TT):Prop:=
 ∀ (pins:List (Addr×Obj)) (s:Shared) (σ:St) (H:Hp) (Q:Bool->Hp->Prop),Inv X pins σ H s->t σ H Q->wpAny (model X.prog X.w) X.A (isTrue e X.env (eval e X.env)) (TP X pins σ Q) X.xe s
def PW(X:Cx)(e:Expr)(t:TT):Prop:=
 ∀ (whole:Sem Value) (pins:List (Addr×Obj)) (s:Shared) (σ:St) (H:Hp) (Q:Bool->Hp->Prop),Inv X pins σ H s->t σ H Q->wpAny (model X.prog X.w) X.A (isTrue e X.env whole) (TP X pins σ Q) X.xe s
theorem PW.pt{t:TT}(h:PW X e t):PT X e t:=h _
def PA(X:Cx)(es:List Expr)(t:TA):Prop:=
 ∀ (pos:Pos) (pins:List (Addr×Obj)) (s:Shared) (σ:St) (H:Hp) (Q:List V->Hp->Prop),Inv X pins σ H s->t σ H Q->wpAny (model X.prog X.w) X.A (spliced (backTo pos (starEach es X.env))) (AP X pins σ Q) X.xe s
def PS(X:Cx)(st:Stmt)(t:TS):Prop:=
 ∀ (pins:List (Addr×Obj)) (s:Shared) (σ:St) (H:Hp) (D:Ends),Inv X pins σ H s->t D σ H->wpAny (model X.prog X.w) X.A (exec st X.env) (SP X pins D) X.xe s
def PSs(X:Cx)(st:List Stmt)(t:TS):Prop:=
 ∀ (pins:List (Addr×Obj)) (s:Shared) (σ:St) (H:Hp) (D:Ends),Inv X pins σ H s->t D σ H->wpAny (model X.prog X.w) X.A (execs st X.env) (SP X pins D) X.xe s
theorem thn{t:Sem α}{Q Q':α->Shared->Prop}{M:Model}(h:wpAny M A t Q E s)(hQ:∀ a s,Q a s->Q' a s):wpAny M A t Q' E s:=abu h hQ λ _ _ x=>x
section
theorem bin{a b:Expr}(ha:PE X a ta)(hb:PE X b tb)(I:Inv X pins σ H s)(h:ta σ H λ x H1=>tb σ H1 λ y H2=>R x y H2)
   {Q:α->Shared->Prop} {f:Value->Value->Sem α}
  (hf:∀ v u s2 x y H2,Inv X pins σ H2 s2->RelV x v->RelV y u->R x y H2->wpAny (model X.prog X.w) X.A (f v u) Q X.xe s2) :
  wpAny (model X.prog X.w) X.A (eval a X.env) (λ v s₁=>wpAny (model X.prog X.w) X.A (eval b X.env) (λ u s₂=>wpAny (model X.prog X.w) X.A (f v u) Q X.xe s₂) X.xe s₁) X.xe s:=by
 refine thn (ha pins s σ H _ I h) λ v s1 ⟨x,H1,I1,r1,q1⟩=>?_;refine thn (hb pins s1 σ H1 _ I1 q1) λ u s2 ⟨y,H2,I2,r2,q2⟩=>?_;exact hf v u s2 x y H2 I2 r1 r2 q2
def db(i:Nat):TE:=λ σ H Q=>∃ v,σ[i]?=some (some v)/\Q v H
def tC(v:V):TE:=λ _ H Q=>Q v H
theorem Gp(hN:X.N[i]?=some x)(hv:Vis X.env.scope x)(hd:autoParam ((x==("__debug__" : Str))=false) L2.aD._auto_1)(hcd:autoParam ((x==("__classdict__" : Str))=false) L2.aD._auto_1):PE X (.Name x pos) (db i):=by
 intro pins s σ H Q I h;obtain⟨v,e,h⟩:=h;obtain⟨m,hn,hl⟩:=I.loc;obtain⟨u,r,l⟩:=hl i x v hN e hv;have fin:EP X pins σ Q u s:=⟨v,H,I,r,h⟩;rcases l with ⟨hk,hm⟩|⟨hk,c,hc,hcell⟩
 ·exact wpAny_Name (wpAny_loadName_local I.ok.kind hk hn hm fin) hd
 ·rcases hk with hk|hk
  ·exact wpAny_Name (wpAny_loadName_cell I.ok.kind hk hc hcell fin) hd
  ·exact wpAny_Name (wpAny_loadName_free I.ok.kind hk hc hcell fin hcd) hd
theorem Gq{i j pos}:PE X (.Constant (.int i) j pos) (tC (.int i)):=λ _ _ _ H _ I h=>wpAny_Constant_int ⟨.int i,H,I.tok _,⟨_,rfl⟩,h⟩
theorem Lz{b j pos}:PE X (.Constant (.bool b) j pos) (tC (.bl b)):=λ _ _ _ H _ I h=>Constant_bool ⟨.bl b,H,I,rfl,h⟩
theorem Gr{j pos}:PE X (.Constant .none j pos) (tC .non):=λ _ _ _ H _ I h=>Constant_none ⟨.non,H,I,rfl,h⟩
theorem Gs{x j pos}:PE X (.Constant (.str x) j pos) (tC (.str x)):=λ _ _ _ H _ I h=>Calls.Constant_str ⟨.str x,H,I.tok _,⟨_,rfl⟩,h⟩
def Gl(X:Cx)(x:Str):Prop:=X.env.kindOf x=some .globalImplicit
theorem l5(I:Inv X pins σ H s)(hg:Gl X x)(hm:X.mg x=some u)(h:Q u s)
  (hd:autoParam ((x==("__debug__" : Str))=false) L2.aD._auto_1):wpAny (model X.prog X.w) X.A (eval (.Name x pos) X.env) Q E s:=
 Calls.Name_function_global I.ok.kind hg (Calls.loadGlobal_global (by rw[I.ok.glob];exact I.mod.glob.keeps I.bk) hm h) hd
theorem kn(I:Inv X pins σ H s)(hg:Gl X x)(hm:X.mg x=none)(hv:bootBuiltins x=some u)(h:Q u s)
  (hn:autoParam (x ≠ "__name__") L2.aD._auto_1) (hd:autoParam ((x==("__debug__" : Str))=false) L2.aD._auto_1):wpAny (model X.prog X.w) X.A (eval (.Name x pos) X.env) Q E s:=by
 obtain⟨mb,h1,h2⟩:=I.mod.blt;exact Calls.Name_function_global I.ok.kind hg (Calls.loadGlobal_builtin (by rw[I.ok.glob];exact I.mod.glob.keeps I.bk) hm (by rw[I.ok.blt];exact h1.keeps I.bk) ((h2 x hn).trans hv) h) hd
theorem Bn(hg:Gl X x)(hm:X.mg x=some u)(r:RelV v u)(hd:autoParam ((x==("__debug__" : Str))=false) L2.aD._auto_1):PE X (.Name x pos) (tC v):=
 λ _ _ _ H _ I h=>l5 I hg hm ⟨v,H,I,r,h⟩ hd
theorem Bo(hg:Gl X x)(hm:X.mg x=none)(hv:bootBuiltins x=some u)(r:RelV v u)(hn:autoParam (x ≠ "__name__") L2.aD._auto_1)(hd:autoParam ((x==("__debug__" : Str))=false) L2.aD._auto_1):PE X (.Name x pos) (tC v):=
 λ _ _ _ H _ I h=>kn I hg hm hv ⟨v,H,I,r,h⟩ hn hd
variable {a b:Expr}  
def PC(X:Cx)(op:CmpOp)(a b:Expr)(t:TE):Prop:=
 ∀ (pins:List (Addr×Obj)) (s:Shared) (σ:St) (H:Hp) (Q:VK),Inv X pins σ H s->t σ H Q ->
  wpAny (model X.prog X.w) X.A (eval a X.env) (λ v s₁=>wpAny (model X.prog X.w) X.A (eval b X.env) (λ u s₂=>wpAny (model X.prog X.w) X.A (compareOp op v u) (EP X pins σ Q) X.xe s₂) X.xe s₁) X.xe s
def tB(t:TE):TT:=λ σ H Q=>t σ H λ x H1=>∃ c,x=.bl c/\Q c H1
theorem Nl{t:TE}(h:PC X op a b t)(h1:behindInMarks op b=false:=by first|exact nobehind _ (by decide) (by decide)|rfl):PT X (.Compare a [op] [b] pos) (tB t):=by
 intro pins s σ H Q I hw;refine wpAny_isTrue_Compare1 (thn (h pins s σ H _ I hw) λ v s1 h1=>thn h1 λ u s2 h2=>thn h2 λ c s3 ⟨x,H1,I1,r1,q1⟩=>?_) h1;obtain⟨d,rfl,q⟩:=q1;cases r1;exact aaK ⟨H1,I1,q⟩
theorem Gu{t:TE}(h:PE X e t)(he:autoParam (∀ whole,isTrue e X.env whole=(do let v ← whole;standAt e.pos;holding [v] (truthy v))) L2.aI._auto_1):PT X e (tB t):=by
 intro pins s σ H Q I hw;refine isTrue_plain (thn (h pins s σ H _ I hw) λ v s1 ⟨x,H1,I1,r1,q1⟩=>?_) (he _);obtain⟨d,rfl,q⟩:=q1;cases r1;exact aaK ⟨H1,I1,q⟩
variable {tA tB':TT} {rest:List Expr}
def LA(t u:TT):TT:=λ σ H Q=>t σ H λ c H1=>if c=true then u σ H1 Q else Q false H1
def tOr(t u:TT):TT:=λ σ H Q=>t σ H λ c H1=>if c=true then Q true H1 else u σ H1 Q
def LB(t:TT):TT:=λ σ H Q=>t σ H λ c H1=>Q (!c) H1
theorem Bp(ha:PT X a tA):PW X (.BoolOp .And [a] pos) tA:=by
 intro wh pins s σ H Q I h;refine isTrue_and (thn (ha pins s σ H Q I h) λ c s1 e=>?_)
 cases c with
 |true=>exact isTrue_and_nil e
 |false=>exact e
theorem Gv(ha:PT X a tA):PW X (.BoolOp .Or [a] pos) tA:=by
 intro wh pins s σ H Q I h;refine isTrue_or (thn (ha pins s σ H Q I h) λ c s1 e=>?_)
 cases c with
 |false=>exact isTrue_or_nil e
 |true=>exact e
theorem Gw(ha:PT X a tA)(hb:PW X (.BoolOp .And (b::rest) pos) tB'):PW X (.BoolOp .And (a::b::rest) pos) (LA tA tB'):=by
 intro wh pins s σ H Q I h;refine isTrue_and (thn (ha pins s σ H _ I h) λ c s1 ⟨H1,I1,q1⟩=>?_)
 cases c with
 |true=>exact hb wh pins s1 σ H1 Q I1 q1
 |false=>exact⟨H1,I1,q1⟩
theorem LC(ha:PT X a tA)(hb:PW X (.BoolOp .Or (b::rest) pos) tB'):PW X (.BoolOp .Or (a::b::rest) pos) (tOr tA tB'):=by
 intro wh pins s σ H Q I h;refine isTrue_or (thn (ha pins s σ H _ I h) λ c s1 ⟨H1,I1,q1⟩=>?_)
 cases c with
 |true=>exact⟨H1,I1,q1⟩
 |false=>exact hb wh pins s1 σ H1 Q I1 q1
theorem Gx(ha:PT X a tA):PT X (.UnaryOp .Not a pos) (LB tA):=by
 intro pins s σ H Q I h;exact isTrue_not (ha pins s σ H (λ c H1=>Q (!c) H1) I h)
def Bq(ta tb:TE):TE:=λ σ H Q=>ta σ H λ x H1=>∃ c,x=.bl c/\if c=true then tb σ H1 Q else Q (.bl false) H1
def Br(ta:TE):TE:=λ σ H Q=>ta σ H λ x H1=>∃ c,x=.bl c/\Q (.bl (!c)) H1
theorem Gy{op}{t:TE}(h:PE X a t):PE X (.BoolOp op [a] pos) t:=λ pins s σ H Q I hw=>BoolOp_one (h pins s σ H Q I hw)
theorem Gz(ha:PE X a ta)(hb:PE X (.BoolOp .And (b::rest) pos) tb):PE X (.BoolOp .And (a::b::rest) pos) (Bq ta tb):=by
 intro pins s σ H Q I h;refine BoolOp_and (thn (ha pins s σ H _ I h) λ v s1 ⟨x,H1,I1,r1,q1⟩=>?_);obtain⟨c,rfl,q1⟩:=q1;cases r1;refine aaK ?_
 cases c with
 |true=>exact hb pins s1 σ H1 Q I1 q1
 |false=>exact⟨.bl false,H1,I1,rfl,q1⟩
theorem GA(ha:PE X a ta):PE X (.UnaryOp .Not a pos) (Br ta):=by
 intro pins s σ H Q I h;refine UnaryOp_ (thn (ha pins s σ H _ I h) λ v s1 ⟨x,H1,I1,r1,q1⟩=>?_);obtain⟨c,rfl,q1⟩:=q1;cases r1;exact not_of (aaK ⟨.bl (!c),H1,I1,rfl,q1⟩)
def tIf(t:TT)(ta tb:TE):TE:=λ σ H Q=>t σ H λ c H1=>if c=true then ta σ H1 Q else tb σ H1 Q
theorem vN(hc:PT X c tA)(ha:PE X a ta)(hb:PE X b tb):PE X (.IfExp c a b pos) (tIf tA ta tb):=by
 intro pins s σ H Q I h;refine wpAny_IfExp (thn (hc pins s σ H _ I h) λ d s1 ⟨H1,I1,q1⟩=>?_)
 cases d with
 |true=>exact ha pins s1 σ H1 Q I1 q1
 |false=>exact hb pins s1 σ H1 Q I1 q1
end
def SqL(K:Frag)(H:Hp)(a:Addr)(xs:List V):Prop:=
 Rd H a (.lst xs) ∨
  ∃ (o:Obj) (its:Array Value) (n:Nat),K.lookup a=some o/\o.cls=.type "list" /\ o.dict=none/\o.data=.seq its n/\its.size<=sizeLine/\Vals xs its.toList
def SqT(K:Frag)(H:Hp)(a:Addr)(xs:List V):Prop:=
 Rd H a (.tup xs) ∨
  ∃ (o:Obj) (its:Array Value) (n:Nat),K.lookup a=some o/\o.cls=.type "tuple" /\ o.data=.seq its n/\its.size<=sizeLine/\Vals xs its.toList
def absV:Value->Option V
 |.none=>some .non
 |.bool b=>some (.bl b)
 |.int i _=>some (.int i)
 |.str x _=>some (.str x)
 |.bytes b _=>some (.byt b)
 |.float b _=>some (.flt b)
 |.ref a=>some (.ref a)
 |.type n=>some (.ty n)
 |_=>none
theorem RelV.abs{x:V}(r:RelV x u):absV u=some x:=by
 cases x with
 |non=>cases r;rfl
 |bl _=>cases r;rfl
 |int _=>obtain⟨t,rfl⟩:=r;rfl
 |str _=>obtain⟨t,rfl⟩:=r;rfl
 |byt _=>obtain⟨t,rfl⟩:=r;rfl
 |flt _=>obtain⟨t,rfl⟩:=r;rfl
 |ref _=>cases r;rfl
 |ty _=>cases r;rfl
theorem RelV.inj{x y:V}{u:Value}(r:RelV x u)(q:RelV y u):x=y:=aaj (r.abs.symm.trans q.abs)
theorem Vals.inj{xs ys:List V}{us:List Value}(h:Vals xs us)(h':Vals ys us):xs=ys:=by
 induction h generalizing ys with
 |nil=>cases h';rfl
 |cons r t ih=>cases h' with|cons r' t'=>rw[r.inj r',ih t']
section
variable       {ys:List V}
theorem SqL.of{K:Frag}(h:H a=some (.lst xs)):SqL K H a xs:=.inl (.inl h)
theorem SqT.of{K:Frag}(h:H a=some (.tup xs)):SqT K H a xs:=.inl (.inl h)
theorem Inv.list(I:Inv X pins σ H s)(h:SqL X.K H a xs):∃ its:List Value,Vals xs its/\PlainL s.heap a its.toArray/\xs.length<=sizeLine:=by
 rcases h with h|⟨o,its,n,hk,hc,hd,hs,hz,r⟩
 ·obtain⟨z,its,n,r,e⟩:=h.ok I.hok;exact⟨its,r,⟨_,n,e,rfl,rfl,rfl⟩,z⟩
 ·refine⟨its.toList,r,⟨o,n,I.kIn a o hk,hc,hd,(by exists hs)⟩,?_⟩;have e:=r.length;simp only[Array.length_toList] at e;nofun
theorem Inv.tuple(I:Inv X pins σ H s)(h:SqT X.K H a xs):∃ its:List Value,Vals xs its/\IsTup s.heap a its.toArray/\xs.length<=sizeLine:=by
 rcases h with h|⟨o,its,n,hk,hc,hs,hz,r⟩
 ·obtain⟨z,its,r,p⟩:=h.ok I.hok;exact⟨its,r,p,z⟩
 ·refine⟨its.toList,r,⟨o,I.kIn a o hk,hc,n,(by exists hs)⟩,?_⟩;have e:=r.length;simp only[Array.length_toList] at e;nofun
theorem Inv.list_inj(I:Inv X pins σ H s)(h:SqL X.K H a xs)(h':SqL X.K H a ys):xs=ys:=by
 obtain⟨its,r,⟨o,n,e,_,_,d⟩,_⟩:=I.list h;obtain⟨its',r',⟨o',n',e',_,_,d'⟩,_⟩:=I.list h';rw[e] at e';cases e';rw[d] at d';injection d' with d1 _
 have:its=its':=by simpa using congrArg Array.toList d1
 subst this;exact r.inj r'
theorem Inv.tuple_inj(I:Inv X pins σ H s)(h:SqT X.K H a xs)(h':SqT X.K H a ys):xs=ys:=by
 obtain⟨its,r,⟨o,e,_,n,d⟩,_⟩:=I.tuple h;obtain⟨its',r',⟨o',e',_,n',d'⟩,_⟩:=I.tuple h';rw[e] at e';cases e';rw[d] at d';injection d' with d1 _
 have:its=its':=by simpa using congrArg Array.toList d1
 subst this;exact r.inj r'
end
abbrev Cx.wish(X:Cx)(E:Value->Shared->Prop):Cx:={ X with xe:=E }
abbrev Cx.nox(X:Cx):Cx:=X.wish λ _ _=>False
theorem Cx.Ok.wish(ok:X.Ok)(E:Value->Shared->Prop):(X.wish E).Ok:=
 ⟨ok.mod,ok.kind,ok.glob,ok.blt,ok.above,ok.inj,ok.has,ok.cab,ok.hd,ok.frames,ok.stk,ok.exf,ok.bs,ok.bsz,ok.noex,ok.exfs,ok.funs,ok.frf⟩
theorem Cx.Ok.unwish(ok:(X.wish E).Ok):X.Ok:=
 ⟨ok.mod,ok.kind,ok.glob,ok.blt,ok.above,ok.inj,ok.has,ok.cab,ok.hd,ok.frames,ok.stk,ok.exf,ok.bs,ok.bsz,ok.noex,ok.exfs,ok.funs,ok.frf⟩
theorem Inv.wish(I:Inv X pins σ H s)(E:Value->Shared->Prop):Inv (X.wish E) pins σ H s:=⟨I.ok.wish E,I.os,I.bare,I.base,I.loc,I.cell,I.free,I.freeC,I.pin,I.hok,I.len⟩
theorem Inv.unwish(I:Inv (X.wish E) pins σ H s):Inv X pins σ H s:=⟨I.ok.unwish,I.os,I.bare,I.base,I.loc,I.cell,I.free,I.freeC,I.pin,I.hok,I.len⟩
theorem SP.unwish{D:Ends}{f:Flow}(h:SP (X.wish E) pins D f s'):SP X pins D f s':=by
 cases f with
 |next=>obtain⟨σ',H',I,q⟩:=h;exact⟨σ',H',I.unwish,q⟩
 |brk=>obtain⟨σ',H',I,q⟩:=h;exact⟨σ',H',I.unwish,q⟩
 |cont=>obtain⟨σ',H',I,q⟩:=h;exact⟨σ',H',I.unwish,q⟩
 |ret u=>obtain⟨v,σ',H',I,r,q⟩:=h;exact⟨v,σ',H',I.unwish,r,q⟩
theorem PSs.nox{st:List Stmt}{t:TS}(h:PSs X.nox st t):PSs X st t:=λ pins s σ H D I hw=>
 abu (h pins s σ H D (I.wish _) hw) (λ _ _ q=>q.unwish) λ _ _ z=>False.elim z
section
variable  {st:Stmt} {rest:List Stmt} {t u:TS}   
def Bs:TS:=λ D σ H=>D.nx σ H
def LD(t u:TS):TS:=λ D σ H=>t { D with nx:=u D } σ H
theorem Bt:PSs X [] Bs:=λ _ _ σ H _ I h=>wpAny_execs_nil ⟨σ,H,I,h⟩
theorem vO(h1:PS X st t)(h2:PSs X rest u):PSs X (st::rest) (LD t u):=by
 intro pins s σ H D I h;refine wpAny_execs_cons (thn (h1 pins s σ H { D with nx:=u D } I h) λ f s1 q=>?_)
 cases f with
 | next=>
  obtain⟨σ',H',I',q⟩:=q;exact h2 pins s1 σ' H' D I' q
 |ret v=>exact q
 |brk=>exact q
 |cont=>exact q
theorem Bu(h1:PS X st t):PSs X [st] t:=by
 intro pins s σ H D I h;refine wpAny_execs_cons (thn (h1 pins s σ H D I h) λ f s1 q=>?_)
 cases f with
 |next=>exact wpAny_execs_nil q
 |ret v=>exact q
 |brk=>exact q
 |cont=>exact q
def qy:TS:=λ D σ H=>D.bk σ H
def Bv:TS:=λ D σ H=>D.ct σ H
theorem vP:PS X (.Break pos) qy:=λ _ _ σ H _ I h=>wpAny_Break ⟨σ,H,I,h⟩
theorem l6:PS X (.Continue pos) Bv:=λ _ _ σ H _ I h=>wpAny_Continue ⟨σ,H,I,h⟩
theorem Inv.quiet(I:Inv X pins σ H s):interactive X.env=false:=by simp[interactive,I.ok.kind]
def vQ(te:TE):TS:=λ D σ H=>te σ H λ _ H1=>D.nx σ H1
theorem Bw(he:PE X e te)(hs:autoParam (swapsWith e none pos.line X.env=pure false) L2.aR._auto_1):PS X (.Expr e pos) (vQ te):=by
 intro pins s σ H D I h;exact wpAny_Expr_any (thn (he pins s σ H _ I h) λ v s1 ⟨x,H1,I1,r1,q1⟩=>⟨σ,H1,I1,q1⟩) I.quiet hs
def LF(te:TE):TS:=λ D σ H=>te σ H D.rt
theorem GB(he:PE X e te):PS X (.Return (some e) pos) (LF te):=by
 intro pins s σ H D I h;exact wpAny_Return_some (thn (he pins s σ H _ I h) λ v s1 ⟨x,H1,I1,r1,q1⟩=>⟨x,σ,H1,I1,r1,q1⟩)
def Bx:TS:=λ D _ H=>D.rt .non H
theorem By:PS X (.Return none pos) Bx:=λ _ _ σ H _ I h=>wpAny_Return_none ⟨.non,σ,H,I,rfl,h⟩
def LG(c:TT)(t u:TS):TS:=λ D σ H=>c σ H λ b H1=>if b=true then t D σ H1 else u D σ H1
theorem LH{a b:List Stmt}(hc:PT X c tc)(ha:PSs X a t)(hb:PSs X b u):PS X (.If c a b pos) (LG tc t u):=by
 intro pins s σ H D I h;refine wpAny_If (thn (hc pins s σ H _ I h) λ d s1 ⟨H1,I1,q1⟩=>?_)
 cases d with
 |true=>exact ha pins s1 σ H1 D I1 q1
 |false=>exact hb pins s1 σ H1 D I1 q1
def qz:TS:=λ _ _ _=>False
theorem vR:PS X st qz:=λ _ _ _ _ _ _ h=>h.elim
end
abbrev TG:=V->St->Hp->(St->Hp->Prop)->Prop
abbrev TGs:=List V->St->Hp->(St->Hp->Prop)->Prop
def PG(X:Cx)(target:Expr)(t:TG):Prop:=
 ∀ (pins:List (Addr×Obj)) (s:Shared) (σ:St) (H:Hp) (v:V) (u:Value) (Q:St->Hp->Prop),Inv X pins σ H s->RelV v u->t v σ H Q ->
  wpAny (model X.prog X.w) X.A (assign target X.env u) (λ _ s'=>∃ σ' H',Inv X pins σ' H' s'/\Q σ' H') X.xe s
def PGs(X:Cx)(ts:List Expr)(t:TGs):Prop:=
 ∀ (pins:List (Addr×Obj)) (s:Shared) (σ:St) (H:Hp) (vs:List V) (us:List Value) (Q:St->Hp->Prop),Inv X pins σ H s->Vals vs us->t vs σ H Q ->
  wpAny (model X.prog X.w) X.A (assignInOrder ((assignEach ts X.env).map (·.2)) us) (λ _ s'=>∃ σ' H',Inv X pins σ' H' s'/\Q σ' H') X.xe s
abbrev LI:=V->V->V->Hp->(Hp->Prop)->Prop
def Nm(X:Cx)(t:LI):Prop:=
 ∀ (pins:List (Addr×Obj)) (s:Shared) (σ:St) (H:Hp) (o i v:V) (ov iv u:Value) (Q:Hp->Prop),Inv X pins σ H s->RelV o ov->RelV i iv->RelV v u->t o i v H Q ->
  wpAny (model X.prog X.w) X.A (setItem ov iv u) (λ _ s'=>∃ H',Inv X pins σ H' s'/\Q H') X.xe s
def eM(i:Nat):TG:=λ v σ H Q=>Q (σ.set i (some v)) H
theorem Bz(hN:X.N.Nodup)(hi:X.N[i]?=some x)(hx:Loc X.env.scope x)(hf:autoParam (X.fn x=true∨X.env.scope.names.lookup x=some .local) L2.aF._auto_1):PG X (.Name x pos) (eM i):=by
 intro pins s σ H v u Q I r h;exact wpAny_assign_Name (mV I hN hi hx r (λ s' I'=>⟨_,H,I',h⟩) hf)
def Lb:TGs:=λ vs σ H Q=>vs=[]/\Q σ H
def qA(t:TG)(u:TGs):TGs:=λ vs σ H Q=>∃ v r,vs=v::r/\t v σ H λ σ' H'=>u r σ' H' Q
theorem BB:PGs X [] Lb:=by
 intro pins s σ H vs us Q I r h;obtain⟨e,h⟩:=h;subst e;cases r;exact assignInOrder_nil ⟨σ,H,I,h⟩
theorem vS{t:TG}{u:TGs}(h1:PG X e t)(h2:PGs X es u)
  (hs:autoParam ((assignEach (e::es) X.env).map (·.2)=assign e X.env::(assignEach es X.env).map (·.2)) L2.aR._auto_1):PGs X (e::es) (qA t u):=by
 intro pins s σ H vs us Q I r h;obtain⟨v,vr,e1,h⟩:=h;subst e1
 cases r with
 | cons r rr=>
  rw[hs];refine assignInOrder_cons (thn (h1 pins s σ H _ _ _ I r h) λ _ s1 ⟨σ1,H1,I1,q1⟩=>?_);exact h2 pins s1 σ1 H1 _ _ Q I1 rr q1
def GC(K:Frag)(n:Nat)(t:TGs):TG:=λ v σ H Q=>∃ a xs,v=.ref a/\SqT K H a xs/\xs.length=n/\t xs σ H Q
theorem GD{t:TGs}(hc:X.calm=true)(h:PGs X es t)
  (hn:autoParam ((assignEach es X.env).length=n) L2.aR._auto_1) (hst:autoParam ((assignEach es X.env).findIdx? (·.1)=none) L2.aR._auto_1):PG X (.Tuple es k pos) (GC X.K n t):=by
 intro pins s σ H v u Q I r hw;obtain⟨a,xs,e1,hq,hl,hw⟩:=hw;subst e1;cases r;obtain⟨its,rv,ht,hz⟩:=I.tuple hq;refine assign_Tuple_tuple (I.ok.hd hc) ht (by simp[hn,← hl,rv.length]) hst λ h' hx=>?_;have I1:Inv X pins σ H { s with heap:=h' }:=I.kept (t':=s.toks) λ b o e=>hx b o (aak (aah e)) e;exact h pins _ σ H xs _ Q I1 (by exists rv) hw
def LJ(to ti:TE)(t:LI):TG:=λ v σ H Q=>to σ H λ o H1=>ti σ H1 λ i H2=>t o i v H2 λ H3=>Q σ H3
theorem GE{o i:Expr}{to ti:TE}{t:LI}(ho:PE X o to)(hi:PE X i ti)(hs:Nm X t)
  (ha:autoParam (∀ v,assign (.Subscript o i pos) X.env v=(do
   let ov ← holding [v] (eval o X.env)
   let iv ← holding [v,ov] (eval i X.env)
   standAt pos
   holding [v,ov,iv] (setItem ov iv v)
   release [v,ov,iv] [])) L2.aI._auto_1):PG X (.Subscript o i pos) (LJ to ti t):=by
 intro pins s σ H v u Q I r h;rw[ha];refine aaa (aaI (thn (ho pins s σ H _ I h) λ ov s1 ⟨x,H1,I1,r1,q1⟩=>?_));refine aaa (aaI (thn (hi pins s1 σ H1 _ I1 q1) λ iv s2 ⟨y,H2,I2,r2,q2⟩=>?_));refine aaa (wpAny_standAt (aaa (aaI (thn (hs pins s2 σ H2 x y v ov iv u _ I2 r1 r2 r q2) λ _ s3 ⟨H3,I3,q3⟩=>?_))));exact wpAny_release ⟨σ,H3,I3,q3⟩
def o5(te:TE)(g:TG):TS:=λ D σ H=>te σ H λ x H1=>g x σ H1 D.nx
theorem GG{g:TG}(he:PE X e te)(hg:PG X tg g)(hs:autoParam (swapsWithSole [tg] e pos.line X.env=pure false) L2.aR._auto_1)(hw:autoParam (swappedStores [tg] e X.env=pure none) L2.aR._auto_1)
  (h1:autoParam ((assignEach [tg] X.env).map (·.2)=[assign tg X.env]) L2.aR._auto_1):PS X (.Assign [tg] e pos) (o5 te g):=by
 intro pins s σ H D I h;refine wpAny_Assign_stores (thn (he pins s σ H _ I h) λ v s1 ⟨x,H1,I1,r1,q1⟩=>?_) hs hw;rw[h1];exact thn (hg pins s1 σ H1 x v _ I1 r1 q1) λ _ s2 q=>q
theorem GH(hN:X.N.Nodup)(hi:X.N[i]?=some x)(hx:Loc X.env.scope x)(he:PE X e te)(hs:autoParam (swapsWith e (some (.Name x pos')) pos.line X.env=pure false) L2.aR._auto_1)(hf:autoParam (X.fn x=true∨X.env.scope.names.lookup x=some .local) L2.aF._auto_1) :
  PS X (.Assign [.Name x pos'] e pos) (o5 te (eM i)):=by
 intro pins s σ H D I h;refine wpAny_Assign_Name (thn (he pins s σ H _ I h) λ v s1 ⟨y,H1,I1,r1,q1⟩=>?_) hs;exact mV I1 hN hi hx r1 (λ s2 I2=>⟨_,H1,I2,q1⟩) hf
def qB(c:TT)(tb:TS):TS:=λ D σ H=>∃ W:Nat->St->Hp->Prop,(∃ m,W m σ H)/\∀ m σ H,W m σ H ->
 c σ H λ b H1=>if b=true then ∃ N:St->Hp->Prop,(∀ σ' H',N σ' H'->∃ m',m'<m/\W m' σ' H')/\tb { D with nx:=N,ct:=N,bk:=D.nx } σ H1 else D.nx σ H1
theorem vT{tb:TS}(hp:PassesOwn (model X.prog X.w) X.A X.env X.xe)(hc:PT X c tc)(hb:PSs X body tb):PS X (.While c body [] pos) (qB tc tb):=by
 intro pins s σ H D I h;obtain⟨W,⟨m0,w0⟩,turn⟩:=h;refine wpAny_While (codeAny_whileLoop (λ n s'=>∃ σ' H',Inv X pins σ' H' s'/\W n σ' H') ?_ m0 ⟨σ,H,I,w0⟩);rintro n s1 ⟨σ1,H1,I1,w1⟩;refine abg hp (thn (hc pins s1 σ1 H1 _ I1 (turn n σ1 H1 w1)) λ b s2 ⟨H2,I2,q2⟩=>?_)
 cases b with
 | true=>
  obtain⟨N,hN,q2⟩:=q2;rw[if_pos rfl];refine abg hp (thn (hb pins s2 σ1 H2 _ I2 q2) λ f s3 q3=>?_)
  cases f with
  | next=>
   obtain⟨σ3,H3,I3,n3⟩:=q3;obtain⟨m',hm,w3⟩:=hN σ3 H3 n3;exact⟨m',hm,σ3,H3,I3,w3⟩
  | cont=>
   obtain⟨σ3,H3,I3,n3⟩:=q3;obtain⟨m',hm,w3⟩:=hN σ3 H3 n3;exact⟨m',hm,σ3,H3,I3,w3⟩
  |brk=>exact q3
  |ret v=>exact q3
 | false=>
  rw[if_neg abP];exact wpAny_execs_nil ⟨σ1,H2,I2,q2⟩
structure It where
 go:Nat->Hp->Prop
 yld:Nat->Hp->V->Hp->Prop
 stop:Nat->Hp->Prop
def qC(X:Cx)(pins:List (Addr×Obj))(H:Hp)(b:Addr):Prop:=
 H b=none/\b≠X.env.locals/\b∉X.fs/\(b∈X.ex∨X.s₀.heap.objs.size<=b)/\(∀ x c,X.env.cells.lookup x=some c->c≠b)/\∀ p∈X.pn++pins,p.1≠b
theorem Inv.fpOk(I:Inv X pins σ H s)(hb:s.heap.objs.size<=b)(hn:H' b=none):qC X pins H' b:=by
 refine⟨hn,Nat.ne_of_gt (aan I.lt hb),I.nofs hb,.inr (aau I.sz hb),λ x c e z=>?_,λ p hp z=>?_⟩
 ·obtain⟨v,q⟩:=I.cell x c e;exact absurd (aan q.lt (by rw[z];exact hb)) (aaR _)
 ·exact absurd (aan (aah (I.pin p hp).1) (by rw[z];exact hb)) (aaR _)
structure Turn(P:Program)(w:World)(K:Frag)(tg:Expr)(J:It)(fp:List Addr)(it:Addr)(tn:Nat->Heap->Prop):Prop where
 mem:it∈fp
 obj:∀ i h,tn i h->∀ b∈fp,∃ o,h.get? b=some o/\∀ v,o.data≠.cell v
 keep:∀ i h h',tn i h->(∀ b∈fp,∀ o,h.get? b=some o->h'.get? b=some o)->tn i h'
 item:∀ (X:Cx),X.prog=P->X.w=w->X.K=K->X.calm=true->∀ (i:Nat) (pins:List (Addr×Obj)) (s:Shared) (σ:St) (H:Hp) (E:Value->Shared->Prop),Inv X pins σ H s->(∀ b∈fp,qC X pins H b)->tn i s.heap->J.go i H ->
  wpAny (model P w) X.A (pyNext (.ref it)) (λ r s1=>∃ u,r=some u /\
   wpAny (model P w) X.A (letOwnedTupleGo tg (.ref it) u) (λ _ s2=>∃ x H',Inv X pins σ H' s2/\RelV x u/\J.yld i H x H'/\tn (i+1) s2.heap/\∀ b∈fp,H' b=none) E s1) E s
 done:∀ (X:Cx),X.prog=P->X.w=w->X.K=K->X.calm=true->∀ (i:Nat) (pins:List (Addr×Obj)) (s:Shared) (σ:St) (H:Hp) (E:Value->Shared->Prop),Inv X pins σ H s->(∀ b∈fp,qC X pins H b)->tn i s.heap->J.stop i H ->
  wpAny (model P w) X.A (pyNext (.ref it)) (λ r s1=>r=none/\Inv X pins σ H s1) E s
 self:∀ (A:Around) (i:Nat) (s:Shared) (Q:Value->Shared->Prop) (E:Value->Shared->Prop),tn i s.heap->Q (.ref it) s->wpAny (model P w) A (pyIter (.ref it)) Q E s
abbrev TI:=St->Hp->(It->Hp->Prop)->Prop
def PIE(X:Cx)(pins:List (Addr×Obj))(σ:St)(tg:Expr)(R:It->Hp->Prop)(itv:Value)(s2:Shared):Prop:=
 ∃ (it:Addr) (fp:List Addr) (tn:Nat->Heap->Prop) (J:It) (H':Hp),itv=.ref it/\Inv X pins σ H' s2/\Turn X.prog X.w X.K tg J fp it tn/\tn 0 s2.heap/\(∀ b∈fp,qC X pins H' b)/\R J H'
def PI(X:Cx)(tg iter:Expr)(wi:TI):Prop:=
 ∀ (pins:List (Addr×Obj)) (s:Shared) (σ:St) (H:Hp) (R:It->Hp->Prop),Inv X pins σ H s->wi σ H R ->
  wpAny (model X.prog X.w) X.A (eval iter X.env) (λ v s1=>wpAny (model X.prog X.w) X.A (pyIter v) (PIE X pins σ tg R) X.xe s1) X.xe s
theorem iM{M:Model}{o:Obj}{n:String}{vs:Array Value}{Q:Unit->Shared->Prop}(ho:s.heap.get? it=some o)(hc:o.cls=.type n)(hd:o.data=.fields vs)
    (hn:["enumerate", "zip", "dict_itemiterator", "dict_reverseitemiterator", "odict_iterator", "itertools.zip_longest", "itertools.pairwise"].contains n=false) (hQ:Q () s):wpAny M A (letOwnedTupleGo tg (.ref it) u) Q E s:=by
  unfold letOwnedTupleGo
  cases tg <;> first
    |exact aae hQ
    | (cases u <;> first
        |exact aae hQ
        | (refine aaa (wpAny_load ho ?_)
           rw[hc,hd];show wpAny M A (if (["enumerate", "zip", "dict_itemiterator", "dict_reverseitemiterator", "odict_iterator", "itertools.zip_longest", "itertools.pairwise"].contains n&&vs[0]?==some (rawInt _))=true then _ else _) Q E s;rw[if_neg (by intro h;rw[hn,Bool.false_and] at h;cases h)];exact aae hQ))
def Itl(K:Frag)(a:Addr):It:=
 ⟨λ i H=>∃ xs x,SqL K H a xs/\xs[i]?=some x,λ i H x H'=>H'=H/\∀ xs,SqL K H a xs->xs[i]?=some x,λ i H=>∃ xs,SqL K H a xs/\xs.length<=i⟩
def Itt(K:Frag)(a:Addr):It:=
 ⟨λ i H=>∃ xs x,SqT K H a xs/\xs[i]?=some x,λ i H x H'=>H'=H/\∀ xs,SqT K H a xs->xs[i]?=some x,λ i H=>∃ xs,SqT K H a xs/\xs.length<=i⟩
def Itr(lo:Int)(n:Nat):It:=⟨λ i _=>i<n,λ i H x H'=>H'=H/\x=.int (lo+i),λ i _=>n<=i⟩
theorem qD{K:Frag}(a it:Addr):Turn P w K tg (Itl K a) [it] it (λ i h=>h.IsListIter it a i) where
 mem:=by simp
 obj:=λ i h st b hb=>by
  have e:b=it:=(by exists hb);subst e;obtain⟨o,e,c,d⟩:=st;exact⟨o,e,λ v z=>by rw[d] at z;cases z⟩
 keep:=λ i h h' st k=>st.at λ o e=>k it (by simp) o e
 item:=by
  intro X hP hw hK hc i pins s σ H E I hf st hg;subst hP hw hK;obtain⟨xs,x,hq,hx⟩:=hg;obtain⟨its,rv,p,hz⟩:=I.list hq;obtain⟨u,hu,ru⟩:=rv.get hx;obtain⟨f0,f1,f2,f3,f4,f5⟩:=hf it (by simp);refine wpAny_pyNext_list_item st p.isList (x:=u) (by exists hu) λ h' st' sb=>?_;have I1:Inv X pins σ H { s with heap:=h' }:=I.turned (t':=s.toks) (λ b o hb e=>(sb.2 b hb).trans e) f0 f1 f3 f4 f5;obtain⟨o,e,c,d⟩:=id st';exact⟨u,rfl,iM (s:={ s with heap:=h' }) e c d (by decide) ⟨x,H,I1,ru,⟨rfl,λ ys hy=>by rw[I.list_inj hy hq];exact hx⟩,st',λ b hb=>(hf b hb).1⟩⟩
 done:=by
  intro X hP hw hK hc i pins s σ H E I hf st hg;subst hP hw hK;obtain⟨xs,hq,hx⟩:=hg;obtain⟨its,rv,p,hz⟩:=I.list hq;obtain⟨f0,f1,f2,f3,f4,f5⟩:=hf it (by simp);have hl:=rv.length;exact wpAny_pyNext_list_end (I.ok.hd hc) st p.isList (by simp;nofun) λ h' eb=>⟨rfl,I.turned (t':=s.toks) (λ b o hb e=>eb b o hb e) f0 f1 f3 f4 f5⟩
 self:=λ _ _ _ _ _ st h=>wpAny_pyIter_listiter st h
theorem o7{K:Frag}(a it:Addr):Turn P w K tg (Itt K a) [it] it (λ i h=>h.IsTupleIter it a i) where
 mem:=by simp
 obj:=λ i h st b hb=>by
  have e:b=it:=(by exists hb);subst e;obtain⟨o,e,c,d⟩:=st;exact⟨o,e,λ v z=>by rw[d] at z;cases z⟩
 keep:=λ i h h' st k=>st.at λ o e=>k it (by simp) o e
 item:=by
  intro X hP hw hK hc i pins s σ H E I hf st hg;subst hP hw hK;obtain⟨xs,x,hq,hx⟩:=hg;obtain⟨its,rv,p,hz⟩:=I.tuple hq;obtain⟨u,hu,ru⟩:=rv.get hx;obtain⟨f0,f1,f2,f3,f4,f5⟩:=hf it (by simp);refine wpAny_pyNext_tuple_item st (show s.heap.IsTuple a its.toArray from p) (x:=u) (by exists hu) λ h' st' sb=>?_;have I1:Inv X pins σ H { s with heap:=h' }:=I.turned (t':=s.toks) (λ b o hb e=>(sb.2 b hb).trans e) f0 f1 f3 f4 f5;obtain⟨o,e,c,d⟩:=id st';exact⟨u,rfl,iM (s:={ s with heap:=h' }) e c d (by decide) ⟨x,H,I1,ru,⟨rfl,λ ys hy=>by rw[I.tuple_inj hy hq];exact hx⟩,st',λ b hb=>(hf b hb).1⟩⟩
 done:=by
  intro X hP hw hK hc i pins s σ H E I hf st hg;subst hP hw hK;obtain⟨xs,hq,hx⟩:=hg;obtain⟨its,rv,p,hz⟩:=I.tuple hq;obtain⟨f0,f1,f2,f3,f4,f5⟩:=hf it (by simp);have hl:=rv.length;exact wpAny_pyNext_tuple_end (I.ok.hd hc) st (show s.heap.IsTuple a its.toArray from p) (by simp;nofun) λ h' eb=>⟨rfl,I.turned (t':=s.toks) (λ b o hb e=>eb b o hb e) f0 f1 f3 f4 f5⟩
 self:=λ _ _ _ _ _ st h=>wpAny_pyIter_tupleiter st h
theorem o8{K:Frag}(it:Addr)(lo:Int)(n:Nat):Turn P w K tg (Itr lo n) [it] it (λ i h=>IsRangeIter h it (lo+(i:Nat)*1) ((n:Int) - (i:Nat)) 1) where
 mem:=by simp
 obj:=λ i h st b hb=>by
  have e:b=it:=(by exists hb);subst e
  exact⟨_,st,λ v z=>by
   have z':Data.fields _=Data.cell v:=z;cases z'⟩
 keep:=λ i h h' st k=>k it (by simp) _ st
 item:=by
  intro X hP hw hK hc i pins s σ H E I hf st hg;subst hP hw hK;obtain⟨f0,f1,f2,f3,f4,f5⟩:=hf it (by simp);have W:=Walks.range (prog:=X.prog) (w:=X.w) (I.ok.hd hc) it lo 1 n;refine W.item i s _ _ hg st λ v h' tk hv st' kk=>?_;obtain⟨t,rfl⟩:=hv;have I1:Inv X pins σ H { s with heap:=h',toks:=tk }:=I.turned (λ b o hb e=>kk b o (by exists hb) e) f0 f1 f3 f4 f5;refine⟨_,rfl,iM (s:={ s with heap:=h',toks:=tk }) (n := "range_iterator") st' rfl rfl (by decide) ⟨.int (lo+i),H,I1,⟨t,?_⟩,⟨rfl,rfl⟩,st',λ b hb=>(hf b hb).1⟩⟩;rw[Int.mul_one]
 done:=by
  intro X hP hw hK hc i pins s σ H E I hf st hg;subst hP hw hK;obtain⟨f0,f1,f2,f3,f4,f5⟩:=hf it (by simp);exact wpAny_pyNext_range_end (I.ok.hd hc) st (by have:n<=i:=hg;nofun) λ h' eb=>⟨rfl,I.turned (t':=s.toks) (λ b o hb e=>eb b o hb e) f0 f1 f3 f4 f5⟩
 self:=λ _ _ _ _ _ st h=>wpAny_pyIter_rangeiter st h
def l7(K:Frag)(tl:TE):TI:=λ σ H R=>tl σ H λ x H1=>∃ a,x=.ref a/\(∃ xs,SqL K H1 a xs)/\R (Itl K a) H1
def Lc(K:Frag)(tl:TE):TI:=λ σ H R=>tl σ H λ x H1=>∃ a,x=.ref a/\(∃ xs,SqT K H1 a xs)/\R (Itt K a) H1
theorem BC(hl:PE X l tl):PI X tg l (l7 X.K tl):=by
 intro pins s σ H R I h;refine thn (hl pins s σ H _ I h) λ v s1 ⟨x,H1,I1,r1,q1⟩=>?_;obtain⟨a,e,⟨xs,hq⟩,q⟩:=q1;subst e;cases r1;obtain⟨its,rv,p,hz⟩:=I1.list hq;refine wpAny_pyIter_list p.isList ?_;refine⟨s1.heap.objs.size,[s1.heap.objs.size],_,_,H1,rfl,I1.kept (t':=s1.toks) λ b o e=>Heap.get?_push_of_some _ e,qD a _,⟨_,Heap.get?_push_size _ rfl,rfl,rfl⟩,λ b hb=>?_,q⟩;have e:b=s1.heap.objs.size:=(by exists hb);subst e;exact I1.fpOk (aac _) (I1.hok.fresh (aac _))
theorem GI(hl:PE X l tl):PI X tg l (Lc X.K tl):=by
 intro pins s σ H R I h;refine thn (hl pins s σ H _ I h) λ v s1 ⟨x,H1,I1,r1,q1⟩=>?_;obtain⟨a,e,⟨xs,hq⟩,q⟩:=q1;subst e;cases r1;obtain⟨its,rv,p,hz⟩:=I1.tuple hq;refine wpAny_pyIter_tuple (show s1.heap.IsTuple a its.toArray from p) ?_;refine⟨s1.heap.objs.size,[s1.heap.objs.size],_,_,H1,rfl,I1.kept (t':=s1.toks) λ b o e=>Heap.get?_push_of_some _ e,o7 a _,⟨_,Heap.get?_push_size _ rfl,rfl,rfl⟩,λ b hb=>?_,q⟩;have e:b=s1.heap.objs.size:=(by exists hb);subst e;exact I1.fpOk (aac _) (I1.hok.fresh (aac _))
theorem mW{R:It->Hp->Prop}{lo hi:Int}{t u v:Tok}{tk:Nat}(I:Inv X pins σ H s)(h1:-(2 ^ 62)<=lo)(h2:lo<2 ^ 62)(h3:-(2 ^ 62)<=hi)(h4:hi<2 ^ 62)
  (q:R (Itr lo (hi - lo).toNat) H):wpAny (model X.prog X.w) X.A (pyIter (.ref s.heap.objs.size)) (PIE X pins σ tg R) E { s with heap:=s.heap.push { cls:=.type "range", data:=.fields #[.int lo t,.int hi u,.int 1 v] },toks:=tk }:=by
 refine wpAny_pyIter_range (IsRange.new ..) (small_one h1 h2 h3 h4) ?_;have I1:Inv X pins σ H { s with heap:=s.heap.push { cls:=.type "range", data:=.fields #[.int lo t,.int hi u,.int 1 v] },toks:=tk }:=I.kept λ b o e=>Heap.get?_push_of_some _ e
 refine⟨(s.heap.push { cls:=.type "range", data:=.fields #[.int lo t,.int hi u,.int 1 v] }).objs.size,[(s.heap.push { cls:=.type "range", data:=.fields #[.int lo t,.int hi u,.int 1 v] }).objs.size],_,_,H,rfl,
  I1.kept (t':=tk) λ b o e=>Heap.get?_push_of_some _ e,o8 _ lo (hi - lo).toNat,?_,λ b hb=>?_,q⟩
 ·have e1:lo+((0:Nat):Int)*1=lo:=by simp
  have e2:(((hi - lo).toNat:Nat):Int) - ((0:Nat):Int)=Builtin.Range.rangeSize lo hi 1:=by rw[rangeSize_one];split <;> nofun
  show IsRangeIter _ _ (lo+((0:Nat):Int)*1) ((((hi - lo).toNat:Nat):Int) - ((0:Nat):Int)) 1;rw[e1,e2];exact Heap.get?_push_size _ rfl
 ·have e:b=(s.heap.push { cls:=.type "range", data:=.fields #[.int lo t,.int hi u,.int 1 v] }).objs.size:=(by exists hb);subst e;exact I1.fpOk (aac _) (I1.hok.fresh (aac _))
def BD(ta:TA):TI:=λ σ H R=>ta σ H λ vs H1=>∃ j:Int,vs=[.int j]/\-(2 ^ 62)<=j/\j<2 ^ 62/\R (Itr 0 j.toNat) H1
def BF(ta:TA):TI:=λ σ H R=>ta σ H λ vs H1=>∃ i j:Int,vs=[.int i,.int j]/\(-(2 ^ 62)<=i/\i<2 ^ 62/\-(2 ^ 62)<=j/\j<2 ^ 62)/\R (Itr i (j - i).toNat) H1
theorem qE{a:Expr}{ta:TA}(hg:Gl X "range")(hm:X.mg "range" = none)(ha:PA X [a] ta)(hs:autoParam (starEach [a] X.env=[(false,eval a X.env)]) L2.aR._auto_1):PI X tg (.Call (.Name "range" p) [a] [] pos) (BD ta):=by
 intro pins s σ H R I h;refine Call_ (kn I hg hm boot_range (abJ (thn (ha pos pins s σ H _ I h) λ us s1 ⟨vs,H1,I1,r1,q1⟩=>?_) hs rfl));obtain⟨j,e,q1,q2,q⟩:=q1;subst e
 cases r1 with
 | cons r rr=>
  cases rr;obtain⟨t,rfl⟩:=r;exact call_range_1 (mW I1 (by nofun) (by nofun) q1 q2 (by exists q))
theorem qF{a b:Expr}{ta:TA}(hg:Gl X "range")(hm:X.mg "range" = none)(ha:PA X [a,b] ta)(hs:autoParam (starEach [a,b] X.env=[(false,eval a X.env),(false,eval b X.env)]) L2.aR._auto_1)(hs2:autoParam (starEach [b] X.env=[(false,eval b X.env)]) L2.aR._auto_1) :
  PI X tg (.Call (.Name "range" p) [a,b] [] pos) (BF ta):=by
 intro pins s σ H R I h;refine Call_ (kn I hg hm boot_range (abJ (thn (ha pos pins s σ H _ I h) λ us s1 ⟨vs,H1,I1,r1,q1⟩=>?_) (by rw[hs,hs2]) (by rw[hs2];rfl)));obtain⟨i,j,e,⟨q1,q2,q3,q4⟩,q⟩:=q1;subst e
 cases r1 with
 | cons r rr=>
  cases rr with
  | cons r' rr=>
   cases rr;obtain⟨t,rfl⟩:=r;obtain⟨t',rfl⟩:=r';exact call_range_2 (mW I1 q1 q2 q3 q4 q)
def LK(wi:TI)(g:TG)(tb:TS):TS:=λ D σ H=>wi σ H λ J H1=>∃ W:Nat->Nat->St->Hp->Prop,(∃ m,W 0 m σ H1)/\∀ i m σ H,W i m σ H ->
 (J.stop i H/\D.nx σ H)∨(J.go i H/\∃ N:St->Hp->Prop,(∀ σ' H',N σ' H'->∃ m',m'<m/\W (i+1) m' σ' H')/\∀ x H',J.yld i H x H'->g x σ H' λ σ2 H2=>tb { D with nx:=N,ct:=N,bk:=D.nx } σ2 H2)
def iW(fp:List Addr)(h:Heap):List (Addr×Obj):=fp.filterMap λ b=>(h.get? b).map λ o=>(b,o)
theorem dU{o:Obj}(hb:b∈fp)(e:h.get? b=some o):(b,o)∈iW fp h:=ab7.mpr ⟨b,hb,by rw[e];rfl⟩
theorem qG{p:Addr×Obj}(hp:p∈iW fp h):p.1∈fp/\h.get? p.1=some p.2:=by
 obtain⟨b,hb,e⟩:=ab7.mp hp
 cases q:h.get? b with
 |none=>rw[q] at e;cases e
 | some o=>
  rw[q] at e;have e':(b,o)=p:=aaj e;subst e';exact⟨hb,q⟩
theorem Inv.pinned(I:Inv X pins σ H s)(hf:∀ b∈fp,qC X pins H b)(ho:∀ b∈fp,∃ o,s.heap.get? b=some o/\∀ v,o.data≠.cell v):Inv X (pins++iW fp s.heap) σ H s:=
 I.pins_of λ p hp=>(abL.mp hp).elim (λ z=>I.pin p (aai _ z)) λ z=>by
  obtain⟨hb,e⟩:=qG z;obtain⟨f0,f1,f2,_⟩:=hf p.1 hb;obtain⟨o,e',d⟩:=ho p.1 hb;rw[e] at e';cases e';exact⟨e,f0,f1,f2,d⟩
theorem Inv.unpinned{pl:List (Addr×Obj)}(I:Inv X (pins++pl) σ H s):Inv X pins σ H s:=I.pins_of λ p hp=>I.pin p (aai _ (aam _ hp))
theorem GJ{iter:Expr}{wi:TI}{g:TG}{tb:TS}(hp:PassesOwn (model X.prog X.w) X.A X.env X.xe)(hc:X.calm=true)(hi:PI X tg iter wi)(hg:PG X tg g)(hb:PSs X body tb)
  (hs:autoParam (∀ x,foldedSetIterable iter X.env x=pure x) L2.aI._auto_1):PS X (.For tg iter body [] pos) (LK wi g tb):=by
 intro pins s σ H D I h;refine wpAny_For (thn (hi pins s σ H _ I h) λ v s1 h1=>thn h1 λ itv s2 h2=>?_) hs;obtain⟨it,fp,tn,J,H2,e,I2,T,st2,f2,W,⟨m0,w0⟩,turn⟩:=h2;subst e
 -- what stays true of the iterator's objects through the loop
 have stat:∀ {H':Hp},(∀ b∈fp,H' b=none)->∀ b∈fp,qC X pins H' b:=λ hn b hb=>⟨hn b hb,(f2 b hb).2⟩;refine codeAny_forLoop_any (λ n s'=>∃ i σ' H',Inv X pins σ' H' s'/\tn i s'.heap/\(∀ b∈fp,H' b=none)/\W i n σ' H') ?_ m0 ⟨0,σ,H2,I2,st2,λ b hb=>(f2 b hb).1,w0⟩;rintro n s3 ⟨i,σ3,H3,I3,st3,fr3,w3⟩;rcases turn i n σ3 H3 w3 with ⟨stop,qn⟩|⟨go,N,hN,step⟩
 ·refine abg hp (thn (T.done X rfl rfl rfl hc i pins s3 σ3 H3 X.xe I3 (stat fr3) st3 stop) λ r s4 ⟨hr,I4⟩=>?_);subst hr;exact wpAny_execs_nil ⟨σ3,H3,I4,qn⟩
 ·refine abg hp (thn (T.item X rfl rfl rfl hc i pins s3 σ3 H3 X.xe I3 (stat fr3) st3 go) λ r s4 ⟨u,hr,h4⟩=>?_);subst hr;refine abg hp (thn h4 λ _ s5 ⟨x,H5,I5,r5,y5,st5,fr5⟩=>?_);have I5':=I5.pinned (stat fr5) (T.obj _ _ st5);refine abg hp (thn (hg _ s5 σ3 H5 x u _ I5' r5 (step x H5 y5)) λ _ s6 ⟨σ6,H6,I6,q6⟩=>?_);refine abg hp (thn (hb _ s6 σ6 H6 _ I6 q6) λ f s7 q7=>?_)
  have again:∀ {σ7:St} {H7:Hp},Inv X (pins++iW fp s5.heap) σ7 H7 s7->N σ7 H7->∃ m,m<n/\∃ i σ' H',Inv X pins σ' H' s7/\tn i s7.heap/\(∀ b∈fp,H' b=none)/\W i m σ' H':=fun {σ7 H7} I7 n7=>by
   obtain⟨m',hm,w7⟩:=hN σ7 H7 n7;refine⟨m',hm,i+1,σ7,H7,I7.unpinned,T.keep _ _ _ st5 λ b hb o e=>(I7.pin (b,o) (aai _ (aai _ (dU hb e)))).1,λ b hb=>?_,w7⟩;obtain⟨o,e,d⟩:=T.obj _ _ st5 b hb;exact(I7.pin (b,o) (aai _ (aai _ (dU hb e)))).2.1
  cases f with
  |next=>obtain ⟨σ7,H7,I7,n7⟩:=q7;exact again I7 n7
  |cont=>obtain ⟨σ7,H7,I7,n7⟩:=q7;exact again I7 n7
  |brk=>obtain ⟨σ7,H7,I7,q7⟩:=q7;exact ⟨σ7,H7,I7.unpinned,q7⟩
  |ret v=>obtain ⟨x7,σ7,H7,I7,r7,q7⟩:=q7;exact ⟨x7,σ7,H7,I7.unpinned,r7,q7⟩
abbrev R2:=V->V->Hp->VK->Prop
variable{r r':R2}
def OpR(X:Cx)(f:Value->Value->Sem Value)(r:R2):Prop:=
 ∀ (pins:List (Addr×Obj)) (s:Shared) (σ:St) (H:Hp) (x y:V) (v u:Value) (Q:VK),Inv X pins σ H s->RelV x v->RelV y u->r x y H Q ->
  wpAny (model X.prog X.w) X.A (f v u) (EP X pins σ Q) X.xe s
def UnR(X:Cx)(f:Value->Sem Value)(r:V->Hp->VK->Prop):Prop:=
 ∀ (pins:List (Addr×Obj)) (s:Shared) (σ:St) (H:Hp) (x:V) (v:Value) (Q:VK),Inv X pins σ H s->RelV x v->r x H Q ->
  wpAny (model X.prog X.w) X.A (f v) (EP X pins σ Q) X.xe s
def CallR(X:Cx)(f:Value)(r:List V->Hp->VK->Prop):Prop:=
 ∀ (pins:List (Addr×Obj)) (s:Shared) (σ:St) (H:Hp) (xs:List V) (us:List Value) (Q:VK),Inv X pins σ H s->Vals xs us->r xs H Q ->
  wpAny (model X.prog X.w) X.A (call f us) (EP X pins σ Q) X.xe s
def TruR(X:Cx)(r:V->Hp->(Bool->Hp->Prop)->Prop):Prop:=
 ∀ (pins:List (Addr×Obj)) (s:Shared) (σ:St) (H:Hp) (x:V) (v:Value) (Q:Bool->Hp->Prop),Inv X pins σ H s->RelV x v->r x H Q ->
  wpAny (model X.prog X.w) X.A (truthy v) (TP X pins σ Q) X.xe s
def tOp(r:R2)(ta tb:TE):TE:=λ σ H Q=>ta σ H λ x H1=>tb σ H1 λ y H2=>r x y H2 Q
def tUn(r:V->Hp->VK->Prop)(ta:TE):TE:=λ σ H Q=>ta σ H λ x H1=>r x H1 Q
def rI(C:Int->Int->Prop)(g:Int->Int->V):R2:=λ x y H Q=>∃ i j,x=.int i/\y=.int j/\C i j/\Q (g i j) H
def rI0(g:Int->Int->V):R2:=λ x y H Q=>∃ i j,x=.int i/\y=.int j/\Q (g i j) H
def rU(g:Int->V):V->Hp->VK->Prop:=λ x H Q=>∃ i,x=.int i/\Q (g i) H
section
variable  {a b:Expr} {tc:TE} 
theorem LL(ha:PE X a ta)(hb:PE X b tb)(I:Inv X pins σ H s)
  (h:ta σ H λ x H1=>tb σ H1 λ y H2=>R x y H2)  
  (hf:∀ v u s2 x y H2,Inv X pins σ H2 s2->RelV x v->RelV y u->R x y H2->wpAny (model X.prog X.w) X.A (f v u) Q X.xe s2) :
  wpAny (model X.prog X.w) X.A (eval a X.env) (λ v s₁=>wpAny (model X.prog X.w) X.A (eval b X.env) (λ u s₂=>wpAny (model X.prog X.w) X.A (f v u) Q X.xe s₂) X.xe s₁) X.xe s:=by
 refine thn (ha pins s σ H _ I h) λ v s1 ⟨x,H1,I1,r1,q1⟩=>?_;refine thn (hb pins s1 σ H1 _ I1 q1) λ u s2 ⟨y,H2,I2,r2,q2⟩=>?_;exact hf v u s2 x y H2 I2 r1 r2 q2
theorem LM{op:Operator}(ho:OpR X (binaryOp op) r)(ha:PE X a ta)(hb:PE X b tb):PE X (.BinOp a op b pos) (tOp r ta tb):=by
 intro pins s σ H Q I h;exact wpAny_BinOp (LL ha hb I h λ v u s2 x y H2 I2 rx ry q=>ho pins s2 σ H2 x y v u Q I2 rx ry q)
theorem LN{op:UnaryOp}{r:V->Hp->VK->Prop}(ho:UnR X (unaryOp op) r)(ha:PE X a ta):PE X (.UnaryOp op a pos) (tUn r ta):=by
 intro pins s σ H Q I h;exact UnaryOp_ (thn (ha pins s σ H _ I h) λ v s1 ⟨x,H1,I1,r1,q1⟩=>ho pins s1 σ H1 x v Q I1 r1 q1)
theorem opI{C:Int->Int->Prop}
  (rule:∀ (i j:Int) (t u:Tok) (s:Shared) (Q:Value->Shared->Prop) (E:Value->Shared->Prop),C i j->Q (.int (g i j) s.toks) { s with toks:=s.toks+1 }->wpAny (model X.prog X.w) X.A (f (.int i t) (.int j u)) Q E s) :
  OpR X f (rI C λ i j=>.int (g i j)):=by
 intro pins s σ H x y v u Q I rx ry h;obtain⟨i,j,rfl,rfl,hc,q⟩:=h;obtain⟨t,rfl⟩:=rx;obtain⟨t',rfl⟩:=ry;exact rule i j t t' s _ _ hc ⟨.int (g i j),H,I.tok _,⟨_,rfl⟩,q⟩
theorem Nn 
  (rule:∀ (i j:Int) (t u:Tok) (s:Shared) (Q:Value->Shared->Prop) (E:Value->Shared->Prop),Q (.int (g i j) s.toks) { s with toks:=s.toks+1 }->wpAny (model X.prog X.w) X.A (f (.int i t) (.int j u)) Q E s) :
  OpR X f (rI0 λ i j=>.int (g i j)):=by
 intro pins s σ H x y v u Q I rx ry h;obtain⟨i,j,rfl,rfl,q⟩:=h;obtain⟨t,rfl⟩:=rx;obtain⟨t',rfl⟩:=ry;exact rule i j t t' s _ _ ⟨.int (g i j),H,I.tok _,⟨_,rfl⟩,q⟩
theorem Ld{g:Int->Int->Bool}
  (rule:∀ (i j:Int) (t u:Tok) (s:Shared) (Q:Value->Shared->Prop) (E:Value->Shared->Prop),Q (.bool (g i j)) s->wpAny (model X.prog X.w) X.A (f (.int i t) (.int j u)) Q E s) :
  OpR X f (rI0 λ i j=>.bl (g i j)):=by
 intro pins s σ H x y v u Q I rx ry h;obtain⟨i,j,rfl,rfl,q⟩:=h;obtain⟨t,rfl⟩:=rx;obtain⟨t',rfl⟩:=ry;exact rule i j t t' s _ _ ⟨.bl (g i j),H,I,rfl,q⟩
def Gc(i j:Int):Prop:=0<j/\j<1073741824
def Gd(i j:Int):Prop:=0<=j/\j<=1000000/\i.natAbs<2 ^ 64
def CMul(i j:Int):Prop:=(-(2 ^ 64)<i/\i<2 ^ 64)∨(-(2 ^ 64)<j/\j<2 ^ 64)
theorem CMul.ok{i j:Int}(h:CMul i j):IntMulOk i j:=by
 rcases h with ⟨h1,h2⟩|⟨h1,h2⟩
 ·exact .of_left (intBits_le_64 h1 h2)
 ·exact .of_right (intBits_le_64 h1 h2)
theorem GK:OpR X (binaryOp .Add) (rI0 λ i j=>.int (i+j)):=Nn λ _ _ _ _ _ _ _ q=>add_int q
theorem GL:OpR X (binaryOp .Sub) (rI0 λ i j=>.int (i - j)):=Nn λ _ _ _ _ _ _ _ q=>sub_int q
theorem GM:OpR X (binaryOp .Mult) (rI CMul λ i j=>.int (i*j)):=opI λ _ _ _ _ _ _ _ hc q=>mul_int q hc.ok
theorem BH:OpR X (binaryOp .FloorDiv) (rI Gc λ i j=>.int (i / j)):=opI λ i j _ _ _ _ _ hc q=>by
 have h1:(0:Int)<j:=hc.1;have h2:j<1073741824:=hc.2;exact floordiv_int (by nofun) (by rw[Int.fdiv_eq_ediv_of_nonneg i (by nofun)];exact q) (.inl (PyProof.noPylong_small (by nofun)))
theorem GN:OpR X (binaryOp .Mod) (rI (λ _ j=>0<j) λ i j=>.int (i % j)):=opI λ i j _ _ _ _ _ hc q=>by
 have h1:(0:Int)<j:=hc;exact mod_int' (by nofun) (by rw[Int.fmod_eq_emod_of_nonneg i (by nofun)];exact q)
theorem GO:OpR X (binaryOp .Pow) (rI Gd λ i j=>.int (i ^ j.toNat)):=opI λ _ _ _ _ _ _ _ hc q=>pow_int_small hc.1 hc.2.1 hc.2.2 q
theorem unI{f:Value->Sem Value}{g:Int->Int}
  (rule:∀ (i:Int) (t:Tok) (s:Shared) (Q:Value->Shared->Prop) (E:Value->Shared->Prop),Q (.int (g i) s.toks) { s with toks:=s.toks+1 }->wpAny (model X.prog X.w) X.A (f (.int i t)) Q E s) :
  UnR X f (rU λ i=>.int (g i)):=by
 intro pins s σ H x v Q I rx h;obtain⟨i,rfl,q⟩:=h;obtain⟨t,rfl⟩:=rx;exact rule i t s _ _ ⟨.int (g i),H,I.tok _,⟨_,rfl⟩,q⟩
theorem GP:UnR X (unaryOp .USub) (rU λ i=>.int (-i)):=unI λ _ _ _ _ _ q=>neg_int q
end
def No:V->V->Bool
 |.non,.non=>true|.non,.int _=>true|.int _,.non=>true|.non,.bl _=>true|.bl _,.non=>true|.non,.str _=>true|.str _,.non=>true
 |.int _,.int _=>true|.bl _,.bl _=>true|.str _,.str _=>true|.byt _,.byt _=>true
 |.int _,.str _=>true|.str _,.int _=>true|.bl _,.str _=>true|.str _,.bl _=>true
 |_,_=>false
def rEq:R2:=λ x y H Q=>No x y=true/\Q (.bl (decide (x=y))) H
def rNe:R2:=λ x y H Q=>No x y=true/\Q (.bl (!decide (x=y))) H
theorem qH{i j:Int}:decide (V.int i=V.int j)=(i==j):=by
 rw[abx,decide_eq_true_iff,beq_iff_eq];exact⟨λ h=>by cases h;rfl,λ h=>by rw[h]⟩
theorem Ah{i j:Bool}:decide (V.bl i=V.bl j)=(i==j):=by
 rw[abx,decide_eq_true_iff,beq_iff_eq];exact⟨λ h=>by cases h;rfl,λ h=>by rw[h]⟩
theorem qI{i j:Str}:decide (V.str i=V.str j)=(i==j):=by
 rw[abx,decide_eq_true_iff,beq_iff_eq];exact⟨λ h=>by cases h;rfl,λ h=>by rw[h]⟩
theorem qJ{i j:Array UInt8}:decide (V.byt i=V.byt j)=(i.toList==j.toList):=by
 rw[abx,decide_eq_true_iff,beq_iff_eq];exact⟨λ h=>by cases h;rfl,λ h=>by rw[Array.toList_inj.mp h]⟩
section
variable  {a b:Expr} {tc:TE} 
theorem aW{Q:VK}{k k':Bool}(I:Inv X pins σ H s)(q:Q (.bl k) H)(e:k=k'):EP X pins σ Q (.bool k') s:=by
 subst e;exact⟨.bl k,H,I,rfl,q⟩
theorem LO:OpR X (compareOp .Eq) rEq:=by
 intro pins s σ H x y v u Q I rx ry h;obtain⟨hs,q⟩:=h
 cases x with
 | non=>
  cases rx
  cases y with
  |non=>cases ry;exact PySem.EqNone.eq_none_none (aW I q (by simp))
  |bl j=>cases ry;exact PySem.EqNone.eq_none_bool (aW I q (by simp))
  |int j=>obtain ⟨t',rfl⟩:=ry;exact PySem.EqNone.eq_none_int (aW I q (by simp))
  |str j=>obtain ⟨t',rfl⟩:=ry;exact PySem.EqNone.eq_none_str (aW I q (by simp))
  |_=>exact absurd (show false=true from hs) abP
 | bl i=>
  cases rx
  cases y with
  |non=>cases ry;exact PySem.EqNone.eq_bool_none (aW I q (by simp))
  |bl j=>cases ry;exact eq_bool (aW I q Ah)
  |str j=>obtain ⟨t',rfl⟩:=ry;exact PySem.EqMixed.eq_bool_str (aW I q (by simp))
  |_=>exact absurd (show false=true from hs) abP
 | int i=>
  obtain⟨t,rfl⟩:=rx
  cases y with
  |non=>cases ry;exact PySem.EqNone.eq_int_none (aW I q (by simp))
  |int j=>obtain ⟨t',rfl⟩:=ry;exact eq_int (aW I q qH)
  |str j=>obtain ⟨t',rfl⟩:=ry;exact PySem.EqMixed.eq_int_str (aW I q (by simp))
  |_=>exact absurd (show false=true from hs) abP
 | str i=>
  obtain⟨t,rfl⟩:=rx
  cases y with
  |non=>cases ry;exact PySem.EqNone.eq_str_none (aW I q (by simp))
  |bl j=>cases ry;exact PySem.EqMixed.eq_str_bool (aW I q (by simp))
  |int j=>obtain ⟨t',rfl⟩:=ry;exact PySem.EqMixed.eq_str_int (aW I q (by simp))
  |str j=>obtain ⟨t',rfl⟩:=ry;exact eq_str (aW I q qI)
  |_=>exact absurd (show false=true from hs) abP
 | byt i=>
  obtain⟨t,rfl⟩:=rx
  cases y with
  |byt j=>obtain ⟨t',rfl⟩:=ry;exact PySem.W.eq_bytes (aW I q qJ)
  |_=>exact absurd (show false=true from hs) abP
 |_=>cases y <;> exact absurd (show false=true from hs) abP
theorem LP:OpR X (compareOp .NotEq) rNe:=by
 intro pins s σ H x y v u Q I rx ry h;obtain⟨hs,q⟩:=h
 cases x with
 | non=>
  cases rx
  cases y with
  |non=>cases ry;exact PySem.EqNone.ne_none_none (aW I q (by simp))
  |bl j=>cases ry;exact PySem.EqNone.ne_none_bool (aW I q (by simp))
  |int j=>obtain ⟨t',rfl⟩:=ry;exact PySem.EqNone.ne_none_int (aW I q (by simp))
  |str j=>obtain ⟨t',rfl⟩:=ry;exact PySem.EqNone.ne_none_str (aW I q (by simp))
  |_=>exact absurd (show false=true from hs) abP
 | bl i=>
  cases rx
  cases y with
  |non=>cases ry;exact PySem.EqNone.ne_bool_none (aW I q (by simp))
  |bl j=>cases ry;exact ne_bool (aW I q (congrArg not Ah))
  |str j=>obtain ⟨t',rfl⟩:=ry;exact PySem.EqMixed.ne_bool_str (aW I q (by simp))
  |_=>exact absurd (show false=true from hs) abP
 | int i=>
  obtain⟨t,rfl⟩:=rx
  cases y with
  |non=>cases ry;exact PySem.EqNone.ne_int_none (aW I q (by simp))
  |int j=>obtain ⟨t',rfl⟩:=ry;exact ne_int (aW I q (congrArg not qH))
  |str j=>obtain ⟨t',rfl⟩:=ry;exact PySem.EqMixed.ne_int_str (aW I q (by simp))
  |_=>exact absurd (show false=true from hs) abP
 | str i=>
  obtain⟨t,rfl⟩:=rx
  cases y with
  |non=>cases ry;exact PySem.EqNone.ne_str_none (aW I q (by simp))
  |bl j=>cases ry;exact PySem.EqMixed.ne_str_bool (aW I q (by simp))
  |int j=>obtain ⟨t',rfl⟩:=ry;exact PySem.EqMixed.ne_str_int (aW I q (by simp))
  |str j=>obtain ⟨t',rfl⟩:=ry;exact ne_str (aW I q (congrArg not qI))
  |_=>exact absurd (show false=true from hs) abP
 | byt i=>
  obtain⟨t,rfl⟩:=rx
  cases y with
  |byt j=>obtain ⟨t',rfl⟩:=ry;exact PySem.W.ne_bytes (aW I q (congrArg not qJ))
  |_=>exact absurd (show false=true from hs) abP
 |_=>cases y <;> exact absurd (show false=true from hs) abP
theorem LQ:OpR X (compareOp .Lt) (rI0 λ i j=>.bl (decide (i<j))):=Ld λ _ _ _ _ _ _ _ q=>lt_int q
theorem LR:OpR X (compareOp .LtE) (rI0 λ i j=>.bl (decide (i<=j))):=Ld λ _ _ _ _ _ _ _ q=>le_int q
theorem LS:OpR X (compareOp .Gt) (rI0 λ i j=>.bl (decide (j<i))):=Ld λ _ _ _ _ _ _ _ q=>gt_int q
theorem LU:OpR X (compareOp .GtE) (rI0 λ i j=>.bl (decide (j<=i))):=Ld λ _ _ _ _ _ _ _ q=>ge_int q
theorem qK:OpR X (compareOp .In) (λ x y H Q=>∃ i j,x=.str i/\y=.str j/\Q (.bl (!(Builtin.Str.occurrences j i 0 j.length 1).isEmpty)) H):=by
 intro pins s σ H x y v u Q I rx ry h;obtain⟨i,j,rfl,rfl,q⟩:=h;obtain⟨t,rfl⟩:=rx;obtain⟨t',rfl⟩:=ry;exact in_str (aW I q rfl)
theorem GQ:OpR X (compareOp .Is) (λ x y H Q=>y=.non/\Q (.bl (decide (x=.non))) H):=by
 intro pins s σ H x y v u Q I rx ry h;obtain⟨rfl,q⟩:=h;cases ry;refine is_none_gen (aW I q ?_)
 cases x <;> first
  |(cases rx;rfl)
  |(obtain ⟨t,rfl⟩:=rx;rfl)
theorem BJ:OpR X (compareOp .IsNot) (λ x y H Q=>y=.non/\Q (.bl (!decide (x=.non))) H):=by
 intro pins s σ H x y v u Q I rx ry h;obtain⟨rfl,q⟩:=h;cases ry;refine isnot_none_gen (aW I q ?_)
 cases x <;> first
  |(cases rx;rfl)
  |(obtain ⟨t,rfl⟩:=rx;rfl)
theorem OpR.or(h:OpR X f r)(h':OpR X f r'):OpR X f (λ x y H Q=>r x y H Q∨r' x y H Q):=by
 intro pins s σ H x y v u Q I rx ry q;rcases q with q|q
 ·exact h pins s σ H x y v u Q I rx ry q
 ·exact h' pins s σ H x y v u Q I rx ry q
theorem BK(ho:OpR X (compareOp op) r)(ha:PE X a ta)(hb:PE X b tb)(hm:behindInMarks op b=false):PE X (.Compare a [op] [b] pos) (tOp r ta tb):=by
 intro pins s σ H Q I h;exact wpAny_Compare1 (LL ha hb I h λ v u s2 x y H2 I2 rx ry q=>ho pins s2 σ H2 x y v u Q I2 rx ry q) hm
def qL(t:TE):TT:=λ σ H Q=>t σ H λ x H'=>∃ k,x=.bl k/\Q k H'
theorem BL(ho:OpR X (compareOp op) r)(ha:PE X a ta)(hb:PE X b tb)(hm:behindInMarks op b=false):PT X (.Compare a [op] [b] pos) (qL (tOp r ta tb)):=by
 intro pins s σ H Q I h
 refine wpAny_isTrue_Compare1 (thn (ha pins s σ H _ I h) λ v s1 ⟨x,H1,I1,r1,q1⟩=>thn (hb pins s1 σ H1 _ I1 q1) λ u s2 ⟨y,H2,I2,r2,q2⟩=>
  thn (ho pins s2 σ H2 x y v u _ I2 r1 r2 q2) λ c s3 ⟨z,H3,I3,r3,k,e,q3⟩=>?_) hm
 subst e;cases r3;exact aaK ⟨H3,I3,q3⟩
def ko(r r':R2)(ta tb tc:TE):TE:=λ σ H Q=>ta σ H λ x H1=>tb σ H1 λ y H2=>r x y H2 λ z H3=>∃ k,z=.bl k /\
 (if k=true then tc σ H3 λ w' H4=>r' y w' H4 Q else Q (.bl false) H3)
theorem vU(ho:OpR X (compareOp op) r)(ho':OpR X (compareOp op') r')(ha:PE X a ta)(hb:PE X b tb)(hc:PE X c tc)
  (hm:lastMarks [op,op'] [b,c]=false:=by with_unfolding_all rfl):PE X (.Compare a [op,op'] [b,c] pos) (ko r r' ta tb tc):=by
 intro pins s σ H Q I h
 refine Compare_chain (thn (ha pins s σ H _ I h) λ v s1 ⟨x,H1,I1,r1,q1⟩=>chain_link (thn (hb pins s1 σ H1 _ I1 q1) λ u s2 ⟨y,H2,I2,r2,q2⟩=>
  thn (ho pins s2 σ H2 x y v u _ I2 r1 r2 q2) λ d s3 ⟨z,H3,I3,r3,k,e,q3⟩=>?_)) hm
 subst e;cases r3;refine aaK ?_
 cases k with
 |false=>exact ite_ff ⟨.bl false,H3,I3,rfl,q3⟩
 |true=>exact ite_tt (chain_last (thn (hc pins s3 σ H3 _ I3 q3) λ w' s4 ⟨z',H4,I4,r4,q4⟩=>ho' pins s4 σ H4 y z' u w' Q I4 r2 r4 q4))
theorem vV(ho:OpR X (compareOp op) r)(ho':OpR X (compareOp op') r')(ha:PE X a ta)(hb:PE X b tb)(hc:PE X c tc)
  (hm:lastMarks [op,op'] [b,c]=false:=by with_unfolding_all rfl):PT X (.Compare a [op,op'] [b,c] pos) (qL (ko r r' ta tb tc)):=by
 intro pins s σ H Q I h
 refine isTrue_chain (thn (ha pins s σ H _ I h) λ v s1 ⟨x,H1,I1,r1,q1⟩=>test_link (thn (hb pins s1 σ H1 _ I1 q1) λ u s2 ⟨y,H2,I2,r2,q2⟩=>
  thn (ho pins s2 σ H2 x y v u _ I2 r1 r2 q2) λ d s3 ⟨z,H3,I3,r3,k,e,q3⟩=>?_)) hm
 subst e;cases r3;refine aaK ?_
 cases k with
 | false=>
  obtain⟨k',e',q'⟩:=q3;cases e';exact ite_ff ⟨H3,I3,q'⟩
 | true=>
  refine ite_tt (test_last (thn (hc pins s3 σ H3 _ I3 q3) λ w' s4 ⟨z',H4,I4,r4,q4⟩=>thn (ho' pins s4 σ H4 y z' u w' _ I4 r2 r4 q4) λ d' s5 ⟨z2,H5,I5,r5,k2,e2,q5⟩=>?_));subst e2;cases r5;exact aaK ⟨H5,I5,q5⟩
def Le(K:Frag)(x:V)(H:Hp)(k:Bool):Prop:=
 match x with
 |.non=>k=false
 |.bl b=>k=b
 |.int i=>k=(i != 0)
 |.str y=>y.length<=sizeLine/\k=((y.length:Int) != 0)
 |.byt y=>y.size<=sizeLine/\k=((y.size:Int) != 0)
 |.ref p=>(∃ xs,SqL K H p xs/\k=!xs.isEmpty)∨(∃ xs,SqT K H p xs/\k=!xs.isEmpty)∨∃ kvs,H p=some (.dK kvs)/\k=!kvs.isEmpty
 |_=>False
theorem o9{κ:Type}{kvs:List (κ×V)}{vs:List (κ×Value)}(r:KV kvs vs):(!vs.isEmpty)=!kvs.isEmpty:=by
 cases r <;> rfl
theorem iX{its:List Value}(r:Vals xs its):(!its.toArray.isEmpty)=!xs.isEmpty:=by
 cases r <;> simp
theorem gJ:(sizeLine:Nat)<2 ^ 63:=by rw[sizeLine_eq];decide
theorem GR:TruR X (λ x H Q=>∃ k,Le X.K x H k/\Q k H):=by
 intro pins s σ H x v Q I rx h;obtain⟨k,e,q⟩:=h;have hl:=gJ;have hs:sizeLine=16777216:=sizeLine_eq
 cases x with
 | non=>
  cases rx;have e':k=false:=e;subst e';exact truthy_none ⟨H,I,q⟩
 | bl b=>
  cases rx;have e':k=b:=e;subst e';exact aaK ⟨H,I,q⟩
 | int i=>
  obtain⟨t,rfl⟩:=rx;have e':k=(i != 0):=e;subst e';exact PySem.P.truthy_int ⟨H,I,q⟩
 | str y=>
  obtain⟨t,rfl⟩:=rx;obtain⟨hy,e'⟩:y.length<=sizeLine/\k=((y.length:Int) != 0):=e;subst e';exact PySem.P.truthy_str (by nofun) ⟨H,I.tok _,q⟩
 | byt y=>
  obtain⟨t,rfl⟩:=rx;obtain⟨hy,e'⟩:y.size<=sizeLine/\k=((y.size:Int) != 0):=e;subst e';exact PySem.W.truthy_bytes (by nofun) ⟨H,I.tok _,q⟩
 | ref p=>
  cases rx;have e':(∃ xs,SqL X.K H p xs/\k=!xs.isEmpty)∨(∃ xs,SqT X.K H p xs/\k=!xs.isEmpty)∨∃ kvs,H p=some (.dK kvs)/\k=!kvs.isEmpty:=e;rcases e' with ⟨xs,hx,e'⟩|⟨xs,hx,e'⟩|⟨kvs,hx,e'⟩
  ·subst e';obtain⟨its,r,pl,hz⟩:=I.list hx;have hlen:=r.length;exact wpAny_truthy_list pl.isList (by simp only[List.size_toArray];nofun) ⟨H,I.tok _,by rw[iX r];exact q⟩
  ·subst e';obtain⟨its,r,pl,hz⟩:=I.tuple hx;have hlen:=r.length;exact truthy_tuple pl (by simp only[List.size_toArray];nofun) ⟨H,I.tok _,by rw[iX r];exact q⟩
  ·subst e';obtain⟨hz,hS,vs,r,m⟩:kvs.length<=sizeLine/\(p==sysModules)=false/\∃ vs,KV kvs vs/\s.heap.DictOf (aq X.prog X.w) p vs:=I.hok p _ hx;have hlen:kvs.length=vs.length:=aa1 r;exact wpAny_truthy_dict hS m (by nofun) ⟨H,I.tok _,by rw[o9 r];exact q⟩
 |_=>exact(show False from e).elim
theorem mX(ha:PE X a ta)(he:∀ whole,isTrue a X.env whole=(do let v ← whole;standAt a.pos;holding [v] (truthy v))) :
  PT X a (λ σ H Q=>ta σ H λ x H'=>∃ k,Le X.K x H' k/\Q k H'):=by
 intro pins s σ H Q I h;exact isTrue_plain (thn (ha pins s σ H _ I h) λ v s1 ⟨x,H1,I1,r1,q1⟩=>GR pins s1 σ H1 x v Q I1 r1 q1) (he _)
theorem pb:OpR X (binaryOp .Add) (λ x y H Q=>∃ i j,x=.str i/\y=.str j/\i.length+j.length<=sizeLine/\Q (.str (i++j)) H):=by
 intro pins s σ H x y v u Q I rx ry h;obtain⟨i,j,rfl,rfl,hz,q⟩:=h;obtain⟨t,rfl⟩:=rx;obtain⟨t',rfl⟩:=ry;exact add_str (λ t' tk=>⟨.str (i++j),H,I.tok _,⟨_,rfl⟩,q⟩) hz
theorem dF{x:V}(r:Vals [x] us):∃ u,us=[u]/\RelV x u:=by
 cases r with
 |cons r1 r2=>cases r2;exact⟨_,rfl,r1⟩
theorem vW{x:V}(r:Vals [x,y] us):∃ u w',us=[u,w']/\RelV x u/\RelV y w':=by
 cases r with
 | cons r1 r2=>
  cases r2 with
  |cons r3 r4=>cases r4;exact ⟨_,_,rfl,r1,r3⟩
theorem qM(hc:X.calm=true):CallR X (.builtin "max") (λ xs H Q=>∃ i j,xs=[.int i,.int j]/\Q (.int (if j > i then j else i)) H):=by
 intro pins s σ H xs us Q I r h;obtain⟨i,j,rfl,q⟩:=h;obtain⟨u,w',rfl,⟨t,rfl⟩,⟨t',rfl⟩⟩:=vW r;refine max_two_ints (I.ok.hd hc) λ h' tk k=>⟨_,H,I.kept k,?_,q⟩;by_cases hj:j > i
 ·rw[if_pos hj,if_pos hj];exact⟨_,rfl⟩
 ·rw[if_neg hj,if_neg hj];exact⟨_,rfl⟩
theorem qO(hc:X.calm=true):CallR X (.builtin "min") (λ xs H Q=>∃ i j,xs=[.int i,.int j]/\Q (.int (if j<i then j else i)) H):=by
 intro pins s σ H xs us Q I r h;obtain⟨i,j,rfl,q⟩:=h;obtain⟨u,w',rfl,⟨t,rfl⟩,⟨t',rfl⟩⟩:=vW r;refine min_two_ints (I.ok.hd hc) λ h' tk k=>⟨_,H,I.kept k,?_,q⟩;by_cases hj:j<i
 ·rw[if_pos hj,if_pos hj];exact⟨_,rfl⟩
 ·rw[if_neg hj,if_neg hj];exact⟨_,rfl⟩
end
structure ObjM(h:Heap)(x dx C:Addr)(mA:Str->Option Value):Prop where
 obj:h.get? x=some (PySem.W.instObj C dx)
 ns:h.Ns1 dx mA
 ne:dx≠x
theorem qP(n:h.Ns1 dx mA):∃ od,h.get? dx=some od/\∀ name,PySem.W.lookIn name od=some (mA name):=by
 obtain⟨o,es,ep,ho,hd,hk,_,hm⟩:=n;refine⟨o,ho,λ name=>?_⟩;have e:=hm name;unfold nsFind findBy at e;rw[← Array.find?_toList] at e;unfold PySem.W.lookIn;rw[hd];dsimp only;split
 ·rename_i y q;rw[q] at e;exact congrArg some e
 ·rename_i q;rw[q] at e
  have a:es.toList.any (·.refKey)=false:=by
   rw[List.any_eq_false];intro y hy;obtain⟨z,t,hkey⟩:=hk y (Array.mem_toList_iff.mp hy);simp[DictEntry.refKey,hkey]
  have a':¬ es.toList.any (·.refKey)=true:=by rw[a];exact abP
  rw[if_neg a'];exact congrArg some e
theorem ObjM.look{x:Addr}(I:ObjM h x dx C mA):∃ od,PySem.W.InstAt h x (PySem.W.instObj C dx) C (some od)/\∀ name,PySem.W.lookIn name od=some (mA name):=
 let ⟨od,ho,hl⟩:=qP I.ns
 ⟨od,⟨I.obj,rfl,rfl,ho⟩,hl⟩
section
variable      {K:Frag} {x f:Addr}   {v:Value}
theorem BM{expr:Bool}(X:K.In s.heap)(I:ObjM s.heap x dx C mA)(hg:PySem.W.plainGet K C name=true)(hh:PySem.W.hasDictIn K C=true)
  (ha:PySem.W.findIn K (.ref C) name=some none) (hv:mA name=some v) (hv':PySem.W.handedIn v=true) (h:Q v { s with toks:=s.toks+1 }) :
  wpAny (model prog w) A (getAttr (.ref x) name expr) Q E s:=by
 obtain⟨od,J,hl⟩:=I.look;exact PySem.W.get_value X J (PySem.W.plainGet_of hg).1 (PySem.W.findObj_own hh ha rfl (by rw[hl,hv])) hv' h
theorem vX{Q:Value×List Value->Shared->Prop}(X:K.In s.heap)(I:ObjM s.heap x dx C mA)(hg:PySem.W.plainGet K C name=true)
  (hf:PySem.W.findIn K (.ref C) name=some (some (.ref f))) (ht:PySem.W.isFn K (.ref f)=true) (hv:mA name=none) (h:Q (.ref f,[.ref x]) s) :
  wpAny (model prog w) A (getMethod (.ref x) name pl) Q E s:=by
 obtain⟨od,J,hl⟩:=I.look;exact PySem.W.method_fn X J (PySem.W.plainGet_of hg).1 (PySem.W.plainGet_of hg).2 hf (beq_iff_eq.mp ht) (by show (PySem.W.lookIn name od).map (·.isSome)=some false;rw[hl,hv];rfl) h
theorem BN{ns:List Str}{Q:Unit->Shared->Prop}(X:K.In s.heap)(I:ObjM s.heap x dx C mA)
  (hs:PySem.W.findIn K (.ref C) "__setattr__" = some (some (.builtin "object.__setattr__"))) (hp:PySem.W.plainOver K C=true) (ht:PySem.W.takerIn K C name=some none) (hh:PySem.W.hasDictIn K C=true)
  (hw:PySem.Within mA ns) (hsz:ns.length<=sizeLine)
  (h:∀ h',ObjM h' x dx C (λ y=>if y=name then some v else mA y)->Heap.SameBut dx s.heap h'->Q () { s with heap:=h',toks:=s.toks+2 }) :
  wpAny (model prog w) A (setAttr (.ref x) name v) Q E s:=by
 obtain⟨od,J,hl⟩:=I.look;refine PySem.W.set_plain X J hs (PySem.W.osa_open (s:={ s with toks:=s.toks+1 }) (r:=none) X J hp ht λ b=>?_);obtain⟨cd,hc,hd'⟩:=PySem.W.any_some hh;have hx:s.heap.get? x=some ⟨.ref C,some dx,.plain,#[]⟩:=I.obj;refine aaa (aae (aaa (aaa (wpAny_loadPart hx (aaa (PySem.W.Looks.here (s:={ s with toks:=s.toks+1 }) (PySem.W.looks_clsIn X hc) ?_))))));rw[hd'];refine aae (a:=some dx) (aaa (aae (aaa ?_)));refine wpAny_nsSet1 (s:={ s with toks:=s.toks+1 }) I.ns λ h' hn2 hs2=>?_;obtain⟨oD,esD,epD,hoD,hdD,hcD⟩:=hn2.count (PySem.Within.cons name v hw);refine aaa (wpAny_lookBehind hoD (by rw[hdD];exact pastItsLine_dict (aau hcD (by rw[abO];nofun))) ?_);exact aae (h _ ⟨(hs2.2 _ (abk I.ne)).trans I.obj,hn2,I.ne⟩ hs2)
theorem vY{R:Result->Shared->Prop}{vs:List Value}(X:K.In s.heap)(hm:PySem.W.makesIn K C=true)
  (hi:PySem.W.findIn K (.ref C) "__init__" = some (some (.ref f))) (hf:PySem.W.typeIn K (.ref f)=some (.type "function"))
  (h:codeAny (model prog w) (A.under (.builtin "type.__call__" ⟨.ref C::vs,kw⟩)) (.call (.ref f) ⟨.ref (s.heap.objs.size+1)::vs,kw⟩) (PySem.W.InitBack (s.heap.objs.size+1) R)
   { s with heap:=(s.heap.push PySem.W.emptyDict).push (PySem.W.instObj C s.heap.objs.size) }) :
  codeAny (model prog w) A (.call (.ref C) ⟨vs,kw⟩) R s:=by
 obtain⟨hh,g,d,t,os⟩:=s;exact PySem.W.make_core (PySem.W.makes_of X hm) (PySem.W.looks_findIn X hi) (λ self=>PySem.W.bind_fn X self hf) (.inl rfl) h
end
def eY(f:Str)(v:V):List (Str×V)->List (Str×V)
 |[]=>[(f,v)]
 |(g,x)::r=>if g=f then (g,v)::r else (g,x)::eY f v r
theorem gK(f g:Str)(v:V):∀ fs:List (Str×V),(eY f v fs).lookup g=if g=f then some v else fs.lookup g
 | []=>by
  show List.lookup g [(f,v)]=_;by_cases h:g=f
  ·have hb:(g==f)=true:=beq_iff_eq.mpr h;simp only[List.lookup,hb,if_pos h]
  ·have hb:(g==f)=false:=beq_eq_false_iff_ne.mpr h;simp only[List.lookup,hb,if_neg h]
 | (k,x)::r=>by
  have ih:=gK f g v r;rw[show eY f v ((k,x)::r)=(if k=f then (k,v)::r else (k,x)::eY f v r) from rfl];by_cases hk:k=f
  ·rw[if_pos hk];by_cases h:g=k
   ·have hb:(g==k)=true:=beq_iff_eq.mpr h;simp only[List.lookup,hb,if_pos (h.trans hk)]
   ·have hb:(g==k)=false:=beq_eq_false_iff_ne.mpr h;simp only[List.lookup,hb,if_neg (λ e:g=f=>h (e.trans hk.symm))]
  ·rw[if_neg hk];by_cases h:g=k
   ·have hb:(g==k)=true:=beq_iff_eq.mpr h;simp only[List.lookup,hb,if_neg (λ e:g=f=>hk (h.symm.trans e))]
   ·have hb:(g==k)=false:=beq_eq_false_iff_ne.mpr h;simp only[List.lookup,hb];exact ih
theorem gL(f:Str)(v:V):∀ fs:List (Str×V),f∈(eY f v fs).map (·.1)/\∀ g,g∈fs.map (·.1)->g∈(eY f v fs).map (·.1)
 |[]=>⟨by simp[eY],λ g h=>by simp at h⟩
 | (k,x)::r=>by
  obtain⟨i1,i2⟩:=gL f v r;rw[show eY f v ((k,x)::r)=(if k=f then (k,v)::r else (k,x)::eY f v r) from rfl];by_cases hk:k=f
  ·rw[if_pos hk];subst hk;exact⟨by simp,λ g h=>(by exists h)⟩
  ·rw[if_neg hk];refine⟨?_,λ g h=>?_⟩
   ·rw[abM];exact aad _ i1
   ·rw[abM] at h ⊢;rcases abQ.mp h with e|e
    ·exact abQ.mpr (.inl e)
    ·exact aad _ (i2 g e)
theorem gM(f:Str)(v:V):∀ fs:List (Str×V),(eY f v fs).length<=fs.length+1
 |[]=>by simp[eY]
 | (k,x)::r=>by
  have ih:=gM f v r;rw[show eY f v ((k,x)::r)=(if k=f then (k,v)::r else (k,x)::eY f v r) from rfl];by_cases hk:k=f
  ·rw[if_pos hk,abO,abO];nofun
  ·rw[if_neg hk,abO,abO];nofun
theorem RelO.some_of{o:Option Value}(r:RelO (some v) o):∃ u,o=some u/\RelV v u:=by
 cases o with
 |none=>exact(show False from r).elim
 |some u=>exact⟨u,rfl,r⟩
theorem RelO.none_of{o:Option Value}(r:RelO none o):o=none:=by
 cases o with
 |none=>rfl
 |some u=>exact(show False from r).elim
theorem qQ(r:RelV v u):PySem.W.handedIn u=true:=by
 cases v with
 |non=>cases (show u=Value.none from r);rfl
 |bl b=>cases (show u=Value.bool b from r);rfl
 |int i=>obtain⟨t,e⟩:=(show ∃ t,u=Value.int i t from r);cases e;rfl
 |str x=>obtain⟨t,e⟩:=(show ∃ t,u=Value.str x t from r);cases e;rfl
 |byt b=>obtain⟨t,e⟩:=(show ∃ t,u=Value.bytes b t from r);cases e;rfl
 |flt b=>obtain⟨t,e⟩:=(show ∃ t,u=Value.float b t from r);cases e;rfl
 |ref a=>cases (show u=Value.ref a from r);rfl
 |ty n=>cases (show u=Value.type n from r);rfl
section
variable      {fs fs':List (Str×V)}
theorem jv(hok:HOk P w H h)(e:H a=some (.ins C dx fs)):∃ mA,ObjM h a dx C mA/\(∀ f,RelO (fs.lookup f) (mA f))/\PySem.Within mA (fs.map (·.1))/\fs.length<=1000/\H dx=some (.own a):=by
 obtain⟨d,z,ne,ob,mA,n,r,q⟩:=(show ObjOk P w H h a (.ins C dx fs) from hok a _ e);exact⟨mA,⟨ob,n,ne⟩,r,q,z,d⟩
end
structure Cls(K:Frag)(C:Addr):Prop where
 pg:PySem.W.plainGet K C Str.empty=true
 hd:PySem.W.hasDictIn K C=true
 po:PySem.W.plainOver K C=true
 sa:PySem.W.findIn K (.ref C) "__setattr__" = some (some (.builtin "object.__setattr__"))
theorem Cls.get{K:Frag}(c:Cls K C)(f:Str):PySem.W.plainGet K C f=true:=c.pg
def NoAttr(K:Frag)(C:Addr)(f:Str):Prop:=PySem.W.findIn K (.ref C) f=some none
theorem NoAttr.taker{K:Frag}{f:Str}(n:NoAttr K C f):PySem.W.takerIn K C f=some none:=by
 unfold PySem.W.takerIn;rw[show PySem.W.findIn K (.ref C) f=some none from n];rfl
structure Meth(K:Frag)(C:Addr)(m:Str)(f:Addr):Prop where
 at_:PySem.W.findIn K (.ref C) m=some (some (.ref f))
 fn:PySem.W.isFn K (.ref f)=true
 kp:PySem.W.keepIn K (.ref f)=true
section
variable       {fs:List (Str×V)} {f:Str}   
theorem iY{b:Bool}(I:Inv X pins σ H s)(e:H a=some (.ins C dx fs))(c:Cls X.K C)(n:NoAttr X.K C f)(l:fs.lookup f=some v)
  (h:∀ u s',Inv X pins σ H s'->RelV v u->Q u s'):wpAny (model X.prog X.w) A (getAttr (.ref a) f b) Q E s:=by
 obtain⟨mA,O,r,_,_,_⟩:=jv I.hok e;obtain⟨u,hu,ru⟩:=RelO.some_of (v:=v) (o:=mA f) (by rw[← l];exact r f);exact BM I.kIn O (c.get f) c.hd n hu (qQ ru) (h u _ (I.tok _) ru)
theorem fN{g:Addr}{Q:Value×List Value->Shared->Prop}(I:Inv X pins σ H s)(e:H a=some (.ins C dx fs))(c:Cls X.K C)(k:Meth X.K C m g)(l:fs.lookup m=none)
  (h:Q (.ref g,[.ref a]) s):wpAny (model X.prog X.w) A (getMethod (.ref a) m pl) Q E s:=by
 obtain⟨mA,O,r,_,_,_⟩:=jv I.hok e;have hn:mA m=none:=RelO.none_of (by rw[← l];exact r m);exact vX I.kIn O (c.get m) k.at_ k.fn hn h
theorem iZ{Q:Unit->Shared->Prop}(I:Inv X pins σ H s)(e:H a=some (.ins C dx fs))(c:Cls X.K C)(n:NoAttr X.K C f)(hl:fs.length<1000)(ry:RelV y u)
  (h:∀ s',Inv X pins σ (upd H a (.ins C dx (eY f y fs))) s'->Q () s'):wpAny (model X.prog X.w) A (setAttr (.ref a) f u) Q E s:=by
 obtain⟨mA,O,r,wi,_,ho⟩:=jv I.hok e;have hz:(fs.map (·.1)).length<=sizeLine:=by rw[abK,sizeLine_eq];nofun
 refine BN I.kIn O c.sa c.po n.taker c.hd wi hz λ h' O' sb=>h _ ?_;have hd:∃ o,h'.get? dx=some o:=let ⟨o,_,_,e',_⟩:=O'.ns;⟨o,e'⟩;refine I.write (x:=a) (e:=dx) (by rw[e];exact True.intro) (.inr ho) (λ b q hb z=>(sb.2 b hb).trans z) hd ?_;refine⟨by rw[af O.ne];exact ho,?_,O.ne,O'.obj,_,O'.ns,λ g=>?_,λ g hg=>?_⟩
 ·have:=gM f y fs;nofun
 ·show RelO ((eY f y fs).lookup g) (if g=f then some u else mA g);rw[gK];by_cases q:g=f
  ·rw[if_pos q,if_pos q];exact ry
  ·rw[if_neg q,if_neg q];exact r g
 ·by_cases q:g=f
  ·rw[q];exact(gL f y fs).1
  ·refine(gL f y fs).2 g (wi g λ z=>hg ?_);show (if g=f then some u else mA g)=none;rw[if_neg q];exact z
theorem Inv.made(I:Inv X pins σ H s):Inv X pins σ (upd (upd H s.heap.objs.size (.own (s.heap.objs.size+1))) (s.heap.objs.size+1) (.ins C s.heap.objs.size []))
  { s with heap:=(s.heap.push PySem.W.emptyDict).push (PySem.W.instObj C s.heap.objs.size) }:=by
 have e1:(s.heap.push PySem.W.emptyDict).get? s.heap.objs.size=some PySem.W.emptyDict:=Heap.get?_push_size s.heap rfl
 have e2:((s.heap.push PySem.W.emptyDict).push (PySem.W.instObj C s.heap.objs.size)).get? (s.heap.objs.size+1)=some (PySem.W.instObj C s.heap.objs.size):=by
  have:=Heap.get?_push_size (s.heap.push PySem.W.emptyDict) (o:=PySem.W.instObj C s.heap.objs.size) rfl
  rwa [aaU] at this
 have e3:(s.heap.push PySem.W.emptyDict).Ns s.heap.objs.size (λ _=>none):=⟨PySem.W.emptyDict,#[],_,e1,rfl,(λ e he=>absurd he (by simp)),λ _=>rfl⟩;have I1:=I.laid (a:=s.heap.objs.size) (o:=.own (s.heap.objs.size+1)) (h':=s.heap.push PySem.W.emptyDict) (t':=s.toks) (λ b u q=>Heap.get?_push_of_some _ q) (aac _) ⟨_,e1⟩;refine I1.laid (a:=s.heap.objs.size+1) (o:=.ins C s.heap.objs.size []) (t':=s.toks) (λ b u q=>Heap.get?_push_of_some _ q) (Nat.le_of_eq (aaU _ _)) ?_;have ne:s.heap.objs.size≠s.heap.objs.size+1:=aak (aaE _);refine⟨by rw[af ne,ae],aaq _,ne,e2,λ _=>none,(Heap.Ns1.of_empty e3).at λ o q=>Heap.get?_push_of_some _ q,λ _=>True.intro,λ y hy=>absurd rfl hy⟩
theorem BP{env:Env}(hb:attributeBase e f env (eval e env)=eval e env)
  (h:wpAny (model prog w) A (eval e env) (λ o s₁=>wpAny (model prog w) A (getAttr o f true) Q E s₁) E s):wpAny (model prog w) A (eval (.Attribute e f pos) env) Q E s:=
 Attribute_any_ h (by rw[arm_eval_Attribute,hb])
end
def vZ(K:Frag)(ta:TE)(f:Str):TE:=λ σ H Q=>ta σ H λ x H1=>∃ a C dx fs v,x=.ref a/\H1 a=some (.ins C dx fs)/\Cls K C/\NoAttr K C f/\fs.lookup f=some v/\Q v H1
def Lf(K:Frag)(ta tv:TE)(f:Str):TS:=λ D σ H=>tv σ H λ y H1=>ta σ H1 λ x H2=>∃ a C dx fs,x=.ref a/\H2 a=some (.ins C dx fs)/\Cls K C/\NoAttr K C f/\fs.length<1000 /\
 D.nx σ (upd H2 a (.ins C dx (eY f y fs)))
def Np(X:Cx)(op:Operator)(rd:V->V->Hp->VK->Prop):Prop:=
 ∀ (pins:List (Addr×Obj)) (s:Shared) (σ:St) (H:Hp) (x y:V) (u v:Value) (Q:VK),Inv X pins σ H s->RelV x u->RelV y v->rd x y H Q->wpAny (model X.prog X.w) X.A (inplaceOp op u v) (EP X pins σ Q) X.xe s
def l8(K:Frag)(ta tv:TE)(rd:V->V->Hp->VK->Prop)(f:Str):TS:=λ D σ H=>ta σ H λ x H1=>∃ a C dx fs v,x=.ref a/\H1 a=some (.ins C dx fs)/\Cls K C/\NoAttr K C f/\fs.lookup f=some v /\
 tv σ H1 λ y H2=>rd v y H2 λ z H3=>∃ dx' fs',H3 a=some (.ins C dx' fs')/\fs'.length<1000/\D.nx σ (upd H3 a (.ins C dx' (eY f z fs')))
section
variable  {o value:Expr} {f:Str} {tpos:Pos} {tv:TE}
theorem GS(he:PE X e ta)(hb:attributeBase e f X.env (eval e X.env)=eval e X.env):PE X (.Attribute e f pos) (vZ X.K ta f):=by
 intro pins s σ H Q I h;refine BP hb (thn (he pins s σ H _ I h) λ u s1 ⟨x,H1,I1,rx,a,C,dx,fs,v,ex,ea,c,n,l,q⟩=>?_);subst ex;obtain rfl:u=Value.ref a:=rx;exact iY I1 ea c n l λ u' s2 I2 ru=>⟨v,H1,I2,ru,q⟩
theorem GT(ha:PE X o ta)(hv:PE X value tv)(hs:swapsWith value (some (.Attribute o f pos')) pos.line X.env=pure false):PS X (.Assign [.Attribute o f pos'] value pos) (Lf X.K ta tv f):=by
 intro pins s σ H D I h;refine plainObj_wpAny_Assign_Attribute (thn (hv pins s σ H _ I h) λ u s1 ⟨y,H1,I1,ry,q⟩=>thn (ha pins s1 σ H1 _ I1 q) λ ov s2 ⟨x,H2,I2,rx,a,C,dx,fs,ex,ea,c,n,l,q2⟩=>?_) hs;subst ex;obtain rfl:ov=Value.ref a:=rx;exact iZ I2 ea c n l ry λ s3 I3=>⟨σ,_,I3,q2⟩
theorem qR{op:Operator}{rd:V->V->Hp->VK->Prop}(ha:PE X o ta)(hv:PE X value tv)(hop:Np X op rd):PS X (.AugAssign (.Attribute o f tpos) op value pos) (l8 X.K ta tv rd f):=by
 intro pins s σ H D I h;refine wpAny_AugAssign_AttributeAny (thn (ha pins s σ H _ I h) λ ov s1 ⟨x,H1,I1,rx,a,C,dx,fs,v,ex,ea,c,n,l,q⟩=>?_);subst ex;obtain rfl:ov=Value.ref a:=rx;refine iY I1 ea c n l λ u s2 I2 ru=>thn (hv pins s2 σ H1 _ I2 q) λ w3 s3 ⟨y,H2,I3,ry,q3⟩=>thn (hop pins s3 σ H2 v y u w3 _ I3 ru ry q3) λ w4 s4 ⟨z,H3,I4,rz,dx',fs',ea',l',q4⟩=>?_;exact iZ I4 ea' c n l' rz λ s5 I5=>⟨σ,_,I5,q4⟩
def LV:V->V->Hp->VK->Prop:=λ x y H Q=>∃ i j,x=.int i/\y=.int j/\Q (.int (i+j)) H
theorem GU:Np X .Add LV:=by
 rintro pins s σ H x y u v Q I rx ry ⟨i,j,rfl,rfl,q⟩;obtain⟨t,rfl⟩:=(show ∃ t,u=Value.int i t from rx);obtain⟨t',rfl⟩:=(show ∃ t',v=Value.int j t' from ry);exact PyProof.Rows.iadd_int ⟨.int (i+j),H,I.tok _,⟨_,rfl⟩,q⟩
theorem BQ{args:List Expr}(he:PE X e te)(I:Inv X pins σ H s)
  (h:te σ H λ x H1=>∃ a C dx fs g,x=.ref a/\H1 a=some (.ins C dx fs)/\Cls X.K C/\Meth X.K C m g/\fs.lookup m=none /\
   ∀ s1,Inv X pins σ H1 s1->wpAny (model X.prog X.w) X.A (callWith pos (.ref g) [.ref a] (backTo pos (starEach args X.env)) (backToKw pos (keywordEach [] X.env))) Q X.xe s1)
  (ht:eval (.Call (.Attribute e m apos) args [] pos) X.env=(do
   let ov ← eval e X.env
   standAt apos.atName
   let (f,first) ← holding [ov] (getMethod ov m pl)
   callWith pos f first (backTo pos (starEach args X.env)) (backToKw pos (keywordEach [] X.env)))) :
  wpAny (model X.prog X.w) X.A (eval (.Call (.Attribute e m apos) args [] pos) X.env) Q X.xe s:=by
 refine PySem.W.methodCall_KW (pl:=pl) (thn (he pins s σ H _ I h) λ u s1 ⟨x,H1,I1,rx,a,C,dx,fs,g,ex,ea,c,k,l,q⟩=>?_) ht;subst ex;obtain rfl:u=Value.ref a:=rx;exact fN I1 ea c k l (q s1 I1)
end
section
variable         {c:Value} {b:Bool}
inductive TyOf(K:Frag)(H:Hp):V->Value->Prop where
 |non:TyOf K H .non (.type "NoneType")
 |bl (x:Bool):TyOf K H (.bl x) (.type "bool")
 |int (i:Int):TyOf K H (.int i) (.type "int")
 |str (x:Str):TyOf K H (.str x) (.type "str")
 |flt (x:UInt64):TyOf K H (.flt x) (.type "float")
 |lst {a:Addr} {xs:List V} (e:H a=some (.lst xs)):TyOf K H (.ref a) (.type "list")
 |frz {a:Addr} {o:Obj} {xs:List V} (e:H a=some (.frz o (.lst xs))):TyOf K H (.ref a) (.type "list")
 |tup {a:Addr} {xs:List V} (e:H a=some (.tup xs)):TyOf K H (.ref a) (.type "tuple")
 |dK {a:Addr} {kvs:List (Key×V)} (e:H a=some (.dK kvs)):TyOf K H (.ref a) (.type "dict")
 |dT {a:Addr} {kvs:List (List Key×V)} (e:H a=some (.dT kvs)):TyOf K H (.ref a) (.type "dict")
 | ins {a C dx:Addr} {fs:List (Str×V)} (e:H a=some (.ins C dx fs)) (cl:Cls K C) (ha:PySem.W.findIn K (.ref C) "__class__" = some (some (.builtin "object.__class__")))
   (hn:PySem.W.specialIn K (.builtin "object.__class__") "__get__" = some (some (.builtin "getset_descriptor.__get__"))) (htk:PySem.W.takesIn K (.builtin "object.__class__")=some true)
   (hm:PySem.W.mroIn K C (.type "object")=some true):TyOf K H (.ref a) (.ref C)
theorem eZ{x:V}{t:Value}(I:Inv X pins σ H s)(rx:RelV x u)(ty:TyOf X.K H x t)(e:PySem.W.kitOne X.K t c=some b)(h:∀ tk,Q (.bool b) { s with toks:=tk }) :
  wpAny (model X.prog X.w) A (call (.builtin "isinstance") [u,c]) Q E s:=by
 cases ty with
 |non=>cases (show u=Value.none from rx);exact aax PySem.W.kitx_none I.kIn True.intro e (λ z=>nomatch z) h
 |bl y=>cases (show u=Value.bool y from rx);exact aax PySem.W.kitx_bool I.kIn True.intro e (λ z=>nomatch z) h
 |int i=>obtain⟨t,q⟩:=(show ∃ t,u=Value.int i t from rx);cases q;exact aax PySem.W.kitx_int I.kIn True.intro e (λ z=>nomatch z) h
 |str y=>obtain⟨t,q⟩:=(show ∃ t,u=Value.str y t from rx);cases q;exact aax PySem.W.kitx_str I.kIn True.intro e (λ z=>nomatch z) h
 |flt y=>obtain⟨t,q⟩:=(show ∃ t,u=Value.float y t from rx);cases q;exact aax PySem.W.kitx_float I.kIn True.intro e (λ z=>nomatch z) h
 | @lst a xs ea=>
  cases (show u=Value.ref a from rx);obtain⟨_,_,n,_,h1⟩:=(show ObjOk X.prog X.w H s.heap a (.lst xs) from I.hok a _ ea);exact aax PySem.W.kitx_list I.kIn ⟨_,h1,rfl⟩ e (λ z=>nomatch z) h
 | @frz a ob xs ea=>
  cases (show u=Value.ref a from rx);obtain⟨_,_,_,n,_,h1⟩:=(show ObjOk X.prog X.w H s.heap a (.frz ob (.lst xs)) from I.hok a _ ea);exact aax PySem.W.kitx_list I.kIn ⟨_,h1,rfl⟩ e (λ z=>nomatch z) h
 | @tup a xs ea=>
  cases (show u=Value.ref a from rx);obtain⟨_,_,_,p⟩:=(show ObjOk X.prog X.w H s.heap a (.tup xs) from I.hok a _ ea);obtain⟨o,h1,h2,_⟩:=p;exact aax PySem.W.kitx_tuple I.kIn ⟨o,h1,h2⟩ e (λ z=>nomatch z) h
 | @dK a kvs ea=>
  cases (show u=Value.ref a from rx);obtain⟨_,_,vs,_,p⟩:=(show ObjOk X.prog X.w H s.heap a (.dK kvs) from I.hok a _ ea);obtain⟨o,es,ep,h1,h2,_⟩:=p;exact aax abz I.kIn ⟨o,h1,h2.1⟩ e (λ z=>nomatch z) h
 | @dT a kvs ea=>
  cases (show u=Value.ref a from rx);obtain⟨_,_,xs,_,o,es,ep,h1,h2,_⟩:=(show ObjOk X.prog X.w H s.heap a (.dT kvs) from I.hok a _ ea);exact aax abz I.kIn ⟨o,h1,h2.1⟩ e (λ z=>nomatch z) h
 | @ins a C dx fs ea cl ha hn htk hm=>
  cases (show u=Value.ref a from rx);obtain⟨mA,O,_⟩:=jv I.hok ea;obtain⟨od,J,_⟩:=O.look;exact aax (PySem.W.kitx_own (cl.get _) cl.hd ha hn htk hm) I.kIn J e (λ z=>nomatch z) h
end
structure Room(k:Nat)(A:Around):Prop where
 hd:A.handled=none
 dp:A.depth+3*k+5<recursionLimit
 un:A.units+16*k+200<cLine
 gd:A.guards=some []
theorem Room.mono(r:Room k A)(h:j<=k):Room j A:=⟨r.hd,by have:=r.dp;nofun,by have:=r.un;nofun,r.gd⟩
theorem Room.deeper(r:Room (k+1) A)(env:Env):Room k (A.deeper env):=
 ⟨r.hd,by have:=r.dp;show A.depth+1+3*k+5<_;nofun,by have:=r.un;show A.units+3+16*k+200<_;nofun,r.gd⟩
theorem pc :(A.under (.builtin "type.__call__" ⟨.ref C::us,kw⟩)).depth=A.depth+1:=by
 first|rfl|simp[Around.under,Code.weight,Code.isCreation,Code.isGuard,Code.isCaller,Code.frames,Code.isFrame,guardIds]
theorem pd :(A.under (.builtin "type.__call__" ⟨.ref C::us,kw⟩)).units=A.units+1:=by
 first|rfl|simp[Around.under,Code.cUnits,Code.frames,Code.isFrame]
theorem Room.make(r:Room (k+1) A)(C:Addr)(us:List Value)(kw:List (Str×Value)):Room k (A.under (.builtin "type.__call__" ⟨.ref C::us,kw⟩)):=
 ⟨r.hd,by have:=r.dp;rw[pc];nofun,by have:=r.un;rw[pd];nofun,r.gd⟩
theorem Room.depth(r:Room k A):A.depth<recursionLimit:=by have:=r.dp;nofun
theorem Room.units(r:Room k A):A.units+64<cLine:=by have:=r.un;nofun
def iN:TA:=λ _ H Q=>Q [] H
def cZ(ta:TE)(tr:TA):TA:=λ σ H Q=>ta σ H λ x H1=>tr σ H1 λ xs H2=>Q (x::xs) H2
theorem GV:PA X [] iN:=λ _ _ _ _ H Q I h=>Calls.spliced_nil ⟨[],H,I,.nil,h⟩
theorem BR(ha:PE X e te)(hr:PA X es t)(hs:autoParam (starEach (e::es) X.env=(false,eval e X.env)::starEach es X.env) L2.aR._auto_1):PA X (e::es) (cZ te t):=by
 intro pos pins s σ H Q I h;rw[hs];show wpAny _ _ (spliced ((false,eval e X.env)::backTo pos (starEach es X.env))) _ _ s;refine abw (thn (ha pins s σ H _ I h) λ u s1 ⟨x,H1,I1,r1,q1⟩=>?_);exact thn (hr pos pins s1 σ H1 _ I1 q1) λ us s2 ⟨xs,H2,I2,r2,q2⟩=>⟨x::xs,H2,I2,.cons r1 r2,q2⟩
def Lg(t:TA):TE:=λ σ H Q=>t σ H λ xs H1=>xs.length<=sizeLine/\∀ p,H1 p=none->Q (.ref p) (upd H1 p (.tup xs))
def Li(t:TA):TE:=λ σ H Q=>t σ H λ xs H1=>xs.length<=sizeLine/\∀ p,H1 p=none->Q (.ref p) (upd H1 p (.lst xs))
theorem GW{x1}(h:PA X es t):PE X (.Tuple es x1 pos) (Lg t):=by
 intro pins s σ H Q I hq;refine wpAny_Tuple_spliced (thn (h pos pins s σ H _ I hq) λ us s1 ⟨xs,H1,I1,r,z,q⟩=>⟨by rw[← r.length];exact z,?_⟩);have hf:H1 s1.heap.objs.size=none:=I1.hok.fresh (aac _);refine⟨.ref s1.heap.objs.size,upd H1 s1.heap.objs.size (.tup xs),I1.laid (t':=s1.toks) (λ b u e=>Heap.get?_push_of_some _ e) (aac _) ?_,rfl,q _ hf⟩;exact⟨z,us,r,⟨_,Heap.get?_push_size _ rfl,rfl,_,rfl⟩⟩
theorem GX(h:PA X es t):PE X (.List es pos) (Li t):=by
 intro pins s σ H Q I hq;refine wpAny_List_spliced (thn (h pos pins s σ H _ I hq) λ us s1 ⟨xs,H1,I1,r,z,q⟩=>⟨by rw[← r.length];exact z,?_⟩);have hf:H1 s1.heap.objs.size=none:=I1.hok.fresh (aac _);refine⟨.ref s1.heap.objs.size,upd H1 s1.heap.objs.size (.lst xs),I1.laid (t':=s1.toks) (λ b u e=>Heap.get?_push_of_some _ e) (aac _) ?_,rfl,q _ hf⟩;exact⟨z,us,0,r,Heap.get?_push_size _ rfl⟩
abbrev Sp:=List V->Hp->VK->XK->Prop
variable{sp:Sp}
abbrev CXT:=List Env->Hp->Shared->XK->Value->Shared->Prop
variable{CX:CXT}
structure Env0(P:Program)(w:World)(K:Frag)(mg:Str->Option Value)(base:Heap)(A:Around)(outer:List Env)(s:Shared)(H:Hp):Prop where
 frames:A.frames=some outer
 mod:Mod K mg base
 bs:∀ b o,base.get? b=some o->s.heap.get? b=some o/\H b=none
 bsz:base.objs.size<=s.heap.objs.size
 funs:s.heap.FunFrames base outer
 frf:∀ b∈frs outer,H b=none
 hok:HOk P w H s.heap
 bare:AllBare s.gens
def CE(outer:List Env)(P:Program)(w:World)(H:Hp)(s:Shared)(Q:VK)(u:Value)(s':Shared):Prop:=
 ∃ v H',s'.os=s.os/\AllBare s'.gens/\Un (frs outer) [] H H' s.heap s'.heap/\HOk P w H' s'.heap/\RelV v u/\Q v H'
def CR(CX:CXT)(outer:List Env)(P:Program)(w:World)(H:Hp)(s:Shared)(Q:VK)(E:XK)(r:Result)(s':Shared):Prop:=
 match r with
 |.ok (.ret u)=>CE outer P w H s Q u s'
 |.ok _=>False
 |.error e=>CX outer H s E e s'
structure FnOk(P:Program)(w:World)(K:Frag)(mg:Str->Option Value)(base:Heap)(CX:CXT)(k:Nat)(f:Addr)(fd:FuncData)(ps:List Str)(sp:Sp):Prop where
 len:∀ vs H Q E,sp vs H Q E->vs.length=ps.length
 run:∀ (A:Around) (outer:List Env) (s:Shared) (H:Hp) (args:Args) (us:List Value) (vs:List V) (Q:VK) (E:XK),Room k A->Env0 P w K mg base A outer s H->BindsTo s fd args (ps.zip us)->Vals vs us->sp vs H Q E ->
  codeAny (model P w) A (.call (.ref f) args) (CR CX outer P w H s Q E) s
theorem FnOk.imp{K:Frag}{f:Addr}{sp':Sp}(F:FnOk P w K mg base CX k f fd ps sp)
  (h:∀ vs H Q E,sp' vs H Q E->sp vs H Q E):FnOk P w K mg base CX k f fd ps sp':=
 ⟨λ vs H Q E q=>F.len vs H Q E (h _ _ _ _ q),λ A outer s H args us vs Q E hr he hb hv hs=>F.run A outer s H args us vs Q E hr he hb hv (h _ _ _ _ hs)⟩
theorem Env0.make{K:Frag}(e:Env0 P w K mg base A outer s H)(C:Addr)(us:List Value)(kw:List (Str×Value)) :
  Env0 P w K mg base (A.under (.builtin "type.__call__" ⟨.ref C::us,kw⟩)) outer s H:=⟨by first|exact e.frames|(simpa [Around.under,Code.envs,Code.isFrame,pushEnvs] using e.frames),e.mod,e.bs,e.bsz,e.funs,e.frf,e.hok,e.bare⟩
theorem Inv.env0(I:Inv X pins σ H s):Env0 X.prog X.w X.K X.mg X.base X.A X.stack s H:=
 ⟨I.ok.frames,I.ok.mod,I.bs,aau I.ok.bsz I.sz,I.stack,I.stkFree,I.hok,I.bare⟩
theorem Inv.after{Q:VK}(I:Inv X pins σ H s)(h:CE X.stack X.prog X.w H s Q u s'):EP X pins σ Q u s':=by
 obtain⟨v,H',os,bare,un,hok,r,q⟩:=h;obtain⟨hh,g,d,t,os'⟩:=s';obtain rfl:os'=s.os:=os;exact⟨v,H',I.call (h':=hh) (g':=g) (d':=d) (t':=t) (ch:=[]) un hok bare (λ b z=>absurd z (by simp)),r,q⟩
def ph(sp:Sp)(dvs:List V)(E:XK)(t:TA):TE:=λ σ H Q=>t σ H λ vs H1=>sp (vs++dvs) H1 Q E
def pi(C:Addr)(m:Str)(sp:Sp)(dvs:List V)(E:XK)(ta:TE)(t:TA):TE:=λ σ H Q=>ta σ H λ x H1=>∃ a dx fs,x=.ref a/\H1 a=some (.ins C dx fs)/\fs.lookup m=none /\
 t σ H1 λ vs H2=>sp (x::(vs++dvs)) H2 Q E
def BU(C:Addr)(sp:Sp)(dvs:List V)(E:XK)(t:TA):TE:=λ σ H Q=>t σ H λ vs H1=>∀ x dx,H1 x=none->H1 dx=none->dx≠x ->
 sp (.ref x::(vs++dvs)) (upd (upd H1 dx (.own x)) x (.ins C dx [])) (λ v H2=>v=.non/\Q (.ref x) H2) E
def Binds(K:Frag)(fd:FuncData)(ps:List Str)(ds:List Value):Prop:=
 ∀ (s:Shared) (us:List Value),K.In s.heap->(us++ds).length=ps.length->BindsTo s fd ⟨us,[]⟩ (ps.zip (us++ds))
theorem Binds.all{K:Frag}(h:∀ us:List Value,us.length=ps.length->bindArgs fd ⟨us,[]⟩=pure (ps.zip us)):Binds K fd ps []:=λ s us _ hl=>by
 rw[aay] at hl ⊢;exact .of_eq (h us hl)
def gN(CX:CXT)(X:Cx)(E:XK):Prop:=∀ (pins:List (Addr×Obj)) (σ:St) (H:Hp) (s:Shared) (e:Value) (s':Shared),Inv X pins σ H s->CX X.stack H s E e s'->X.xe e s'
section
variable    {f:Addr}    {dvs:List V} {ds:List Value} {E:XK}   {o:Expr}   
theorem qS{Q:VK}(F:FnOk X.prog X.w X.K X.mg X.base CX k f fd ps sp)(hr:Room k X.A)(hb:Binds X.K fd ps ds)(hd:Vals dvs ds)(hx:gN CX X E)
  (I:Inv X pins σ H s) (r:Vals vs us) (h:sp (vs++dvs) H Q E):wpAny (model X.prog X.w) X.A (call (.ref f) us) (EP X pins σ Q) X.xe s:=by
 have r2:Vals (vs++dvs) (us++ds):=r.append hd;have hl:(us++ds).length=ps.length:=by rw[← r2.length];exact F.len _ _ _ _ h
 refine wpAny_call (codeAny_mono (F.run X.A X.stack s H ⟨us,[]⟩ (us++ds) (vs++dvs) Q E hr I.env0 (hb s us I.kIn hl) r2 h) λ r s' hq=>?_)
 cases r with
 |error e=>exact hx pins σ H s e s' I hq
 | ok fl=>
  cases fl with
  |ret u=>exact I.after hq
  |next=>exact False.elim hq
  |brk=>exact False.elim hq
  |cont=>exact False.elim hq
theorem BV(F:FnOk X.prog X.w X.K X.mg X.base CX k f fd ps sp)(hr:Room k X.A)(hg:Gl X x)(hm:X.mg x=some (.ref f))(hk:PySem.W.keepIn X.K (.ref f)=true)(hb:Binds X.K fd ps ds)(hd:Vals dvs ds)(hx:gN CX X E)
  (ha:PA X (e::es) t) (hdb:autoParam ((x==("__debug__" : Str))=false) L2.aD._auto_1) (he:autoParam (starEach (e::es) X.env=(false,eval e X.env)::starEach es X.env) L2.aR._auto_1) (hpl:autoParam ((backTo pos (starEach es X.env)).any (·.1)=false) L2.aR._auto_1) :
  PE X (.Call (.Name x p) (e::es) [] pos) (ph sp dvs E t):=by
 intro pins s σ H Q I h;refine wpAny_Call_Name_kw (l5 I hg hm ?_ hdb);refine PySem.W.callWith_K (h₀:=X.base) I.ok.mod.kin hk (thn (ha pos pins s σ H _ I h) λ us s1 ⟨vs,H1,I1,r,q⟩=>⟨I1.kIn,?_⟩) he hpl;exact qS F hr hb hd hx I1 r q
theorem BX(he:PE X o ta)(c:Cls X.K C)(hm:Meth X.K C m f)(F:FnOk X.prog X.w X.K X.mg X.base CX k f fd ps sp)(hr:Room k X.A)(hb:Binds X.K fd ps ds)(hd:Vals dvs ds)(hx:gN CX X E)(ha:PA X (e::es) t)
  (hst:autoParam (starEach (e::es) X.env=(false,eval e X.env)::starEach es X.env) L2.aR._auto_1) (hpl:autoParam ((backTo pos (starEach es X.env)).any (·.1)=false) L2.aR._auto_1)
  (ht:autoParam (eval (.Call (.Attribute o m apos) (e::es) [] pos) X.env=(do
   let ov ← eval o X.env
   standAt apos.atName
   let (f,first) ← holding [ov] (getMethod ov m pl)
   callWith pos f first (backTo pos (starEach (e::es) X.env)) (backToKw pos (keywordEach [] X.env)))) L2.aR._auto_1) :
  PE X (.Call (.Attribute o m apos) (e::es) [] pos) (pi C m sp dvs E ta t):=by
 intro pins s σ H Q I h;refine PySem.W.methodCall_KW (pl:=pl) (thn (he pins s σ H _ I h) λ u s1 ⟨x,H1,I1,rx,a,dx,fs,ex,ea,l,q⟩=>?_) ht;subst ex;obtain rfl:u=Value.ref a:=rx;refine fN I1 ea c hm l ?_;refine PySem.W.callWith_K (first:=[.ref a]) (h₀:=X.base) I.ok.mod.kin hm.kp (thn (ha pos pins s1 σ H1 _ I1 q) λ us s2 ⟨vs,H2,I2,r,q2⟩=>⟨I2.kIn,?_⟩) hst hpl;exact qS (us:=.ref a::us) (vs:=.ref a::vs) F hr hb hd hx I2 (.cons rfl r) q2
theorem v5(he:PE X o ta)(c:Cls X.K C)(hm:Meth X.K C m f)(F:FnOk X.prog X.w X.K X.mg X.base CX k f fd ps sp)(hr:Room k X.A)(hb:Binds X.K fd ps ds)(hd:Vals dvs ds)(hx:gN CX X E)
  (ht:autoParam (eval (.Call (.Attribute o m apos) [] [] pos) X.env=(do
   let ov ← eval o X.env
   standAt apos.atName
   let (f,first) ← holding [ov] (getMethod ov m pl)
   callWith pos f first (backTo pos (starEach [] X.env)) (backToKw pos (keywordEach [] X.env)))) L2.aR._auto_1) :
  PE X (.Call (.Attribute o m apos) [] [] pos) (pi C m sp dvs E ta iN):=by
 intro pins s σ H Q I h;refine PySem.W.methodCall_KW (pl:=pl) (thn (he pins s σ H _ I h) λ u s1 ⟨x,H1,I1,rx,a,dx,fs,ex,ea,l,q⟩=>?_) ht;subst ex;obtain rfl:u=Value.ref a:=rx;refine fN I1 ea c hm l ?_;exact PySem.W.callWith_K0 (first:=[.ref a]) I1.kIn hm.kp (qS (us:=[.ref a]) (vs:=[.ref a]) F hr hb hd hx I1 (.cons rfl .nil) q)
structure Mk(K:Frag)(C f:Addr):Prop where
 makes:PySem.W.makesIn K C=true
 init:PySem.W.findIn K (.ref C) "__init__" = some (some (.ref f))
 fn:PySem.W.isFn K (.ref f)=true
 kp:PySem.W.keepIn K (.ref C)=true
theorem v6{Q:VK}(M:Mk X.K C f)(F:FnOk X.prog X.w X.K X.mg X.base CX k f fd ps sp)(hr:Room (k+1) X.A)(hb:Binds X.K fd ps ds)(hd:Vals dvs ds)
  (hx:gN CX X E) (I:Inv X pins σ H s) (r:Vals vs us)
  (h:∀ x dx,H x=none->H dx=none->dx≠x->sp (.ref x::(vs++dvs)) (upd (upd H dx (.own x)) x (.ins C dx [])) (λ v H2=>v=.non/\Q (.ref x) H2) E) :
  wpAny (model X.prog X.w) X.A (call (.ref C) us) (EP X pins σ Q) X.xe s:=by
 have hq:=h (s.heap.objs.size+1) s.heap.objs.size (I.hok.fresh (aaX _)) (I.hok.fresh (aac _)) (aak (aaE _));have I2:=Inv.made (C:=C) I;have r2:Vals (V.ref (s.heap.objs.size+1)::(vs++dvs)) (Value.ref (s.heap.objs.size+1)::(us++ds)):=.cons rfl (r.append hd)
 have hl:(Value.ref (s.heap.objs.size+1)::us++ds).length=ps.length:=by
  have e:=r2.length;rw[F.len _ _ _ _ hq] at e;exact e.symm
 refine wpAny_call (vY (f:=f) I.kIn M.makes M.init (beq_iff_eq.mp M.fn) (codeAny_mono (F.run _ X.stack _ _ ⟨Value.ref (s.heap.objs.size+1)::us,[]⟩ (Value.ref (s.heap.objs.size+1)::(us++ds)) _ _ E (hr.make C us [])
  (I2.env0.make C us []) (hb _ (Value.ref (s.heap.objs.size+1)::us) I2.kIn hl) r2 hq) λ r s' hq'=>?_))
 cases r with
 |error e=>exact hx pins σ _ _ e s' I2 hq'
 | ok fl=>
  cases fl with
  | ret u=>
   obtain⟨v,H',I3,rv,ev,q3⟩:=I2.after hq';subst ev;exact⟨rv,⟨V.ref (s.heap.objs.size+1),H',I3,rfl,q3⟩⟩
  |next=>exact False.elim hq'
  |brk=>exact False.elim hq'
  |cont=>exact False.elim hq'
theorem BY(M:Mk X.K C f)(F:FnOk X.prog X.w X.K X.mg X.base CX k f fd ps sp)(hr:Room (k+1) X.A)(hg:Gl X x)(hm:X.mg x=some (.ref C))(hb:Binds X.K fd ps ds)(hd:Vals dvs ds)(hx:gN CX X E)
  (ha:PA X (e::es) t) (hdb:autoParam ((x==("__debug__" : Str))=false) L2.aD._auto_1) (he:autoParam (starEach (e::es) X.env=(false,eval e X.env)::starEach es X.env) L2.aR._auto_1) (hpl:autoParam ((backTo pos (starEach es X.env)).any (·.1)=false) L2.aR._auto_1) :
  PE X (.Call (.Name x p) (e::es) [] pos) (BU C sp dvs E t):=by
 intro pins s σ H Q I h;refine wpAny_Call_Name_kw (l5 I hg hm ?_ hdb);refine PySem.W.callWith_K (h₀:=X.base) I.ok.mod.kin M.kp (thn (ha pos pins s σ H _ I h) λ us s1 ⟨vs,H1,I1,r,q⟩=>⟨I1.kIn,?_⟩) he hpl;exact v6 M F hr hb hd hx I1 r q
end
section
variable    {f:Addr}  {ks:List Str}  {E:XK}  {kpos:Pos} {o:Expr}  {kws:List Keyword}  {tk:TA} {nm:Option Str}
variable {g:List Value->List Value->List Value} {gV:List V->List V->List V}
end
structure FnScope(N P:List Str)(sc:Scope):Prop where
 kind:sc.kind=.function
 co:sc.isCoroutine=false
 gen:sc.isGenerator=false
 nd:N.Nodup
 pre:N.take P.length=P
 par:∀ x∈P,sc.names.lookup x=some .local∨sc.names.lookup x=some .cell
 nofree:∀ y∈sc.names,y.2≠.free
theorem kq{kindOf:Str->Option NameKind}{x:Str}:∀ {binds:List (Str×Value)} {m:Str->Option Value},(∀ v,(x,v)∉binds)->bindL kindOf binds m x=m x
 |[],_,_=>rfl
 | (n,v)::r,m,h=>by
  unfold bindL;rw[kq λ w hw=>h w (aad _ hw)];split
  ·have:x≠n:=by rintro rfl;exact h v aab
   simp[this]
  ·rfl
theorem kr{kindOf:Str->Option NameKind}{x:Str}:∀ {binds:List (Str×Value)} {m:Str->Option Value},(∀ v,(x,v)∉binds)->bindC kindOf binds m x=m x
 |[],_,_=>rfl
 | (n,v)::r,m,h=>by
  unfold bindC;rw[kr λ w hw=>h w (aad _ hw)];split
  ·rfl
  ·have:x≠n:=by rintro rfl;exact h v aab
   simp[this]
theorem ku{kindOf:Str->Option NameKind}{x:Str}{v:Value}:∀ {P:List Str} {vs:List Value} {i:Nat} {m:Str->Option Value},P.Nodup->P[i]?=some x->vs[i]?=some v->kindOf x=some .local ->
  bindL kindOf (P.zip vs) m x=some v
 |[],_,_,_,_,h,_,_=>by simp at h
 |_::_,[],_,_,_,_,h,_=>by simp at h
 | p::P,w::vs,0,m,nd,h1,h2,hk=>by
  simp at h1 h2;subst h1;subst h2;show bindL kindOf ((p,w)::P.zip vs) m p=_;unfold bindL;rw[kq λ v hv=>(List.nodup_cons.mp nd).1 (List.of_mem_zip hv).1,if_pos hk];simp
 | p::P,w::vs,i+1,m,nd,h1,h2,hk=>by
  show bindL kindOf ((p,w)::P.zip vs) m x=_;unfold bindL;exact ku (i:=i) (abS.mp nd).2 (by exists h1) (by exists h2) hk
theorem kx{kindOf:Str->Option NameKind}{x:Str}{v:Value}:∀ {P:List Str} {vs:List Value} {i:Nat} {m:Str->Option Value},P.Nodup->P[i]?=some x->vs[i]?=some v->kindOf x≠some .local ->
  bindC kindOf (P.zip vs) m x=some v
 |[],_,_,_,_,h,_,_=>by simp at h
 |_::_,[],_,_,_,_,h,_=>by simp at h
 | p::P,w::vs,0,m,nd,h1,h2,hk=>by
  simp at h1 h2;subst h1;subst h2;show bindC kindOf ((p,w)::P.zip vs) m p=_;unfold bindC;rw[kr λ v hv=>(List.nodup_cons.mp nd).1 (List.of_mem_zip hv).1,if_neg hk];simp
 | p::P,w::vs,i+1,m,nd,h1,h2,hk=>by
  show bindC kindOf ((p,w)::P.zip vs) m x=_;unfold bindC;exact kx (i:=i) (abS.mp nd).2 (by exists h1) (by exists h2) hk
def start(N:List Str)(vs:List V):St:=vs.map some++List.replicate (N.length - vs.length) none
def qT(CX:CXT)(P:Program)(w:World)(K:Frag)(mg:Str->Option Value)(base:Heap)(N:List Str)(qual:Str)(scope:Scope)(f:Addr)(cd:Value)(A:Around)(outer:List Env)(s:Shared)(H:Hp)(E:XK):Cx where
 prog:=P
 w:=w
 K:=K
 mg:=mg
 base:=base
 A:=A.deeper (envOfC qual scope s.heap.objs.size f cd)
 N:=N
 s₀:=s
 H₀:=H
 env:=envOfC qual scope s.heap.objs.size f cd
 outer:=outer
 stack:=envOfC qual scope s.heap.objs.size f cd::outer
 ex:=[]
 calm:=true
 fn:=λ _=>true
 pn:=[]
 xe:=λ e s'=>wpAny (model P w) (A.deeper (envOfC qual scope s.heap.objs.size f cd)) (leaving (envOfC qual scope s.heap.objs.size f cd) e) (λ _ s''=>CX outer H s E e s'') (λ e' s''=>CX outer H s E e' s'') s'
theorem mY{sc:Scope}(h:sc.names.lookup x=some .cell):∃ c,(cellsFrom n sc.names []).lookup x=some c:=by
 have q:=PySem.W.cellsFrom_some sc.names n [] (.inl h);exact abZ.mp q
theorem qU{K:Frag}{f:Addr}{cd:Value}{s1:Shared}{E:XK}
  (S:FnScope N ps scope) (hd:A.handled=none) (e0:Env0 P w K mg base A outer s H) (hl:vs.length=ps.length) (r:Vals vs us)
  (x:InCallC s s.heap.objs.size (bindL (envOfC qual scope s.heap.objs.size f cd).kindOf (ps.zip us) λ _=>none) (cellsFrom (s.heap.objs.size+1) scope.names []) (bindC (envOfC qual scope s.heap.objs.size f cd).kindOf (ps.zip us) λ _=>none) s1) :
  Inv (qT CX P w K mg base N qual scope f cd A outer s H E) [] (start N vs) H s1:=by
 have hpl:ps.length<=N.length:=by have:=congrArg List.length S.pre;rw[aao] at this;nofun
 obtain⟨h1,tk,rfl,hk⟩:=x.done;have noA:∀ b:Addr,b∉(qT CX P w K mg base N qual scope f cd A outer s H E).ex:=λ b z=>absurd (show b∈([]:List Addr) from z) (by simp)
 refine⟨⟨e0.mod,S.kind,rfl,rfl,aac _,λ y z c h1 h2=>?_,λ y hy=>?_,λ y c _ h=>?_,λ _=>hd,Around.frames_deeper e0.frames,.inr ⟨rfl,rfl⟩,λ b z=>absurd z (noA b),e0.bs,e0.bsz,λ b _ _=>noA b,λ b z=>absurd z (noA b),e0.funs,e0.frf⟩,
  rfl,e0.bare,Un.kept hk,⟨_,x.toInCall.ns,λ i y v h1 h2 h3=>?_⟩,λ y c h=>⟨_,x.cell y c h⟩,e0.hok.fresh (aac _),λ y c h=>?_,λ p hp=>absurd (show p∈([]:List (Addr×Obj)) from hp) (by simp),e0.hok.kept hk,?_⟩
 ·exact name_of_addr x.apart (aaP h1) (aaP h2)
 ·have hy:scope.names.lookup y=some .cell∨scope.names.lookup y=some .free:=hy;rcases hy with hy|hy
  ·exact mY hy
  ·exact absurd rfl (S.nofree _ (aaP hy))
 ·exact acb (x.above y c (aaP h))
 ·have hi:i<vs.length:=by
   unfold start at h2;by_cases hi:i<vs.length
   ·exact hi
   ·rw[List.getElem?_append_right (by exists hi)] at h2;rw[List.getElem?_replicate] at h2;split at h2 <;> cases h2
  have ha:vs[i]?=some v:=by
   unfold start at h2;rw[List.getElem?_append_left (by exists hi),List.getElem?_map] at h2
   cases e:vs[i]? with
   |none=>rw[e] at h2;cases h2
   |some a=>rw[e] at h2;cases h2;rfl
  obtain⟨u,hu,rv⟩:=r.get ha
  have hp:ps[i]?=some y:=by
   rw[← S.pre,List.getElem?_take_of_lt (by nofun)];exact h1
  have ndP:ps.Nodup:=by rw[← S.pre];exact S.nd.sublist (aaV _ _)
  refine⟨u,rv,?_⟩;rcases S.par y (List.mem_of_getElem? hp) with k|k
  ·exact .inl ⟨k,ku ndP hp hu k⟩
  ·obtain⟨c,e⟩:=mY (n:=s.heap.objs.size+1) k;refine .inr ⟨.inl k,c,e,?_⟩;have q:=x.cell y c e;rw[kx ndP hp hu (by show scope.names.lookup y≠_;rw[k];decide)] at q;exact q
 ·exact e0.hok.fresh (acb (x.above y c (aaP h)))
 ·unfold start;show _=N.length;rw[aag,abK,aaF];nofun
theorem LW{K:Frag}{f:Addr}{params:Arguments}{dV kV doc pm cdv ct oc:Value}{an od:Option Addr}
  {osl:Array (Option Value)}   (lk:K.lookup f=some ⟨oc,od,.func (PySem.W.fnOf name qual params body scope dV kV doc pm an cdv ct),osl⟩) (hcd:PySem.W.codeIn K cdv qual=true) (S:FnScope N ps scope)
  (len:∀ vs H Q E,sp vs H Q E->vs.length=ps.length)
  (hbody:∀ (A:Around) (outer:List Env) (s:Shared) (H:Hp) (vs:List V) (Q:VK) (E:XK),Room k (A.deeper (envOfC qual scope s.heap.objs.size f cdv))->sp vs H Q E ->
   ∃ t,PSs (qT CX P w K mg base N qual scope f cdv A outer s H E) body t/\t { nx:=λ _ H'=>Q .non H',rt:=Q } (start N vs) H) :
  FnOk P w K mg base CX (k+1) f (PySem.W.fnOf name qual params body scope dV kV doc pm an cdv ct) ps sp:=by
 refine⟨len,λ A outer s H args us vs Q E hr e0 hb r hsp=>?_⟩;have hl:=len _ _ _ _ hsp;have KX:K.In s.heap:=e0.mod.kin.keeps λ b o e=>(e0.bs b o e).1;have lim:s.heap.NoLimit:=e0.mod.nolimit.keeps λ b o e=>(e0.bs b o e).1
 have hkind:∀ y∈ps.zip us,scope.names.lookup y.1=some .local∨(scope.names.lookup y.1=some .cell/\((cellsFrom (s.heap.objs.size+1) scope.names []).lookup y.1).isSome=true):=fun⟨n,v⟩ hy=>by
  rcases S.par n (List.of_mem_zip hy).1 with q|q
  ·exact .inl q
  ·exact .inr ⟨q,PySem.W.cellsFrom_some _ _ _ (.inl q)⟩
 refine codeAny_call_function hr.depth (KX _ _ lk) rfl S.co S.gen rfl (PySem.W.codeRec_of KX hcd) (hb _ _ _ _ ?_);refine wpAny_newFunctionEnv_cells S.kind hkind λ env he s1 x=>?_;subst he;refine⟨lim.keeps x.toInCall.keep,codeAny_func ?_⟩;obtain⟨t,ht,hq⟩:=hbody A outer s H vs Q E (hr.deeper _) hsp;have I:Inv (qT CX P w K mg base N qual scope f cdv A outer s H E) [] (start N vs) H s1:=qU S hr.hd e0 hl r x;refine abu (ht [] s1 (start N vs) H _ I hq) (λ fl s' hs=>?_) λ e s' hs=>hs
 have fin:∀ {σ':St} {H':Hp} {v:V} {u:Value},Inv (qT CX P w K mg base N qual scope f cdv A outer s H E) [] σ' H' s'->RelV v u->Q v H'->CE outer P w H s Q u s':=
  fun {σ' H' v u} J rv q=>⟨v,H',J.os,J.bare,J.base,J.hok,rv,q⟩
 cases fl with
 | ret u=>
  obtain⟨v,σ',H',J,rv,q⟩:=hs;exact fin J rv q
 | next=>
  obtain⟨σ',H',J,q⟩:=hs;exact fin (v:=V.non) (u:=Value.none) J rfl q
 | brk=>
  obtain⟨_,_,_,q⟩:=hs;exact False.elim q
 | cont=>
  obtain⟨_,_,_,q⟩:=hs;exact False.elim q
section
variable       {id T:String} {r:List V->Hp->VK->Prop}
def tCB(r:List V->Hp->VK->Prop)(t:TA):TE:=λ σ H Q=>t σ H λ vs H1=>r vs H1 Q
theorem v7(hc:CallR X (.builtin id) r)(hg:Gl X x)(hm:X.mg x=none)(hv:bootBuiltins x=some (.builtin id))(ha:PA X (e::es) t)(hn:autoParam (x ≠ "__name__") L2.aD._auto_1)(hdb:autoParam ((x==("__debug__" : Str))=false) L2.aD._auto_1)
  (he:autoParam (starEach (e::es) X.env=(false,eval e X.env)::starEach es X.env) L2.aR._auto_1) (hpl:autoParam ((backTo pos (starEach es X.env)).any (·.1)=false) L2.aR._auto_1):PE X (.Call (.Name x p) (e::es) [] pos) (tCB r t):=by
 intro pins s σ H Q I h;refine wpAny_Call_Name_kw (kn I hg hm hv ?_ hn hdb);exact PyProof.Rows.callWith_builtin1 (thn (ha pos pins s σ H _ I h) λ us s1 ⟨vs,H1,I1,r1,q1⟩=>hc pins s1 σ H1 vs us Q I1 r1 q1) he hpl
theorem qV(hc:CallR X (.type T) r)(hg:Gl X x)(hm:X.mg x=none)(hv:bootBuiltins x=some (.type T))(ha:PA X (e::es) t)(hn:autoParam (x ≠ "__name__") L2.aD._auto_1)(hdb:autoParam ((x==("__debug__" : Str))=false) L2.aD._auto_1)
  (he:autoParam (starEach (e::es) X.env=(false,eval e X.env)::starEach es X.env) L2.aR._auto_1) (hpl:autoParam ((backTo pos (starEach es X.env)).any (·.1)=false) L2.aR._auto_1):PE X (.Call (.Name x p) (e::es) [] pos) (tCB r t):=by
 intro pins s σ H Q I h;refine wpAny_Call_Name_kw (kn I hg hm hv ?_ hn hdb);exact abJ (thn (ha pos pins s σ H _ I h) λ us s1 ⟨vs,H1,I1,r1,q1⟩=>hc pins s1 σ H1 vs us Q I1 r1 q1) he hpl
end
end L2
namespace HT
open PySem PyProof.Rows
variable{t sl:Addr}{Q:Value->Shared->Prop}{vl vu:Value}{lo hi:Option Int}
section
open PySem.SeqAt
open PySem.AutoSeq1 (wpAny_loadPart')
open PySem.MeetsSeq PySem.MeetsSeq2 PySem.MeetsSeq3
end
section
variable {prog:Program} {w:World} {A:Around} {E:Value->Shared->Prop} {s:Shared}
theorem cat_tup{b:Addr}{vs ws:List Value}(ht:IsTup s.heap t vs.toArray)(hb:IsTup s.heap b ws.toArray)(hv:vs≠[])
  (h1:ws=[]->Q (.ref t) s) (h2:ws≠[]->Q (.ref s.heap.objs.size) { s with heap:=s.heap.push { cls:=.type "tuple", data:=.seq (vs++ws).toArray } })
  (hsz:vs.length+ws.length<=sizeLine):wpAny (model prog w) A (binaryOp .Add (.ref t) (.ref b)) Q E s:=by
 obtain⟨⟨cls,dd,data,sl⟩,ho,hc,n,hd⟩:=id ht;obtain⟨⟨cls2,dd2,data2,sl2⟩,ho2,hc2,n2,hd2⟩:=id hb;simp only at hc hd hc2 hd2;subst hc hd hc2 hd2;have e:vs.toArray++ws.toArray=(vs++ws).toArray:=by simp
 by_cases hw:ws=[]
 ·exact concat_meets ⟨_,ho,rfl⟩ ⟨_,ho2,rfl⟩ noFill_tuple_add seq_tuple_add PySem.F.slot_tuple_add PySem.F.entry_tuple_add (PySem.F.args_tuple_add_2 _ _)
   (tuple_addW1 t b vs.toArray ws.toArray n n2 dd dd2 sl sl2 (by exists hv) (by simp[hw])) ⟨ho,ho2,h1 hw⟩
 ·refine concat_meets ⟨_,ho,rfl⟩ ⟨_,ho2,rfl⟩ noFill_tuple_add seq_tuple_add PySem.F.slot_tuple_add PySem.F.entry_tuple_add (PySem.F.args_tuple_add_2 _ _)
   (tuple_addW2 t b vs.toArray ws.toArray n n2 dd dd2 sl sl2 (by exists hv) (by exists hw) (by rw[abT,abT];exact hsz)) ⟨ho,ho2,?_⟩
  rw[e];exact h2 hw
def sIx(n d:Nat):Option Int->Nat
 |none=>d
 |some v=>if v<0 then (v+(n:Int)).toNat else min v.toNat n
theorem sIx_none(n d:Nat):sIx n d none=d:=rfl
theorem sIx_nat(n d k:Nat):sIx n d (some (k:Int))=min k n:=by
 show (if (k:Int)<0 then ((k:Int)+(n:Int)).toNat else min (k:Int).toNat n)=min k n;rw[if_neg (by nofun),Int.toNat_natCast]
theorem sIx_le(n d:Nat)(hd:d<=n)(o:Option Int):sIx n d o<=n:=by
 cases o with
 |none=>exact hd
 | some v=>
  show (if v<0 then (v+(n:Int)).toNat else min v.toNat n)<=n;by_cases hv:v<0
  ·rw[if_pos hv];nofun
  ·rw[if_neg hv];exact Nat.min_le_right _ _
theorem clip_eq(v:Int)(n d:Nat):(if v<0 then max (v+(n:Int)) 0 else min v (n:Int))=((sIx n d (some v):Nat):Int):=by
 show (if v<0 then max (v+(n:Int)) 0 else min v (n:Int))=(((if v<0 then (v+(n:Int)).toNat else min v.toNat n):Nat):Int);by_cases hv:v<0
 ·simp only[if_pos hv];nofun
 ·simp only[if_neg hv];nofun
theorem pj(lo hi:Option Int)(n:Nat):Builtin.Slice.sliceAdjust lo hi 1 (n:Int)=(((sIx n 0 lo:Nat):Int),((sIx n n hi:Nat):Int)):=by
 have h1:¬ ((1:Int)<0):=by nofun
 unfold Builtin.Slice.sliceAdjust;simp only[h1,if_false];refine Prod.ext ?_ ?_
 ·cases lo with
  |none=>rfl
  |some v=>exact clip_eq v n 0
 ·cases hi with
  |none=>rfl
  |some v=>exact clip_eq v n n
theorem pp(i j:Nat):Builtin.Slice.slicePlaces (i:Int) (j:Int) 1=j - i:=by
 unfold Builtin.Slice.slicePlaces;have h1:(1:Int) > 0:=by nofun
 simp only[h1,if_true,Int.ediv_one];split <;> nofun
theorem i3{v:Value}{o:Option Int}{Q:Option Int->Shared->Prop}(p:IsPart v o)(h:Q o s):wpAny (model prog w) A (Builtin.Slice.slicePartIndex v) Q E s:=by
 cases p with
 |none=>exact slicePart_none h
 |int i t=>exact slicePart_int h
theorem du{n:Nat}{Q:Int×Int×Nat->Shared->Prop}(hs:s.heap.IsSliceOf sl vl vu .none)(pl:IsPart vl lo)(pu:IsPart vu hi)
  (h:Q (((sIx n 0 lo:Nat):Int),1,sIx n n hi - sIx n 0 lo) s):wpAny (model prog w) A (Builtin.Slice.sliceApplied (.ref sl) (pure (n:Int))) Q E s:=by
 obtain⟨os,hos,hcs,hds⟩:=id hs;unfold Builtin.Slice.sliceApplied Builtin.Slice.sliceFields;refine aaa (aaa (wpAny_field hos hds (x:=vl) rfl (aaa (wpAny_field hos hds (x:=vu) rfl (aaa (wpAny_field hos hds (x:=.none) rfl (aae ?_)))))));refine aaa (slicePart_none ?_);show wpAny _ _ (if ((1:Int)==0)=true then _ else _) _ _ s;rw[if_neg (by decide)];refine aaa (i3 pl (aaa (i3 pu (aaa (aae ?_)))));show wpAny _ _ (match Builtin.Slice.sliceAdjust lo hi 1 (n:Int) with|(lo,hi)=>pure (lo,(1:Int),Builtin.Slice.slicePlaces lo hi 1)) _ _ s;rw[pj lo hi n];show wpAny _ _ (pure (((sIx n 0 lo:Nat):Int),(1:Int),Builtin.Slice.slicePlaces ((sIx n 0 lo:Nat):Int) ((sIx n n hi:Nat):Int) 1)) _ _ s;rw[pp];exact aae h
theorem v8(xs:Array Value)(i k:Nat):((List.range k).filterMap λ (m:Nat)=>xs[((i:Int)+(m:Int)*1).toNat]?).toArray=((xs.toList.drop i).take k).toArray:=by
 have e:(λ (m:Nat)=>xs[((i:Int)+(m:Int)*1).toNat]?)=λ m=>xs[i+m]?:=by
  funext m
  have:((i:Int)+(m:Int)*1).toNat=i+m:=by nofun
  rw[this]
 rw[e];have:=pick_run xs i k;rw[List.filterMap_map] at this;have e2:((λ x=>xs[x]?) ∘ λ x=>i+x)=λ m=>xs[i+m]?:=rfl;rw[e2] at this;rw[this]
theorem getItem_tuple_cut{items:Array Value}(ht:IsTup s.heap t items)(hs:s.heap.IsSliceOf sl vl vu .none)(pl:IsPart vl lo)(pu:IsPart vu hi)
  (hw:¬ (sIx items.size 0 lo=0/\sIx items.size items.size hi=items.size))
  (h:Q (.ref s.heap.objs.size) { s with heap:=s.heap.push { cls:=.type "tuple", data:=.seq ((items.toList.drop (sIx items.size 0 lo)).take (sIx items.size items.size hi - sIx items.size 0 lo)).toArray } })
  (hsz:items.size<=sizeLine):wpAny (model prog w) A (getItem (.ref t) (.ref sl)) Q E s:=by
 have htake:sizeOk (.seq ((items.toList.drop (sIx items.size 0 lo)).take (sIx items.size items.size hi - sIx items.size 0 lo)).toArray):=by
  show ((items.toList.drop (sIx items.size 0 lo)).take (sIx items.size items.size hi - sIx items.size 0 lo)).toArray.size<=sizeLine;rw[abT,aao,abB,abU];omega
 have hj:sIx items.size items.size hi<=items.size:=sIx_le _ _ (aac _) hi;obtain⟨os,hos,hcs,hds⟩:=id hs;have hTs:s.TypeIs (.ref sl) "slice" := ⟨os,hos,hcs⟩;unfold getItem
 try with_reducible refine aaI ?_
 first|refine aaa (aae ?_)|skip
 refine aaa (wpAny_sequenceKey ht.typeIs (by decide) ?_)
 refine aaa (wpAny_callSpecial?_slot (name:=Str.ofString "__getitem__") ht.typeIs aa5
  (aaC aa5 ht.typeIs entry_tuple_getitem ?_ (args_tuple_getitem _ _)))
 show wpAny _ _ (Builtin.Tuple.tupleItemsOf (.ref t) >>= _) _ _ s;refine aaa (tupleItemsOf_ ht ?_);refine aaa (wpAny_typeOf hTs ?_);rw[if_pos (by decide)];refine aaa (du hs pl pu ?_)
 have hno:¬ ((((sIx items.size 0 lo:Nat):Int)==0&&(1:Int)==1&&(sIx items.size items.size hi - sIx items.size 0 lo)==items.size)=true):=by
  intro q;rw[abY,abY] at q;have q1:((sIx items.size 0 lo:Nat):Int)=0:=eq_of_beq q.1.1;have q2:sIx items.size items.size hi - sIx items.size 0 lo=items.size:=eq_of_beq q.2;exact hw ⟨by omega,by omega⟩
 show wpAny _ _ (if (((sIx items.size 0 lo:Nat):Int)==0&&(1:Int)==1&&(sIx items.size items.size hi - sIx items.size 0 lo)==items.size)=true then _ else _) _ _ s;rw[if_neg hno,v8]
 first
  |exact aaa (m:=Builtin.Tuple.tupleExact _) (aaL (aae ⟨_,rfl,aae h⟩) htake)
  |exact aaa (m:=Builtin.Tuple.tupleExact _) (aaL (aaa (aae (aae ⟨_,rfl,aae h⟩))) htake)
  |exact aaa (aaa (m:=Builtin.Tuple.tupleExact _) (aaL (aae (aae ⟨_,rfl,aae h⟩)) htake))
  |exact aaa (aaa (m:=Builtin.Tuple.tupleExact _) (aaL (aae ⟨_,rfl,aae h⟩) htake))
end
end HT
namespace L2
open PySem PySem.Spec PyProof.Rows
variable{X:Cx}{e:Expr}{pos apos cpos:Pos}{r:V->Option Int->Option Int->Hp->VK->Prop}{xs:List (List Key×Addr×Value)}{us its its':List Value}{n j t':Nat}{i:Int}{α:Type}{pins:List (Addr×Obj)}{σ:St}{H H':Hp}{s:Shared}{ys:List V}{A:Around}{y x d:V}{u v:Value}{T:String}{o:Option V}{b a:Addr}{w:World}{E Q:Value->Shared->Prop}{P:Program}{k:Key}{kvs:List (List Key×V)}{h':Heap}{td ty tv:TE}{trs:List (TE×TE)}
abbrev TO:=St->Hp->(Option Int->Hp->Prop)->Prop
def PO(X:Cx)(e:Option Expr)(t:TO):Prop:=
 ∀ (pins:List (Addr×Obj)) (s:Shared) (σ:St) (H:Hp) (Q:Option Int->Hp->Prop),Inv X pins σ H s->t σ H Q ->
  wpAny (model X.prog X.w) X.A (evalPart e X.env) (λ u s'=>∃ o H',Inv X pins σ H' s'/\IsPart u o/\Q o H') X.xe s
def l9:TO:=λ _ H Q=>Q none H
def BZ(t:TE):TO:=λ σ H Q=>t σ H λ x H1=>∃ i,x=.int i/\Q (some i) H1
section
variable   {te:TE} {lo hi:Option Expr} {tl th:TO} {p2:Pos}
theorem B6:PO X none l9:=by
 intro pins s σ H Q I h;rw[evalPart_none];exact aae ⟨none,H,I,.none,h⟩
theorem B7(h:PE X e te):PO X (some e) (BZ te):=by
 intro pins s σ H Q I hw;rw[evalPart_some];refine thn (h pins s σ H _ I hw) λ u s1 ⟨x,H1,I1,r1,q1⟩=>?_;obtain⟨i,rfl,q⟩:=q1;obtain⟨t,rfl⟩:=r1;exact⟨some i,H1,I1,.int i t,q⟩
def SlR(X:Cx)(r:V->Option Int->Option Int->Hp->VK->Prop):Prop:=
 ∀ (pins:List (Addr×Obj)) (s:Shared) (σ:St) (H:Hp) (x:V) (v vl vu:Value) (lo hi:Option Int) (sl:Addr) (Q:VK),Inv X pins σ H s->RelV x v->s.heap.IsSliceOf sl vl vu .none->IsPart vl lo->IsPart vu hi->r x lo hi H Q ->
  ∃ T id,typeLookup (.type T) "__getitem__" = pure (some (.builtin id))/\s.TypeIs v T/\wpAny (model X.prog X.w) X.A (getItem v (.ref sl)) (EP X pins σ Q) X.xe s
theorem SlR.or{r':V->Option Int->Option Int->Hp->VK->Prop}(h:SlR X r)(h':SlR X r'):SlR X (λ x lo hi H Q=>r x lo hi H Q∨r' x lo hi H Q):=by
 intro pins s σ H x v vl vu lo hi sl Q I rx hs pl pu q;rcases q with q|q
 ·exact h pins s σ H x v vl vu lo hi sl Q I rx hs pl pu q
 ·exact h' pins s σ H x v vl vu lo hi sl Q I rx hs pl pu q
def tSl(r:V->Option Int->Option Int->Hp->VK->Prop)(te:TE)(tl th:TO):TE:=λ σ H Q=>te σ H λ x H1=>tl σ H1 λ l H2=>th σ H2 λ u H3=>r x l u H3 Q
theorem mZ(hr:SlR X r)(he:PE X e te)(hl:PO X lo tl)(hu:PO X hi th):PE X (.Subscript e (.Slice lo hi none p2) pos) (tSl r te tl th):=by
 intro pins s σ H Q I h;refine Subscript_ (thn (he pins s σ H _ I h) λ v s1 ⟨x,H1,I1,r1,q1⟩=>?_);refine wpAny_Slice (thn (hl pins s1 σ H1 _ I1 q1) λ vl s2 ⟨l,H2,I2,pl,q2⟩=>thn (hu pins s2 σ H2 _ I2 q2) λ vu s3 ⟨u,H3,I3,pu,q3⟩=>?_);rw[evalPart_none];refine aae ?_;have I4:Inv X pins σ H3 { s3 with heap:=s3.heap.push { cls:=.type "slice", data:=.fields #[vl,vu,.none] } }:=I3.kept (t':=s3.toks) λ b ob q=>Heap.get?_push_of_some _ q;obtain⟨T,id,hT,ht,hg⟩:=hr pins { s3 with heap:=s3.heap.push { cls:=.type "slice", data:=.fields #[vl,vu,.none] } } σ H3 x v vl vu l u s3.heap.objs.size Q I4 r1 (Heap.IsSliceOf.new ..) pl pu q3;show wpAny (model X.prog X.w) X.A (subscriptTail e (.Slice lo hi none p2) v (.ref s3.heap.objs.size)) (EP X pins σ Q) X.xe { s3 with heap:=s3.heap.push { cls:=.type "slice", data:=.fields #[vl,vu,.none] } };exact tail_any (ops:=[.ref s3.heap.objs.size,v]) ht hT hg (by with_unfolding_all rfl)
def Ge(xs:List V)(lo hi:Option Int):List V:=(xs.drop (HT.sIx xs.length 0 lo)).take (HT.sIx xs.length xs.length hi - HT.sIx xs.length 0 lo)
theorem gO(xs:List V)(lo hi:Option Int):(Ge xs lo hi).length<=xs.length:=by
 unfold Ge;rw[aao,abB];nofun
def Nq(K:Frag):V->Option Int->Option Int->Hp->VK->Prop:=λ x lo hi H Q=>∃ a xs,x=.ref a/\SqT K H a xs /\
 ¬ (HT.sIx xs.length 0 lo=0/\HT.sIx xs.length xs.length hi=xs.length)/\∀ p,H p=none->Q (.ref p) (upd H p (.tup (Ge xs lo hi)))
theorem GY:SlR X (Nq X.K):=by
 intro pins s σ H x v vl vu lo hi sl Q I rx hs pl pu h;obtain⟨a,xs,rfl,hx,hw,q⟩:=h;cases rx;obtain⟨its,r,ht,hz⟩:=I.tuple hx;have hlen:its.toArray.size=xs.length:=by rw[abT];exact r.length.symm
 refine⟨"tuple", _,PyProof.Rows.slot_tuple_getitem.lookup,ht.typeIs,?_⟩;refine HT.getItem_tuple_cut ht hs pl pu (by rw[hlen];exact hw) ?_ (by rw[hlen];exact hz);rw[hlen];refine⟨.ref s.heap.objs.size,_,I.laid (t':=s.toks) (o:=.tup (Ge xs lo hi)) (λ b ob q=>Heap.get?_push_of_some _ q) (aac _) ?_,rfl,q _ (I.hok.fresh (aac _))⟩;exact⟨aau (gO xs lo hi) hz,_,(r.drop (HT.sIx xs.length 0 lo)).take (HT.sIx xs.length xs.length hi - HT.sIx xs.length 0 lo),IsTup.new _ _⟩
def GZ(K:Frag):R2:=λ x y H Q=>∃ a b xs ys,x=.ref a/\y=.ref b/\SqT K H a xs/\SqT K H b ys/\xs≠[]/\xs.length+ys.length<=sizeLine /\
 (ys=[]->Q (.ref a) H)/\(ys≠[]->∀ p,H p=none->Q (.ref p) (upd H p (.tup (xs++ys))))
theorem Vals.nil_iff{xs:List V}(r:Vals xs us):us=[]↔xs=[]:=by
 cases r with
 |nil=>simp
 |cons _ _=>simp
theorem B8:OpR X (binaryOp .Add) (GZ X.K):=by
 intro pins s σ H x y v u Q I rx ry h;obtain⟨a,b,xs,ys,rfl,rfl,ha,hb,hx,hz,q1,q2⟩:=h;cases rx;cases ry;obtain⟨its,r1,p1,_⟩:=I.tuple ha;obtain⟨its2,r2,p2,_⟩:=I.tuple hb;refine HT.cat_tup p1 p2 (λ z=>hx (r1.nil_iff.mp z)) (λ z=>⟨.ref a,H,I,rfl,q1 (r2.nil_iff.mp z)⟩) (λ z=>?_) (by rw[← r1.length,← r2.length];exact hz);refine⟨.ref s.heap.objs.size,_,I.laid (t':=s.toks) (o:=.tup (xs++ys)) (λ b ob q=>Heap.get?_push_of_some _ q) (aac _) ?_,rfl,q2 (λ w=>z (r2.nil_iff.mpr w)) _ (I.hok.fresh (aac _))⟩;exact⟨by rw[aag];exact hz,_,r1.append r2,IsTup.new _ _⟩
end
def ixN(n:Nat)(i:Int):Option Nat:=if 0<=i then (if i<n then some i.toNat else none) else if -(n:Int)<=i then some (i+n).toNat else none
def atI{α:Type}(xs:List α)(i:Int):Option α:=(ixN xs.length i).bind λ j=>xs[j]?
theorem qW(h:ixN n i=some j):seqIndex? i n=some j/\j<n/\-(n:Int)<=i/\i<n:=by
 unfold ixN at h;by_cases h0:0<=i
 ·rw[if_pos h0] at h;by_cases h1:i<n
  ·rw[if_pos h1] at h;have e:i.toNat=j:=aaj h;exact⟨by rw[seqIndex_of h0 h1,e],by nofun,by nofun,h1⟩
  ·rw[if_neg h1] at h;cases h
 ·rw[if_neg h0] at h;by_cases h1:-(n:Int)<=i
  ·rw[if_pos h1] at h;have e:(i+n).toNat=j:=aaj h;exact⟨by rw[seqIndex_neg (by nofun) h1,e],by nofun,h1,by nofun⟩
  ·rw[if_neg h1] at h;cases h
theorem ma{xs:List α}{v:α}(h:atI xs i=some v):∃ j,seqIndex? i xs.length=some j/\xs[j]?=some v/\j<xs.length/\-(xs.length:Int)<=i/\i<xs.length:=by
 unfold atI at h
 cases e:ixN xs.length i with
 |none=>rw[e] at h;cases h
 | some j=>
  rw[e] at h;obtain⟨h1,h2,h3,h4⟩:=qW e;exact⟨j,h1,h,h2,h3,h4⟩
theorem cF{xs:List α}{v:α}(h:xs[j]?=some v):atI xs (j:Int)=some v:=by
 have hj:j<xs.length:=(List.getElem?_eq_some_iff.mp h).1
 have e:ixN xs.length (j:Int)=some j:=by
  unfold ixN;rw[if_pos (by nofun),if_pos (by nofun)];simp
 unfold atI;rw[e];exact h
theorem v9(xs:List α)(v:α):atI (xs++[v]) (-1)=some v:=by
 have hl:(xs++[v]).length=xs.length+1:=by simp
 have e:ixN (xs++[v]).length (-1)=some xs.length:=by
  unfold ixN;rw[hl,if_neg (by decide),if_pos (by nofun)]
  congr 1
  nofun
 unfold atI;rw[e];show (xs++[v])[xs.length]?=some v;simp
def B9(b:Expr):Prop:=∀ o i,subscripted b false o i=operate [o,i] (getItem o i)
def IxR(X:Cx)(r:R2):Prop:=
 ∀ (value slice:Expr) (pins:List (Addr×Obj)) (s:Shared) (σ:St) (H:Hp) (x y:V) (v u:Value) (Q:VK),Inv X pins σ H s->RelV x v->RelV y u->r x y H Q ->
  subscripted slice false v u=operate [v,u] (getItem v u)->wpAny (model X.prog X.w) X.A (subscriptTail value slice v u) (EP X pins σ Q) X.xe s
def MtR(X:Cx)(id:String)(r:V->List V->Hp->VK->Prop):Prop:=
 ∀ (pins:List (Addr×Obj)) (s:Shared) (σ:St) (H:Hp) (x:V) (xs:List V) (v:Value) (us:List Value) (Q:VK),Inv X pins σ H s->RelV x v->Vals xs us->r x xs H Q ->
  wpAny (model X.prog X.w) X.A (call (.builtin id) (v::us)) (EP X pins σ Q) X.xe s
section
variable  {a b:Expr} {ta tb:TE} 
theorem IxR.or{r r':R2}(h:IxR X r)(h':IxR X r'):IxR X (λ x y H Q=>r x y H Q∨r' x y H Q):=by
 intro value slice pins s σ H x y v u Q I rx ry q hs;rcases q with q|q
 ·exact h value slice pins s σ H x y v u Q I rx ry q hs
 ·exact h' value slice pins s σ H x y v u Q I rx ry q hs
theorem LX{r:R2}(hr:IxR X r)(ha:PE X a ta)(hb:PE X b tb)(hs:B9 b):PE X (.Subscript a b pos) (tOp r ta tb):=by
 intro pins s σ H Q I h;exact Subscript_ (LL ha hb I h λ v u s2 x y H2 I2 rx ry q=>hr a b pins s2 σ H2 x y v u Q I2 rx ry q (hs _ _))
def Nr(K:Frag):R2:=λ x y H Q=>∃ p xs i v,x=.ref p/\y=.int i/\SqL K H p xs/\atI xs i=some v/\Q v H
def Nt(K:Frag):R2:=λ x y H Q=>∃ p xs i v,x=.ref p/\y=.int i/\SqT K H p xs/\atI xs i=some v/\Q v H
def Nu:R2:=λ x y H Q=>∃ z i c,x=.str z/\y=.int i/\z.length<=sizeLine/\atI z.cps.toList i=some c/\Q (.str ⟨#[c]⟩) H
theorem Ca:IxR X (Nr X.K):=by
 intro value slice pins s σ H x y v u Q I rx ry h hs;obtain⟨p,xs,i,z,rfl,rfl,hq,he,q⟩:=h;cases rx;obtain⟨t,rfl⟩:=ry;obtain⟨its,r,pl,hz⟩:=I.list hq;obtain⟨j,h1,h2,h3,h4,h5⟩:=ma he;obtain⟨w,ew,rw'⟩:=r.get h2;have hl:=r.length;have hn:=gJ;have fin:EP X pins σ Q w s:=⟨z,H,I,rw',q⟩;by_cases h0:0<=i
 ·have hj:i.toNat=j:=by
   rw[seqIndex_of h0 h5] at h1;exact aaj h1
  exact item_listR pl.isList h0 (by nofun) (by rw[hj];simpa using ew) fin hs
 ·have hj:(i+(its.toArray.size:Int)).toNat=j:=by
   rw[seqIndex_neg (by nofun) h4] at h1;rw[abT,← hl];exact aaj h1
  exact subscriptTail_builtinR (x:=w) pl.isList.typeIs slot_list_getitem.lookup
   (wpAny_getItem_list_neg (Q:=λ r s'=>r=w/\EP X pins σ Q r s') pl.isList (by nofun) (by rw[abT] <;> nofun) (by nofun) (by rw[hj];simpa using ew) ⟨rfl,fin⟩) hs
theorem G0:IxR X (Nt X.K):=by
 intro value slice pins s σ H x y v u Q I rx ry h hs;obtain⟨p,xs,i,z,rfl,rfl,hq,he,q⟩:=h;cases rx;obtain⟨t,rfl⟩:=ry;obtain⟨its,r,pl,hz⟩:=I.tuple hq;obtain⟨j,h1,h2,h3,h4,h5⟩:=ma he;obtain⟨w,ew,rw'⟩:=r.get h2;have hl:=r.length;have hn:=gJ;have fin:EP X pins σ Q w s:=⟨z,H,I,rw',q⟩
 exact subscriptTail_builtinR (x:=w) pl.typeIs slot_tuple_getitem.lookup
  (getItem_tuple (j:=j) (Q:=λ r s'=>r=w/\EP X pins σ Q r s') pl (by nofun) (by nofun) (by rw[abT,← hl];exact h1) (by exists ew) ⟨rfl,fin⟩) hs
theorem G1:IxR X Nu:=by
 intro value slice pins s σ H x y v u Q I rx ry h hs;obtain⟨z,i,c,rfl,rfl,hz,he,q⟩:=h;obtain⟨t,rfl⟩:=rx;obtain⟨t',rfl⟩:=ry;obtain⟨j,h1,h2,h3,h4,h5⟩:=ma he;have hl:z.cps.toList.length=z.length:=by simp[Str.length]
 rw[hl] at h1 h4 h5;have hn:=gJ
 exact tail_any (typeIs_str s z t) slot_str_getitem.lookup (getItem_str (c:=c) (by
  have e1:decide (i < -(2 ^ 63:Int))=false:=decide_eq_false (by nofun);have e2:decide (i ≥ 2 ^ 63)=false:=decide_eq_false (by nofun);rw[e1,e2,Bool.or_false]) (by rw[h1];simpa using h2) ⟨.str ⟨#[c]⟩,H,I.tok _,⟨_,rfl⟩,q⟩) hs
def rIx(K:Frag):R2:=λ x y H Q=>Nr K x y H Q∨Nt K x y H Q∨Nu x y H Q
theorem G2:IxR X (rIx X.K):=Ca.or (G0.or G1)
theorem pq(its:List Value)(n j:Nat)(u:Value):Obj.mapSeq (·.setIfInBounds j u) { cls:=.type "list", data:=.seq its.toArray n }={ cls:=.type "list", data:=.seq (its.set j u).toArray n }:=by
 simp[Obj.mapSeq]
theorem Inv.lst{pins:List (Addr×Obj)}{σ:St}{H:Hp}{s:Shared}{p:Addr}{xs:List V}(I:Inv X pins σ H s)(h:H p=some (.lst xs)) :
  ∃ (its:List Value) (n:Nat),Vals xs its/\s.heap.get? p=some { cls:=.type "list", data:=.seq its.toArray n }/\xs.length<=sizeLine:=by
 obtain⟨z,its,n,r,e⟩:=I.hok p _ h;exact⟨its,n,r,e,z⟩
theorem Inv.lstUpd{p:Addr}{xs:List V}{n':Nat}{f:Obj->Obj}(I:Inv X pins σ H s)(h:H p=some (.lst xs))
  (ho:s.heap.get? p=some { cls:=.type "list", data:=.seq its.toArray n }) (hf:f { cls:=.type "list", data:=.seq its.toArray n }={ cls:=.type "list", data:=.seq its'.toArray n' }) (r:Vals ys its') (hz:ys.length<=sizeLine) (t:Nat) :
  Inv X pins σ (upd H p (.lst ys)) { s with heap:=s.heap.update p f,toks:=t }:=by
 have e:(s.heap.update p f).get? p=some { cls:=.type "list", data:=.seq its'.toArray n' }:=by
  rw[Heap.get?_update_self f ho (by rw[hf] <;> rfl),hf]
 refine I.write (x:=p) (e:=p) (by rw[h];trivial) (.inl rfl) (λ b u hb q=>(Heap.get?_update_other _ _ (abk hb)).trans q) ⟨_,e⟩ ?_;exact⟨hz,its',n',r,e⟩
def Cb:V->V->V->Hp->(Hp->Prop)->Prop:=λ o i v H Q=>∃ p xs k j,o=.ref p/\i=.int k/\H p=some (.lst xs)/\ixN xs.length k=some j/\Q (upd H p (.lst (xs.set j v)))
theorem wa:Nm X Cb:=by
 intro pins s σ H o i v ov iv u Q I ro ri rv h;obtain⟨p,xs,k,j,rfl,rfl,hp,hj,q⟩:=h;cases ro;obtain⟨t,rfl⟩:=ri;obtain⟨its,n,r,ho,hz⟩:=I.lst hp;obtain⟨h1,h2,h3,h4⟩:=qW hj;have hl:=r.length;have hn:=gJ
 have I':Inv X pins σ (upd H p (.lst (xs.set j v))) { s with heap:=s.heap.update p (Obj.mapSeq (·.setIfInBounds j u)) }:=
  I.lstUpd hp ho (pq its n j u) (r.set rv j) (by rw[aaN];exact hz) s.toks
 by_cases h0:0<=k
 ·have hk:k.toNat=j:=by
   rw[seqIndex_of h0 h4] at h1;exact aaj h1
  exact PySem.W.ki_setAt ho h0 (by nofun) (by rw[abT,← hl];exact h4) (by rw[hk];exact⟨_,I',q⟩)
 ·have hk:(k+(its.toArray.size:Int)).toNat=j:=by
   rw[seqIndex_neg (by nofun) h3] at h1;rw[abT,← hl];exact aaj h1
  exact PySem.W.ki_setBack ho (by nofun) (by rw[abT,← hl];exact h3) (by nofun) (by rw[hk];exact⟨_,I',q⟩)
theorem ky(lo hi:Option Int)(n:Nat):(sliceBounds lo hi none n).1=((HT.sIx n 0 lo:Nat):Int)/\(sliceBounds lo hi none n).2.1=((HT.sIx n n hi:Nat):Int)/\(sliceBounds lo hi none n).2.2=1:=by
 refine⟨?_,?_,rfl⟩
 ·cases lo with
  |none=>simp [sliceBounds,HT.sIx]
  | some i=>
   simp only[sliceBounds,HT.sIx,Option.getD_none,show (1:Int) > 0 by decide,if_true];by_cases h:i<0
   ·simp only[h,if_true] <;> nofun
   ·simp only[h,if_false] <;> nofun
 ·cases hi with
  |none=>simp [sliceBounds,HT.sIx]
  | some i=>
   simp only[sliceBounds,HT.sIx,Option.getD_none,show (1:Int) > 0 by decide,if_true];by_cases h:i<0
   ·simp only[h,if_true] <;> nofun
   ·simp only[h,if_false] <;> nofun
theorem jw(its:List Value)(lo hi:Option Int):slicePick its.toArray lo hi none=((its.drop (HT.sIx its.length 0 lo)).take (HT.sIx its.length its.length hi - HT.sIx its.length 0 lo)).toArray:=by
 obtain⟨h1,h2,h3⟩:=ky lo hi its.toArray.size;unfold slicePick;rw[h1,h2,h3];simp only[sliceRange_one,pick_run,List.size_toArray] <;> rfl
def Nv(K:Frag):V->Option Int->Option Int->Hp->VK->Prop:=λ x lo hi H Q=>∃ a xs,x=.ref a/\SqL K H a xs/\∀ p,H p=none->Q (.ref p) (upd H p (.lst (Ge xs lo hi)))
theorem Cc:SlR X (Nv X.K):=by
 intro pins s σ H x v vl vu lo hi sl Q I rx hs pl pu h;obtain⟨a,xs,rfl,hx,q⟩:=h;cases rx;obtain⟨its,r,ht,hz⟩:=I.list hx;have hlen:=r.length;refine⟨"list", _,slot_list_getitem.lookup,ht.isList.typeIs,?_⟩;refine wpAny_getItem_list_slice ht.isList hs pl pu .none (by simp) ?_ (by rw[List.size_toArray] <;> nofun);rw[jw,← hlen];refine⟨.ref s.heap.objs.size,_,I.laid (t':=s.toks) (o:=.lst (Ge xs lo hi)) (λ b ob q=>Heap.get?_push_of_some _ q) (aac _) ?_,rfl,q _ (I.hok.fresh (aac _))⟩;exact⟨aau (gO xs lo hi) hz,_,0,(r.drop (HT.sIx xs.length 0 lo)).take (HT.sIx xs.length xs.length hi - HT.sIx xs.length 0 lo),Heap.get?_push_size _ rfl⟩
def gP:V->Bool
 |.non=>true
 |.bl _=>true
 |.int _=>true
 |.str _=>true
 |_=>false
def eqV:V->V->Bool
 |.non,.non=>true
 |.bl a,.bl b=>a==b
 |.bl a,.int b=>(if a then 1 else 0)==b
 |.int a,.bl b=>a==(if b then 1 else 0)
 |.int a,.int b=>a==b
 |.str a,.str b=>a==b
 |_,_=>false
theorem G3(ry:RelV y u)(rx:RelV x v)(fy:gP y=true)(fx:gP x=true):SeqAt.EqAt A s u v (eqV y x):=by
 cases y with
 | non=>
  cases ry
  cases x with
  |non=>cases rx;exact abI _
  |bl b=>cases rx;exact SeqAt.EqAt.none_bool b
  |int b=>obtain ⟨t,rfl⟩:=rx;exact SeqAt.EqAt.none_int b t
  |str b=>obtain ⟨t,rfl⟩:=rx;exact SeqAt.EqAt.none_str b t
  |_=>exact absurd (show false=true from fx) abP
 | bl a=>
  cases ry
  cases x with
  |non=>cases rx;exact SeqAt.EqAt.bool_none a
  |bl b=>cases rx;exact SeqAt.EqAt.bool_bool a b
  |int b=>obtain ⟨t,rfl⟩:=rx;exact SeqAt.EqAt.bool_int a b t
  |str b=>obtain ⟨t,rfl⟩:=rx;exact SeqAt.EqAt.bool_str a b t
  |_=>exact absurd (show false=true from fx) abP
 | int a=>
  obtain⟨t',rfl⟩:=ry
  cases x with
  |non=>cases rx;exact SeqAt.EqAt.int_none a t'
  |bl b=>cases rx;exact SeqAt.EqAt.int_bool a t' b
  |int b=>obtain ⟨t,rfl⟩:=rx;exact SeqAt.EqAt.int_int a t' b t
  |str b=>obtain ⟨t,rfl⟩:=rx;exact SeqAt.EqAt.int_str a t' b t
  |_=>exact absurd (show false=true from fx) abP
 | str a=>
  obtain⟨t',rfl⟩:=ry
  cases x with
  |non=>cases rx;exact SeqAt.EqAt.str_none a t'
  |bl b=>cases rx;exact SeqAt.EqAt.str_bool a t' b
  |int b=>obtain ⟨t,rfl⟩:=rx;exact SeqAt.EqAt.str_int a t' b t
  |str b=>obtain ⟨t,rfl⟩:=rx;exact SeqAt.EqAt.str_str a t' b t
  |_=>exact absurd (show false=true from fx) abP
 |_=>exact absurd (show false=true from fy) abP
def eqU(x:V)(u:Value):Bool:=match u with
 |.none=>eqV .non x
 |.bool b=>eqV (.bl b) x
 |.int i _=>eqV (.int i) x
 |.str z _=>eqV (.str z) x
 |_=>false
theorem Ai(r:RelV y u)(f:gP y=true):eqU x u=eqV y x:=by
 cases y with
 |non=>cases r;rfl
 |bl b=>cases r;rfl
 |int i=>obtain⟨t,rfl⟩:=r;rfl
 |str z=>obtain⟨t,rfl⟩:=r;rfl
 |_=>exact absurd (show false=true from f) abP
theorem gQ{x:V}:∀ {xs:List V} {us:List Value},Vals xs us->xs.all gP=true->us.any (eqU x)=xs.any λ y=>eqV y x
 |_,_,.nil,_=>rfl
 | y::xs,u::us,.cons r t,f=>by
  rw[aaO,abY] at f;rw[abG,abG,Ai r f.1,gQ t f.2]
theorem e7{A:Around}{s:Shared}{x:V}{v:Value}(rx:RelV x v)(fx:gP x=true):∀ {xs:List V} {us:List Value},Vals xs us->xs.all gP=true->∀ u∈us,SeqAt.EqAt A s u v (eqU x u)
 |_,_,.nil,_=>λ u hu=>by cases hu
 | y::xs,u::us,.cons r t,f=>λ u' hu=>by
  rw[aaO,abY] at f;rcases abQ.mp hu with rfl|hu
  ·rw[Ai r f.1];exact G3 r rx f.1 fx
  ·exact e7 rx fx t f.2 u' hu
def inV(x:V)(xs:List V):Bool:=xs.any λ y=>eqV y x
def rIn(K:Frag)(neg:Bool):R2:=λ x y H Q=>∃ p xs,y=.ref p/\(SqL K H p xs∨SqT K H p xs)/\gP x=true/\xs.all gP=true/\Q (.bl (if neg then !inV x xs else inV x xs)) H
theorem qX:OpR X (compareOp .In) (rIn X.K false):=by
 intro pins s σ H x y v u Q I rx ry h;obtain⟨p,xs,rfl,hq,fx,fs,q⟩:=h;cases ry;rcases hq with hq|hq
 ·obtain⟨its,r,pl,hz⟩:=I.list hq;refine SeqAt.in_listAt (eqU x) pl.isList (λ w hw=>e7 rx fx r fs w (by exists hw)) ⟨.bl _,H,I,rfl,?_⟩;rw[show its.toArray.any (eqU x)=its.any (eqU x) by simp,gQ r fs];exact q
 ·obtain⟨its,r,pl,hz⟩:=I.tuple hq;refine SeqAt.in_tupleAt (eqU x) pl (λ w hw=>e7 rx fx r fs w (by exists hw)) ⟨.bl _,H,I,rfl,?_⟩;rw[show its.toArray.any (eqU x)=its.any (eqU x) by simp,gQ r fs];exact q
theorem kz:OpR X (compareOp .NotIn) (rIn X.K true):=by
 intro pins s σ H x y v u Q I rx ry h;obtain⟨p,xs,rfl,hq,fx,fs,q⟩:=h;cases ry;rcases hq with hq|hq
 ·obtain⟨its,r,pl,hz⟩:=I.list hq;refine SeqAt.notIn_listAt (eqU x) pl.isList (λ w hw=>e7 rx fx r fs w (by exists hw)) ⟨.bl _,H,I,rfl,?_⟩;rw[show its.toArray.any (eqU x)=its.any (eqU x) by simp,gQ r fs];exact q
 ·obtain⟨its,r,pl,hz⟩:=I.tuple hq;refine SeqAt.notIn_tupleAt (eqU x) pl (λ w hw=>e7 rx fx r fs w (by exists hw)) ⟨.bl _,H,I,rfl,?_⟩;rw[show its.toArray.any (eqU x)=its.any (eqU x) by simp,gQ r fs];exact q
theorem kA:OpR X (compareOp .NotIn) (λ x y H Q=>∃ i j,x=.str i/\y=.str j/\Q (.bl (!(!(Builtin.Str.occurrences j i 0 j.length 1).isEmpty))) H):=by
 intro pins s σ H x y v u Q I rx ry h;obtain⟨i,j,rfl,rfl,q⟩:=h;obtain⟨t,rfl⟩:=rx;obtain⟨t',rfl⟩:=ry;exact notIn_str ⟨.bl _,H,I,rfl,q⟩
theorem kB:CallR X (.builtin "len") (λ xs H Q=>∃ p ys,xs=[.ref p]/\(SqL X.K H p ys∨SqT X.K H p ys)/\Q (.int ys.length) H):=by
 intro pins s σ H xs us Q I r h;obtain⟨p,ys,rfl,hq,q⟩:=h;obtain⟨u,rfl,rx⟩:=dF r;cases rx;have hn:=gJ;rcases hq with hq|hq
 ·obtain⟨its,r',pl,hz⟩:=I.list hq;have hlen:=r'.length;exact Calls.call_len_list pl.isList (by simp only[List.size_toArray] <;> nofun) ⟨.int ys.length,H,I.tok _,⟨s.toks+1,by rw[abT,hlen]⟩,q⟩
 ·obtain⟨its,r',pl,hz⟩:=I.tuple hq;have hlen:=r'.length;exact len_tuple pl (by simp only[List.size_toArray] <;> nofun) ⟨.int ys.length,H,I.tok _,⟨s.toks+1,by rw[abT,hlen]⟩,q⟩
theorem kC:CallR X (.builtin "len") (λ xs H Q=>∃ z,xs=[.str z]/\z.length<=sizeLine/\Q (.int z.length) H):=by
 intro pins s σ H xs us Q I r h;obtain⟨z,rfl,hz,q⟩:=h;obtain⟨u,rfl,t,rfl⟩:=dF r;have hn:=gJ;exact len_str (by nofun) ⟨.int z.length,H,I.tok _,⟨_,rfl⟩,q⟩
theorem CallR.or{f:Value}{r r':List V->Hp->VK->Prop}(h:CallR X f r)(h':CallR X f r'):CallR X f (λ xs H Q=>r xs H Q∨r' xs H Q):=by
 intro pins s σ H xs us Q I rs q;rcases q with q|q
 ·exact h pins s σ H xs us Q I rs q
 ·exact h' pins s σ H xs us Q I rs q
theorem kD:CallR X (.type "list") (λ xs H Q=>∃ p ys,xs=[.ref p]/\(SqL X.K H p ys∨SqT X.K H p ys)/\∀ l,H l=none->Q (.ref l) (upd H l (.lst ys))):=by
 intro pins s σ H xs us Q I r h;obtain⟨p,ys,rfl,hq,q⟩:=h;obtain⟨u,rfl,rx⟩:=dF r;cases rx
 have fin:∀ (its:List Value),Vals ys its->ys.length<=sizeLine->∀ (h':Heap) (c':Nat),(∀ b o',s.heap.get? b=some o'->h'.get? b=some o') ->
   h'.get? s.heap.objs.size=some { cls:=.type "list", dict:=none,data:=.seq its.toArray c',slots:=#[] }->EP X pins σ Q (.ref s.heap.objs.size) { s with heap:=h' }:=λ its r' hz h' c' kp e=>
  ⟨.ref s.heap.objs.size,_,I.laid (t':=s.toks) kp (aac _) (show ObjOk X.prog X.w _ h' _ (.lst ys) from ⟨hz,its,c',r',e⟩),rfl,q _ (I.hok.fresh (aac _))⟩
 rcases hq with hq|hq
 ·obtain⟨its,r',pl,hz⟩:=I.list hq;have hlen:=r'.length;obtain⟨o,ho,hc,n,hd⟩:=pl.isList;exact call_list_seq p (.inl rfl) ho hc hd (λ h' c' kp e=>fin its r' hz h' c' kp e) (by simp only[List.size_toArray] <;> nofun)
 ·obtain⟨its,r',pl,hz⟩:=I.tuple hq;have hlen:=r'.length;obtain⟨o,ho,hc,n,hd⟩:=pl;exact call_list_seq p (.inr rfl) ho hc hd (λ h' c' kp e=>fin its r' hz h' c' kp e) (by simp only[List.size_toArray] <;> nofun)
theorem jx:CallR X (.type "tuple") (λ xs H Q=>∃ p ys,xs=[.ref p]/\((SqL X.K H p ys/\∀ l,H l=none->Q (.ref l) (upd H l (.tup ys)))∨(SqT X.K H p ys/\Q (.ref p) H))):=by
 intro pins s σ H xs us Q I r h;obtain⟨p,ys,rfl,h⟩:=h;obtain⟨u,rfl,rx⟩:=dF r;cases rx;rcases h with ⟨hq,q⟩|⟨hq,q⟩
 ·obtain⟨its,r',pl,hz⟩:=I.list hq;have hlen:=r'.length;refine call_tuple_list pl.isList (λ h' kp=>?_) (by simp only[List.size_toArray] <;> nofun);have I1:Inv X pins σ H { s with heap:=h' }:=I.kept (t':=s.toks) kp
  have I2:Inv X pins σ (upd H h'.objs.size (.tup ys)) { s with heap:=h'.push { cls:=.type "tuple", data:=.seq its.toArray } }:=
   I1.laid (t':=s.toks) (λ b o e=>Heap.get?_push_of_some _ e) (aac _) (show ObjOk X.prog X.w _ _ _ (.tup ys) from ⟨hz,its,r',IsTup.new _ _⟩)
  exact⟨.ref h'.objs.size,_,I2,rfl,q _ (I1.hok.fresh (aac _))⟩
 ·obtain⟨its,r',pl,hz⟩:=I.tuple hq;exact call_tuple_same pl ⟨.ref p,H,I,rfl,q⟩
def tyV(K:Frag)(T:String)(x:V)(H:Hp):Prop:=match x with
 |.str _=>T = "str"
 |.int _=>T = "int"
 | .ref p=>(T = "list" /\ ∃ xs,SqL K H p xs)∨(T = "tuple" /\ ∃ o,K.lookup p=some o/\o.cls=.type "tuple" /\ o.dict=none) ∨
   (T = "dict" /\ ((∃ kvs,H p=some (.dK kvs))∨∃ kvs,H p=some (.dT kvs)))∨(T = "set" /\ ∃ S n,H p=some (.set S n))
 |_=>False
theorem Aj(I:Inv X pins σ H s)(r:RelV x v)(ty:tyV X.K T x H) :
  s.TypeIs v T/\∀ a,v=.ref a->∃ ob,s.heap.get? a=some ob/\ob.dict=none:=by
 cases x with
 | str z=>
  obtain⟨t,rfl⟩:=r;cases (show T = "str" from ty);exact⟨typeIs_str s z t,λ _ e=>nomatch e⟩
 | int i=>
  obtain⟨t,rfl⟩:=r;cases (show T = "int" from ty);exact⟨typeIs_int s i t,λ _ e=>nomatch e⟩
 | ref p=>
  cases r;rcases ty with ⟨rfl,xs,hq⟩|⟨rfl,o,hk,hc,hd⟩|⟨rfl,hk⟩|⟨rfl,S,n,hk⟩
  ·obtain⟨its,_,pl,_⟩:=I.list hq;refine⟨pl.isList.typeIs,λ a e=>?_⟩;cases e;obtain⟨o,n,e,c,hd,_⟩:=pl;exact⟨o,e,hd⟩
  ·refine⟨⟨o,I.kIn p o hk,hc⟩,λ a e=>?_⟩;cases e;exact⟨o,I.kIn _ o hk,hd⟩
  ·have z:∃ o,s.heap.get? p=some o/\o.ExactDict:=by
    rcases hk with ⟨kvs,hk⟩|⟨kvs,hk⟩
    ·obtain⟨_,_,_,_,o,_,_,e,ex,_⟩:=I.hok p _ hk;exact⟨o,e,ex⟩
    ·obtain⟨_,_,_,_,o,_,_,e,ex,_⟩:=I.hok p _ hk;exact⟨o,e,ex⟩
   obtain⟨o,e,ex⟩:=z;refine⟨⟨o,e,ex.1⟩,λ a e2=>?_⟩;cases e2;exact⟨o,e,ex.2.1⟩
  ·obtain⟨o,_,_,_,e,ex,_⟩:=I.hok p _ hk;refine⟨⟨o,e,ex.1⟩,λ a e2=>?_⟩;cases e2;exact⟨o,e,ex.2.1⟩
 |_=>exact False.elim ty
def Lj(K:Frag)(T:String)(r:V->List V->Hp->VK->Prop)(to:TE):TE:=λ σ H Q=>to σ H λ x H1=>tyV K T x H1/\r x [] H1 Q
def tBM(K:Frag)(T:String)(r:V->List V->Hp->VK->Prop)(to:TE)(t:TA):TE:=λ σ H Q=>to σ H λ x H1=>tyV K T x H1/\t σ H1 λ xs H2=>r x xs H2 Q
variable {o:Expr} {es:List Expr} {to:TE} {t:TA} {name:Str}  {id:String} {r:V->List V->Hp->VK->Prop}
theorem G4(pa:PlainAttrs T)(slot:Slot T name id)(hty:typeOf (.builtin id)=pure (.type "method_descriptor"))(hm:MtR X id r)(ho:PE X o to)
  (hbase:autoParam (attributeBase o name X.env (eval o X.env)=eval o X.env) L2.aR._auto_1) (hline:autoParam ((apos.endLine==cpos.line)=true) L2.aR._auto_1):PE X (.Call (.Attribute o name apos) [] [] cpos) (Lj X.K T r to):=by
 intro pins s σ H Q I h;refine wpAny_Call_method0_late hbase hline (thn (ho pins s σ H _ I h) λ v s1 ⟨x,H1,I1,r1,ty,q1⟩=>?_);obtain⟨h1,h2⟩:=Aj I1 r1 ty;exact⟨T,id,pa,slot,hty,h1,h2,aaY rfl (PySem.evalArgs_none (hm pins s1 σ H1 x [] v [] Q I1 r1 .nil q1))⟩
theorem LY(pa:PlainAttrs T)(slot:Slot T name id)(hty:typeOf (.builtin id)=pure (.type "method_descriptor"))(hm:MtR X id r)(ho:PE X o to)(ha:PA X (e::es) t)
  (hbase:autoParam (attributeBase o name X.env (eval o X.env)=eval o X.env) L2.aR._auto_1)
  (hfew:autoParam (((backTo cpos (starEach (e::es) X.env)).all (λ x=>!x.1)&&(backToKw cpos (keywordEach [] X.env)).all (λ x=>x.1.isSome)
   && decide ((e::es).length+([]:List Keyword).length+(if ([]:List Keyword).isEmpty then 0 else 1)<30))=true) L2.aR._auto_1)
  (hline:autoParam ((apos.endLine==cpos.line)=true) L2.aR._auto_1) (hs:autoParam (starEach (e::es) X.env=(false,eval e X.env)::starEach es X.env) L2.aR._auto_1) (hplain:autoParam ((backTo cpos (starEach es X.env)).any (·.1)=false) L2.aR._auto_1) :
  PE X (.Call (.Attribute o name apos) (e::es) [] cpos) (tBM X.K T r to t):=by
 intro pins s σ H Q I h;refine wpAny_Call_method_late hbase hfew hline rfl (thn (ho pins s σ H _ I h) λ v s1 ⟨x,H1,I1,r1,ty,q1⟩=>?_);obtain⟨h1,h2⟩:=Aj I1 r1 ty;refine⟨T,id,pa,slot,hty,h1,h2,?_⟩;have hA:=ha cpos pins s1 σ H1 _ I1 q1;rw[hs] at hA ⊢;refine aaY (by show (false || (backTo cpos (starEach es X.env)).any (·.1))=false;rw[hplain] <;> rfl) (abE ?_);exact thn hA λ us s2 ⟨vs,H2,I2,r2,q2⟩=>hm pins s2 σ H2 x vs v us Q I2 r1 r2 q2
/- xs.append(e),list.index on a module's tuple .. are MtR facts of 06m -/
end
def MtM(X:Cx)(id:String)(r:V->List V->Hp->VK->Prop):Prop:=
 ∀ (pins:List (Addr×Obj)) (s:Shared) (σ:St) (H:Hp) (x:V) (xs:List V) (v:Value) (us:List Value) (Q:VK),Inv X pins σ H s->RelV x v->Vals xs us->r x xs H Q ->
  wpAny (model X.prog X.w) X.A (call (.builtin id) (v::us)) (EP X pins σ Q) X.xe s
theorem Vals.one(h:Vals [x] us):∃ u,us=[u]/\RelV x u:=by
 cases h with|cons r t=>cases t;exact⟨_,rfl,r⟩
theorem Vals.zero:∀ {us:List Value},Vals [] us->us=[]
 |_,.nil=>rfl
theorem Vals.dropLast{xs:List V}(h:Vals xs us):Vals xs.dropLast us.dropLast:=by
 induction h with
 |nil=>exact .nil
 | cons r t ih=>
  cases t with
  |nil=>exact .nil
  |cons q t'=>exact .cons r ih
theorem pr(l:List α):l.eraseIdx (l.length - 1)=l.dropLast:=by
 induction l with
 |nil=>rfl
 | cons a r ih=>
  cases r with
  |nil=>rfl
  | cons b r=>
   have e:(a::b::r).length - 1=((b::r).length - 1)+1:=by
    have h1:(a::b::r).length=r.length+2:=rfl;have h2:(b::r).length=r.length+1:=rfl;nofun
   rw[e,List.eraseIdx_cons_succ,ih]
   all_goals rfl
section
variable      {l:Addr} {xs zs:List V}
theorem Inv.lset{f:Array Value->Array Value}(I:Inv X pins σ H s)(hH:H l=some (.lst xs))
  (e:s.heap.get? l=some { cls:=.type "list", data:=.seq its.toArray n }) (hf:f its.toArray=its'.toArray) (hv:Vals ys its') (hz:ys.length<=sizeLine) :
  Inv X pins σ (upd H l (.lst ys)) { s with heap:=s.heap.update l (Obj.mapSeq f),toks:=t' }:=by
 have q:=PySem.IsL.update e f;rw[hf] at q;refine I.write (x:=l) (e:=l) (by rw[hH];exact trivial) (.inl rfl) (λ b' u hb hu=>(Heap.get?_update_other s.heap (Obj.mapSeq f) (abk hb)).trans hu) ⟨_,q⟩ ?_;exact⟨hz,its',_,hv,q⟩
theorem Inv.lnew(I:Inv X pins σ H s)(hv:Vals ys its)(hz:ys.length<=sizeLine) :
  Inv X pins σ (upd H s.heap.objs.size (.lst ys)) { s with heap:=s.heap.push { cls:=.type "list", data:=.seq its.toArray },toks:=t' }:=
 I.laid (λ _ _ q=>Heap.get?_push_of_some _ q) (aac _) ⟨hz,its,0,hv,Heap.get?_push_size _ rfl⟩
theorem Inv.fresh(I:Inv X pins σ H s):H s.heap.objs.size=none:=I.hok.fresh (aac _)
theorem Inv.lstM(I:Inv X pins σ H s)(hH:H l=some (.lst xs)):xs.length<=sizeLine/\∃ (its:List Value) (n:Nat),Vals xs its/\xs.length=its.length/\s.heap.get? l=some { cls:=.type "list", data:=.seq its.toArray n }:=by
 obtain⟨z,its,n,r,e⟩:=I.hok l _ hH;exact⟨z,its,n,r,r.length,e⟩
end
def dG:V->List V->Hp->VK->Prop:=λ x vs H Q=>∃ l xs y,x=.ref l/\vs=[y]/\H l=some (.lst xs)/\xs.length<sizeLine/\Q .non (upd H l (.lst (xs++[y])))
theorem kE:MtM X "list.append" dG:=by
 intro pins s σ H x vs v us Q I rx rv h;obtain⟨l,xs,y,rfl,rfl,hH,hz,q⟩:=h;cases rx;obtain⟨u,rfl,ru⟩:=rv.one;obtain⟨z,its,n,r,hl,e⟩:=I.lstM hH;refine call_meets F.slot_list_append ⟨_,e,rfl⟩ F.entry_list_append (F.args_list_append_2 _ _) (PySem.list_append l its.toArray n u (by rw[abT];nofun)) ⟨e,?_⟩;refine⟨.non,_,I.lset (its':=its++[u]) hH e (by simp) (r.append (.cons ru .nil)) ?_,rfl,q⟩;rw[aag,aa2];nofun
def LZ:V->List V->Hp->VK->Prop:=λ x vs H Q=>∃ l xs y,x=.ref l/\vs=[]/\H l=some (.lst xs)/\xs[xs.length - 1]?=some y/\Q y (upd H l (.lst xs.dropLast))
theorem G5:MtM X "list.pop" LZ:=by
 intro pins s σ H x vs v us Q I rx rv h;obtain⟨l,xs,y,rfl,rfl,hH,hy,q⟩:=h;cases rx;have hus:=rv.zero;subst hus;obtain⟨z,its,n,r,hl,e⟩:=I.lstM hH;obtain⟨u,hu,ru⟩:=r.get hy
 have hy':its.toArray[its.toArray.size - 1]?=some u:=by
  show its.toArray[its.length - 1]?=some u;rw[← Array.getElem?_toList,← hl];exact hu
 refine call_meets F.slot_list_pop ⟨_,e,rfl⟩ F.entry_list_pop (F.args_list_pop_1 _) (MeetsSeq.list_pop_last l its.toArray n u hy' (by rw[abT];nofun)) ⟨e,?_⟩;refine⟨y,_,I.lset (its':=its.dropLast) hH e ?_ r.dropLast ?_,ru,q⟩
 ·show its.toArray.eraseIdxIfInBounds (its.toArray.size - 1)=its.dropLast.toArray;rw[abT,List.eraseIdxIfInBounds_toArray,pr]
 ·rw[List.length_dropLast];nofun
section
variable {prog:Program}    
end
section
variable {κ:Type} [DecidableEq κ]
def gh(kvs:List (κ×V))(k:κ):Option V:=(kvs.find? λ kv=>decide (kv.1=k)).map (·.2)
def gR(kvs:List (κ×V))(k:κ)(v:V):List (κ×V):=
 if (kvs.any λ kv=>decide (kv.1=k))=true then kvs.map (λ kv=>if kv.1=k then (kv.1,v) else kv) else kvs++[(k,v)]
def iO(kvs:List (κ×V))(k:κ):List (κ×V):=kvs.filter λ kv=>decide (kv.1≠k)
theorem gA{p:κ×V}{r:List (κ×V)}{k:κ}(e:p.1=k):gh (p::r) k=some p.2:=by simp[gh,List.find?_cons,e]
theorem gB{p:κ×V}{r:List (κ×V)}{k:κ}(e:¬ p.1=k):gh (p::r) k=gh r k:=by simp[gh,List.find?_cons,e]
theorem gC(k:κ):∀ kvs:List (κ×V),(kvs.any λ kv=>decide (kv.1=k))=(gh kvs k).isSome
 |[]=>rfl
 | p::r=>by
  rw[abG];by_cases e:p.1=k
  ·simp only[gA e,decide_eq_true e,Bool.true_or,Option.isSome_some]
  ·rw[gB e,decide_eq_false e,Bool.false_or];exact gC k r
theorem eN(kvs:List (κ×V))(k:κ)(v:V):(gR kvs k v).length<=kvs.length+1:=by
 unfold gR;split
 ·rw[abK];nofun
 ·rw[aag,abO,List.length_nil];nofun
theorem RelO.isSome_eq{u:Option Value}(r:RelO o u):o.isSome=u.isSome:=by
 cases o with
 | none=>cases u with
  |none=>rfl
  |some _=>exact (show False from r).elim
 | some _=>cases u with
  |none=>exact (show False from r).elim
  |some _=>rfl
theorem RelO.getD{u:Option Value}{d':Value}(r:RelO o u)(rd:RelV d d'):RelV (o.getD d) (u.getD d'):=by
 cases o with
 | none=>cases u with
  |none=>exact rd
  |some _=>exact (show False from r).elim
 | some _=>cases u with
  |none=>exact (show False from r).elim
  |some _=>exact r
theorem KV.val{kvs:List (κ×V)}{vs:List (κ×Value)}(r:KV kvs vs)(k:κ):RelO (gh kvs k) (valueAt vs k):=by
 unfold KV at r
 induction r with
 |nil=>exact True.intro
 | @cons p q ps qs h t ih=>
  obtain⟨h1,h2⟩:=h;by_cases e:p.1=k
  ·have e':q.1=k:=h1.symm.trans e;have b:valueAt (q::qs) k=some q.2:=by simp[valueAt,List.find?_cons,e']
   rw[gA e,b];exact h2
  ·have e':¬ q.1=k:=λ z=>e (h1.trans z);have b:valueAt (q::qs) k=valueAt qs k:=by simp[valueAt,List.find?_cons,e']
   rw[gB e,b];exact ih
theorem KV.any{kvs:List (κ×V)}{vs:List (κ×Value)}(r:KV kvs vs)(k:κ):(kvs.any λ kv=>decide (kv.1=k))=vs.any λ kv=>decide (kv.1=k):=by
 unfold KV at r
 induction r with
 |nil=>rfl
 |cons h t ih=>rw[abG,abG,ih,h.1]
theorem KV.repl{kvs:List (κ×V)}{vs:List (κ×Value)}(r:KV kvs vs)(k:κ)(ry:RelV y u) :
  KV (kvs.map λ kv=>if kv.1=k then (kv.1,y) else kv) (vs.map λ kv=>if kv.1=k then (kv.1,u) else kv):=by
 unfold KV at r ⊢
 induction r with
 |nil=>exact .nil
 | @cons p q ps qs h t ih=>
  rw[abM,abM];refine .cons ?_ ih;obtain⟨h1,h2⟩:=h;by_cases e:p.1=k
  ·rw[if_pos e,if_pos (h1.symm.trans e)];exact⟨h1,ry⟩
  ·rw[if_neg e,if_neg (λ z=>e (h1.trans z))];exact⟨h1,h2⟩
theorem KV.put{kvs:List (κ×V)}{vs:List (κ×Value)}(r:KV kvs vs)(k:κ)(ry:RelV y u):KV (gR kvs k y) (stored vs k u):=by
 unfold gR stored;rw[r.any k];by_cases e:(vs.any λ kv=>decide (kv.1=k))=true
 ·rw[if_pos e,if_pos e];exact r.repl k ry
 ·rw[if_neg e,if_neg e];exact Paired.snoc r ⟨rfl,ry⟩
theorem KV.drop{kvs:List (κ×V)}{vs:List (κ×Value)}(r:KV kvs vs)(k:κ):KV (iO kvs k) (without vs k):=by
 unfold KV at r ⊢;unfold iO without
 induction r with
 |nil=>exact .nil
 | @cons p q ps qs h t ih=>
  obtain⟨h1,h2⟩:=h;rw[List.filter_cons,List.filter_cons];by_cases e:p.1=k
  ·have a:¬ decide (p.1≠k)=true:=by simp[e]
   have b:¬ decide (q.1≠k)=true:=by simp[h1.symm.trans e]
   rw[if_neg a,if_neg b];exact ih
  ·have e':¬ q.1=k:=λ z=>e (h1.trans z);have a:decide (p.1≠k)=true:=by simp[e]
   have b:decide (q.1≠k)=true:=by simp[e']
   rw[if_pos a,if_pos b];exact .cons ⟨h1,h2⟩ ih
theorem KV.length{kvs:List (κ×V)}{vs:List (κ×Value)}(r:KV kvs vs):kvs.length=vs.length:=aa1 r
theorem m3(kvs:List (κ×V))(k:κ):(iO kvs k).length<=kvs.length:=aa3 _ _
end
theorem gT(r:RelV (kV k) u):(aq P w).is k u=true:=by
 cases k with
 |inl i=>obtain⟨t,e⟩:=(show ∃ t,u=Value.int i t from r);subst e;exact lZ P w i t
 |inr x=>obtain⟨t,e⟩:=(show ∃ t,u=Value.str x t from r);subst e;exact l0 P w x t
theorem kF{P:Program}{w:World}:∀ {ks:List Key} {us:List Value},Vals (ks.map kV) us->ItemsAre (aq P w) ks us
 |[],_,r=>by rw[List.map_nil] at r;cases r;exact .nil
 | k::ks,_,r=>by
  rw[abM] at r
  cases r with
  |cons h t=>exact .cons (gT h) (kF t)
abbrev KT(H:Hp):List (List Key×V)->List (List Key×Addr×Value)->Prop:=Paired λ p q=>p.1=q.1/\H q.2.1=some (.tup (p.1.map kV))/\RelV p.2 q.2.2
theorem KT.val(r:KT H kvs xs)(k:List Key):RelO (gh kvs k) ((atKey xs k).map (·.2)):=by
 induction r with
 |nil=>exact True.intro
 | @cons p q ps qs h t ih=>
  obtain⟨h1,_,h2⟩:=h;by_cases e:p.1=k
  ·have e':q.1=k:=h1.symm.trans e;have b:atKey (q::qs) k=some q.2:=by simp[atKey,List.find?_cons,e']
   rw[gA e,b];exact h2
  ·have e':¬ q.1=k:=λ z=>e (h1.trans z);have b:atKey (q::qs) k=atKey qs k:=by simp[atKey,List.find?_cons,e']
   rw[gB e,b];exact ih
theorem KT.repl(r:KT H kvs xs)(k:List Key)(ry:RelV y u) :
  KT H (kvs.map λ kv=>if kv.1=k then (kv.1,y) else kv) (xs.map (putAt k u)):=by
 induction r with
 |nil=>exact .nil
 | @cons p q ps qs h t ih=>
  rw[abM,abM];refine .cons ?_ ih;obtain⟨h1,h2,h3⟩:=h;unfold putAt;by_cases e:p.1=k
  ·rw[if_pos e,if_pos (h1.symm.trans e)];exact⟨h1,h2,ry⟩
  ·rw[if_neg e,if_neg (λ z=>e (h1.trans z))];exact⟨h1,h2,h3⟩
theorem KT.put(r:KT H kvs xs)(k:List Key)(hb:H b=some (.tup (k.map kV)))(ry:RelV y u) :
  KT H (gR kvs k y) (storedH xs k b u):=by
 have e:(kvs.any λ kv=>decide (kv.1=k))=(atKey xs k).isSome:=by
  rw[gC,(r.val k).isSome_eq,Option.isSome_map]
 unfold gR storedH;rw[e];by_cases q:(atKey xs k).isSome=true
 ·rw[if_pos q,if_pos q];exact r.repl k ry
 ·rw[if_neg q,if_neg q];exact Paired.snoc r ⟨rfl,hb,ry⟩
theorem KT.keeps(r:KT H kvs xs)(ht:∀ b ys,H b=some (.tup ys)->H' b=some (.tup ys)):KT H' kvs xs:=
 Paired.mapP r λ _ _ z=>⟨z.1,ht _ _ z.2.1,z.2.2⟩
section
variable    {h:Heap} 
theorem G6{u:HO}(ok:HOk P w H h)(e:Rd H a u):ObjOk P w H h a u:=e.ok ok
theorem gU{kvs:List (Key×V)}(ok:HOk P w H h)(e:Rd H a (.dK kvs)):kvs.length<=sizeLine/\(a==sysModules)=false/\∃ vs,KV kvs vs/\h.DictOf (aq P w) a vs:=
 show ObjOk P w H h a (.dK kvs) from G6 ok e
theorem qY{kvs:List (Key×V)}(ok:HOk P w H h)(e:H a=some (.dK kvs)):kvs.length<=sizeLine/\(a==sysModules)=false/\∃ vs,KV kvs vs/\h.DictOf (aq P w) a vs:=gU ok (.inl e)
theorem gW{ks:List Key}(ok:HOk P w H h)(e:H a=some (.tup (ks.map kV))):(tupleKind (aq P w)).is h ks a:=by
 obtain⟨_,its,r,o,h1,h2,n,h3⟩:=(show ObjOk P w H h a (.tup (ks.map kV)) from ok a _ e);exact⟨o,its.toArray,n,h1,h2,h3,by simpa using kF r⟩
theorem kG(ok:HOk P w H h)(e:Rd H a (.dT kvs)):kvs.length<=sizeLine/\(a==sysModules)=false /\
  ∃ xs,KT H kvs xs/\h.DictOfH (tupleKind (aq P w)) a xs:=by
 obtain⟨z,y,xs,r,o,es,ep,h1,h2,h3,h4,h5⟩:=(show ObjOk P w H h a (.dT kvs) from G6 ok e);refine⟨z,y,xs,r,o,es,ep,h1,h2,h3,h4,λ x hx=>?_,h5⟩
 have all:∀ {l:List (List Key×V)} {m:List (List Key×Addr×Value)},KT H l m->∀ x∈m,(tupleKind (aq P w)).is h x.1 x.2.1:=by
  intro l m q
  induction q with
  |nil=>intro x hx;exact nomatch hx
  | @cons p q ps qs hq t ih=>
   intro x hx;rcases abQ.mp hx with e|hx
   ·subst e;exact gW ok (by rw[← hq.1];exact hq.2.1)
   ·exact ih x hx
 exact all r x hx
theorem L0(ok:HOk P w H h)(e:H a=some (.dT kvs)):kvs.length<=sizeLine/\(a==sysModules)=false /\
  ∃ xs,KT H kvs xs/\h.DictOfH (tupleKind (aq P w)) a xs:=kG ok (.inl e)
end
def DGet(H:Hp)(a:Addr)(y:V)(r:Option V):Prop:=
 (∃ kvs k,Rd H a (.dK kvs)/\y=kV k/\r=gh kvs k)∨∃ kvs k b,Rd H a (.dT kvs)/\y=.ref b/\H b=some (.tup (k.map kV))/\r=gh kvs k
def Nw(H:Hp)(a:Addr)(y v:V)(H':Hp):Prop:=
 (∃ kvs k,H a=some (.dK kvs)/\y=kV k/\kvs.length<sizeLine/\H'=upd H a (.dK (gR kvs k v))) ∨
 ∃ kvs k b,H a=some (.dT kvs)/\y=.ref b/\H b=some (.tup (k.map kV))/\kvs.length<sizeLine/\H'=upd H a (.dT (gR kvs k v))
section
variable       {v:V} {r:Value}   
theorem Inv.big(I:Inv X pins σ H s):sysModules<s.heap.objs.size:=by
 have h:mainGlobals<s.heap.objs.size:=(I.mod.glob.keeps I.bk).lt;exact aca (by decide) h
theorem qZ(hu:A.units+1<cLine)(I:Inv X pins σ H s)(g:DGet H a y (some v))(ry:RelV y u)(h:∀ w' s',Inv X pins σ H s'->RelV v w'->Q w' s') :
  wpAny (model X.prog X.w) A (getItem (.ref a) u) Q E s:=by
 rcases g with ⟨kvs,k,e,ey,l⟩|⟨kvs,k,b,e,ey,eb,l⟩
 ·subst ey;obtain⟨z,hd,vs,rel,dd⟩:=gU I.hok e;obtain⟨w',hw,rw'⟩:=RelO.some_of (v:=v) (o:=valueAt vs k) (by rw[l];exact rel.val k);exact wpAny_getItem_of (gT ry) dd.mapOf hw (h w' _ (I.tok _) rw')
 ·subst ey;cases (show u=Value.ref b from ry);obtain⟨z,hd,xs,rel,dd⟩:=kG I.hok e;obtain⟨w',hw,rw'⟩:=RelO.some_of (v:=v) (o:=(atKey xs k).map (·.2)) (by rw[l];exact rel.val k);obtain⟨p,hp,hp2⟩:=ab8.mp hw;refine wpAny_getItem_heap (tupleKind_room_in1 hu) (gW I.hok eb) dd hp ?_;rw[hp2];exact h w' _ (I.tok _) rw'
theorem d_in(hu:A.units+1<cLine)(I:Inv X pins σ H s)(g:DGet H a y o)(ry:RelV y u)(h:∀ s',Inv X pins σ H s'->Q (.bool o.isSome) s') :
  wpAny (model X.prog X.w) A (compareOp .In u (.ref a)) Q E s:=by
 rcases g with ⟨kvs,k,e,ey,l⟩|⟨kvs,k,b,e,ey,eb,l⟩
 ·subst ey;obtain⟨z,hd,vs,rel,dd⟩:=gU I.hok e;refine wpAny_in_of (gT ry) hd dd.mapOf ?_;rw[← (rel.val k).isSome_eq,← l];exact h _ (I.tok _)
 ·subst ey;cases (show u=Value.ref b from ry);obtain⟨z,hd,xs,rel,dd⟩:=kG I.hok e;refine wpAny_in_heap (tupleKind_room_in1 hu) (gW I.hok eb) hd dd ?_;have q:=(rel.val k).isSome_eq;rw[Option.isSome_map] at q;rw[← q,← l];exact h _ (I.tok _)
theorem Cd(hu:A.units+1<cLine)(I:Inv X pins σ H s)(g:DGet H a y o)(ry:RelV y u)(h:∀ s',Inv X pins σ H s'->Q (.bool (!o.isSome)) s') :
  wpAny (model X.prog X.w) A (compareOp .NotIn u (.ref a)) Q E s:=by
 rcases g with ⟨kvs,k,e,ey,l⟩|⟨kvs,k,b,e,ey,eb,l⟩
 ·subst ey;obtain⟨z,hd,vs,rel,dd⟩:=gU I.hok e;refine wpAny_notIn_of (gT ry) hd dd.mapOf ?_;rw[← (rel.val k).isSome_eq,← l];exact h _ (I.tok _)
 ·subst ey;cases (show u=Value.ref b from ry);obtain⟨z,hd,xs,rel,dd⟩:=kG I.hok e;refine wpAny_notIn_heap (tupleKind_room_in1 hu) (gW I.hok eb) hd dd ?_;have q:=(rel.val k).isSome_eq;rw[Option.isSome_map] at q;rw[← q,← l];exact h _ (I.tok _)
theorem fO{ob:HO}(I:Inv X pins σ H s)(mu:Mut (H a))(hs:Heap.SameBut a s.heap h')(he:∃ q,h'.get? a=some q)(new:ObjOk X.prog X.w (upd H a ob) h' a ob) :
  Inv X pins σ (upd H a ob) { s with heap:=h',toks:=t' }:=
 I.write (x:=a) (e:=a) mu (.inl rfl) (λ b q hb z=>(hs.2 b hb).trans z) he new
theorem gX{kvs:List (Key×V)}{vs:List (Key×Value)}(z:kvs.length<=sizeLine)(hd:(a==sysModules)=false)(rel:KV kvs vs)(dd:h'.DictOf (aq P w) a vs) :
  ObjOk P w H' h' a (.dK kvs):=⟨z,hd,vs,rel,dd⟩
theorem q0{Q:Unit->Shared->Prop}(hu:A.units+1<cLine)(I:Inv X pins σ H s)(g:Nw H a y v H')(ry:RelV y u)(rv:RelV v r)(h:∀ s',Inv X pins σ H' s'->Q () s') :
  wpAny (model X.prog X.w) A (setItem (.ref a) u r) Q E s:=by
 rcases g with ⟨kvs,k,e,ey,l,eH⟩|⟨kvs,k,b,e,ey,eb,l,eH⟩
 ·subst ey eH;obtain⟨z,hd,vs,rel,dd⟩:=qY I.hok e;have hz:vs.length<=sizeLine:=by rw[← rel.length];exact z
  have hl:(gR kvs k v).length<=sizeLine:=by have:=eN kvs k v;nofun
  refine wpAny_setItem_pairs (hsz:=hz) (gT ry) dd λ h' dd' hs=>h _ ?_;have he:∃ q,h'.get? a=some q:=let ⟨q,_,_,hq,_⟩:=dd';⟨q,hq⟩;exact fO I (by rw[e];exact True.intro) hs he (gX hl hd (rel.put k rv) dd')
 ·subst ey eH;cases (show u=Value.ref b from ry);obtain⟨z,hd,xs,rel,dd⟩:=L0 I.hok e;have hz:xs.length<=sizeLine:=by rw[← aa1 rel];exact z
  have hl:(gR kvs k v).length<=sizeLine:=by have:=eN kvs k v;nofun
  refine wpAny_setItem_heap (hsz:=hz) (tupleKind_room_in1 hu) (gW I.hok eb) dd λ h' dd' hs=>h _ ?_;obtain⟨q,es,ep,hq,h2,h3,h4,_,h5⟩:=dd';refine fO I (by rw[e];exact True.intro) hs ⟨q,hq⟩ ⟨hl,hd,_,(rel.put k eb rv).keeps λ c ys ec=>?_,q,es,ep,hq,h2,h3,h4,h5⟩;rw[af (Ly ec e (λ z=>nomatch z))];exact ec
end
section
variable       {kvs:List (Key×V)}    
theorem G7{Q:Unit->Shared->Prop}(I:Inv X pins σ H s)(e:H a=some (.dK kvs))(ry:RelV (kV k) u)(l:(gh kvs k).isSome=true)(h:∀ s',Inv X pins σ (upd H a (.dK (iO kvs k))) s'->Q () s') :
  wpAny (model X.prog X.w) A (delItem (.ref a) u) Q E s:=by
 obtain⟨z,hd,vs,rel,dd⟩:=qY I.hok e
 refine wpAny_delItem_slot dd.typeIs (by decide) PySem.F.slot_dict_delitem
  (call_meetsIn PySem.F.slot_dict_delitem dd.typeIs PySem.F.entry_dict_delitem (PySem.F.args_dict_delitem_2 _ _) (meets_dict_delitem_pairs (aq X.prog X.w) a (gT ry)) ⟨vs,dd,by rw[← rel.length];exact z,by rw[← (rel.val k).isSome_eq];exact l,λ h' dd' hs=>h _ ?_⟩)
 have he:∃ q,h'.get? a=some q:=let ⟨q,_,_,hq,_⟩:=dd';⟨q,hq⟩;exact fO I (by rw[e];exact True.intro) hs he (gX (aau (m3 kvs k) z) hd (rel.drop k) dd')
theorem L3{v:V}{more:List Value}(I:Inv X pins σ H s)(e:H a=some (.dK kvs))(ry:RelV (kV k) u)(l:gh kvs k=some v)(hm:more=[]∨∃ x,more=[x])
  (h:∀ w' s',Inv X pins σ (upd H a (.dK (iO kvs k))) s'->RelV v w'->Q w' s'):wpAny (model X.prog X.w) A (call (.builtin "dict.pop") (.ref a::u::more)) Q E s:=by
 obtain⟨z,hd,vs,rel,dd⟩:=qY I.hok e;obtain⟨w',hw,rw'⟩:=RelO.some_of (v:=v) (o:=valueAt vs k) (by rw[← l];exact rel.val k)
 have hp:(keyPart u).isSome=true:=by
  cases k with
  |inl i=>obtain ⟨t,q⟩:=(show ∃ t,u=Value.int i t from ry);subst q;rfl
  |inr x=>obtain ⟨t,q⟩:=(show ∃ t,u=Value.str x t from ry);subst q;rfl
 have ha:argsOk "dict.pop" ⟨.ref a::u::more,[]⟩:=by
  rcases hm with q|⟨x,q⟩
  ·subst q;exact PySem.F.args_dict_pop_2 _ _
  ·subst q;exact PySem.F.args_dict_pop_3 _ _ _
 refine call_meetsIn PySem.F.slot_dict_pop dd.typeIs PySem.F.entry_dict_pop ha (meets_dict_pop_there (aq X.prog X.w) a (gT ry) more hm hp)
  ⟨vs,w',dd,by rw[← rel.length];exact z,hw,λ h' dd' hs=>h w' _ ?_ rw'⟩
 have he:∃ q,h'.get? a=some q:=let ⟨q,_,_,hq,_⟩:=dd';⟨q,hq⟩;exact fO I (by rw[e];exact True.intro) hs he (gX (aau (m3 kvs k) z) hd (rel.drop k) dd')
theorem L4(I:Inv X pins σ H s)(e:Rd H a (.dK kvs))(h:∀ t s',Inv X pins σ H s'->Q (.int kvs.length t) s'):wpAny (model X.prog X.w) A (call (.builtin "len") [.ref a]) Q E s:=by
 obtain⟨z,hd,vs,rel,dd⟩:=gU I.hok e;refine call_len_dict hd dd (by rw[← rel.length];rw[sizeLine_eq] at z;nofun) ?_;rw[← rel.length];exact h _ _ (I.tok _)
end
theorem md(I:Inv X pins σ H s)(g:DGet H a y o):s.TypeIs (.ref a) "dict" := by
 rcases g with ⟨kvs,k,e,_,_⟩|⟨kvs,k,b,e,_,_,_⟩
 ·obtain⟨_,_,vs,_,dd⟩:=gU I.hok e;exact dd.typeIs
 ·obtain⟨_,_,xs,_,dd⟩:=kG I.hok e;exact dd.typeIs
def wb(td ty tv:TE):TS:=λ D σ H=>tv σ H λ v H1=>td σ H1 λ x H2=>ty σ H2 λ y H3=>∃ a H4,x=.ref a/\Nw H3 a y v H4/\D.nx σ H4
section
variable  {o i value:Expr} {pos' tpos:Pos} 
theorem Ce(hu:X.A.units+1<cLine)(ho:PE X o td)(hi:PE X i ty)(hv:PE X value tv)(hs:swapsWith value (some (.Subscript o i pos')) pos.line X.env=pure false) :
  PS X (.Assign [.Subscript o i pos'] value pos) (wb td ty tv):=by
 intro pins s σ H D I h;refine wpAny_Assign_Subscript (thn (hv pins s σ H _ I h) λ r s1 ⟨v,H1,I1,rv,q1⟩=>thn (ho pins s1 σ H1 _ I1 q1) λ u s2 ⟨x,H2,I2,rx,q2⟩=>thn (hi pins s2 σ H2 _ I2 q2) λ iv s3 ⟨y,H3,I3,ry,a,H4,ex,g,q3⟩=>?_) hs;subst ex;obtain rfl:u=Value.ref a:=rx;exact q0 hu I3 g ry rv λ s4 I4=>⟨σ,H4,I4,q3⟩
end
theorem m6(h:Heap)(hb:sysModules<h.objs.size):ObjOk P w H (h.push { cls:=.type "dict", data:=.dict #[] }) h.objs.size (.dK []):=
 ⟨aaq _,beq_eq_false_iff_ne.mpr (abk (aak hb)),[],.nil,Heap.DictOf.new h⟩
theorem wc(h:Heap)(hb:sysModules<h.objs.size):ObjOk P w H (h.push { cls:=.type "dict", data:=.dict #[] }) h.objs.size (.dT []):=
 ⟨aaq _,beq_eq_false_iff_ne.mpr (abk (aak hb)),[],.nil,_,#[],0,Heap.get?_push_size _ rfl,⟨rfl,rfl,rfl⟩,rfl,rfl,aaB⟩
def ra:TE:=λ _ H Q=>∀ p,H p=none->Q (.ref p) (upd H p (.dK []))
def rb:TE:=λ _ H Q=>∀ p,H p=none->Q (.ref p) (upd H p (.dT []))
theorem we:PE X (.Dict [] [] pos) ra:=λ pins s σ H Q I h=>
 wpAny_Dict_empty ⟨.ref s.heap.objs.size,_,I.laid (a:=s.heap.objs.size) (o:=.dK []) (t':=s.toks) (λ _ _ q=>Heap.get?_push_of_some _ q) (aac _) (m6 s.heap I.big),rfl,h _ (I.hok.fresh (aac _))⟩
theorem wf:PE X (.Dict [] [] pos) rb:=λ pins s σ H Q I h=>
 wpAny_Dict_empty ⟨.ref s.heap.objs.size,_,I.laid (a:=s.heap.objs.size) (o:=.dT []) (t':=s.toks) (λ _ _ q=>Heap.get?_push_of_some _ q) (aac _) (wc s.heap I.big),rfl,h _ (I.hok.fresh (aac _))⟩
def rc:List (TE×TE)->St->Hp->(List (V×V)->Hp->Prop)->Prop
 |[],_,H,Q=>Q [] H
 |(tk,tv)::r,σ,H,Q=>tk σ H λ x H1=>tv σ H1 λ y H2=>rc r σ H2 λ ps H3=>Q ((x,y)::ps) H3
abbrev VV:List (V×V)->List (Value×Value)->Prop:=Paired λ p q=>RelV p.1 q.1/\RelV p.2 q.2
def PPs(X:Cx)(pos:Pos)(keys:List (Option Expr))(values:List Expr)(trs:List (TE×TE)):Prop:=
 ∀ (pins:List (Addr×Obj)) (s:Shared) (σ:St) (H:Hp) (Q:List (V×V)->Hp->Prop),Inv X pins σ H s->rc trs σ H Q ->
  wpAny (model X.prog X.w) X.A (evalPairs (pairTrees keys values X.env pos)) (λ vs s'=>∃ ps H',Inv X pins σ H' s'/\VV ps vs/\Q ps H') X.xe s
theorem Cf :PPs X pos [] [] []:=λ pins s σ H Q I h=>pairTrees_nil_walk ⟨[],H,I,.nil,h⟩
theorem wg{k v:Expr}{ks:List (Option Expr)}{vs:List Expr}{tk:TE}(hk:PE X k tk)(hv:PE X v tv)(hr:PPs X pos ks vs trs) :
  PPs X pos (some k::ks) (v::vs) ((tk,tv)::trs):=λ pins s σ H Q I h=>
 pairTrees_cons_walk (thn (hk pins s σ H _ I h) λ u s1 ⟨x,H1,I1,rx,q1⟩=>thn (hv pins s1 σ H1 _ I1 q1) λ w2 s2 ⟨y,H2,I2,ry,q2⟩=>
  thn (hr pins s2 σ H2 _ I2 q2) λ ws s3 ⟨ps,H3,I3,rel,q3⟩=>⟨(x,y)::ps,H3,I3,.cons ⟨rx,ry⟩ rel,q3⟩)
def e8(kvs more:List (Key×V)):List (Key×V):=more.foldl (λ acc kv=>gR acc kv.1 kv.2) kvs
theorem KV.merge:∀ {more:List (Key×V)} {rs:List (Key×Value)} {kvs:List (Key×V)} {vs:List (Key×Value)},KV more rs->KV kvs vs->KV (e8 kvs more) (merged vs rs):=by
 intro more rs kvs vs r;unfold KV at r
 induction r generalizing kvs vs with
 |nil=>intro q;exact q
 | @cons p q ps qs h t ih=>
  intro r0
  have e:KV (gR kvs p.1 p.2) (stored vs q.1 q.2):=by
   have:=r0.put p.1 h.2;rw[← h.1];exact this
  exact ih e
theorem de:∀ (more kvs:List (Key×V)),(e8 kvs more).length<=kvs.length+more.length
 |[],kvs=>by show kvs.length<=kvs.length+0;nofun
 | p::r,kvs=>by
  have h1:=de r (gR kvs p.1 p.2);have h2:=eN kvs p.1 p.2;show (e8 (gR kvs p.1 p.2) r).length<=_;rw[abO];nofun
theorem i4{P:Program}{w:World}:∀ {kvs:List (Key×V)} {ws:List (Value×Value)},VV (kvs.map λ kv=>(kV kv.1,kv.2)) ws->∃ rs,Carries (aq P w) ws rs/\KV kvs rs
 |[],_,r=>by rw[List.map_nil] at r;cases r;exact⟨[],True.intro,.nil⟩
 | p::kvs,_,r=>by
  rw[abM] at r
  cases r with
  | @cons a b as bs h t=>
   obtain⟨rs,c,q⟩:=i4 (P:=P) (w:=w) t;obtain⟨b1,b2⟩:=b;exact⟨(p.1,b2)::rs,⟨gT h.1,rfl,c⟩,.cons ⟨rfl,h.2⟩ q⟩
def Cg(trs:List (TE×TE)):TE:=λ σ H Q=>∀ p,H p=none->rc trs σ (upd H p (.dK [])) λ ps H2=>H2 p=some (.dK [])/\∃ kvs:List (Key×V),ps=kvs.map (λ kv=>(kV kv.1,kv.2))/\kvs.length<=15/\Q (.ref p) (upd H2 p (.dK (e8 [] kvs)))
theorem Ch{keys:List (Option Expr)}{values:List Expr}(h:PPs X pos keys values trs)(hall:keys.all (·.isSome)=true)(hl:keys.length=values.length)(h0:keys≠[])
  (h15:keys.length<=15):PE X (.Dict keys values pos) (Cg trs):=by
 intro pins s σ H Q I q;have hn:=I.hok.fresh (aac s.heap.objs.size);have I1:=I.laid (a:=s.heap.objs.size) (o:=.dK []) (h':=s.heap.push { cls:=.type "dict", data:=.dict #[] }) (t':=s.toks) (λ _ _ q=>Heap.get?_push_of_some _ q) (aac _) (m6 s.heap I.big);refine wpAny_Dict_walk (knd:=aq X.prog X.w) hall hl h0 h15 (thn (h pins _ σ _ _ I1 (q _ hn)) λ ws s2 ⟨ps,H2,I2,rel,e,kvs,ep,lk,q2⟩=>?_);subst ep;obtain⟨rs,c,rk⟩:=i4 (P:=X.prog) (w:=X.w) rel;obtain⟨z,hd,vs0,r0,dd⟩:=qY I2.hok e;cases r0;refine⟨rs,c,dd,λ h' dd' hs=>⟨.ref s.heap.objs.size,_,?_,rfl,q2⟩⟩
 have hz:(e8 [] kvs).length<=sizeLine:=by
  have h1:=de kvs [];rw[List.length_nil] at h1;rw[sizeLine_eq];nofun
 have he:∃ q,h'.get? s.heap.objs.size=some q:=let ⟨q,_,_,hq,_⟩:=dd';⟨q,hq⟩;exact fO I2 (by rw[e];exact True.intro) hs he (gX hz hd (rk.merge .nil) dd')
structure M1(X:Cx)(o:Expr)(m:Str)(apos:Pos)(e:Expr)(cpos:Pos):Prop where
 base:attributeBase o m X.env (eval o X.env)=eval o X.env
 few:((backTo cpos (starEach [e] X.env)).all (λ x=>!x.1)&&(backToKw cpos (keywordEach [] X.env)).all (λ x=>x.1.isSome)
  && decide (([e]:List Expr).length+([]:List Keyword).length+(if ([]:List Keyword).isEmpty then 0 else 1)<30))=true
 line:(apos.endLine==cpos.line)=true
 trees:backTo cpos (starEach [e] X.env)=[(false,eval e X.env)]
structure M2(X:Cx)(o:Expr)(m:Str)(apos:Pos)(e f:Expr)(cpos:Pos):Prop where
 base:attributeBase o m X.env (eval o X.env)=eval o X.env
 few:((backTo cpos (starEach [e,f] X.env)).all (λ x=>!x.1)&&(backToKw cpos (keywordEach [] X.env)).all (λ x=>x.1.isSome)
  && decide (([e,f]:List Expr).length+([]:List Keyword).length+(if ([]:List Keyword).isEmpty then 0 else 1)<30))=true
 line:(apos.endLine==cpos.line)=true
 trees:backTo cpos (starEach [e,f] X.env)=[(false,eval e X.env),(false,eval f X.env)]
def IsD(H:Hp)(a:Addr):Prop:=(∃ kvs,Rd H a (.dK kvs))∨∃ kvs,Rd H a (.dT kvs)
theorem m7(I:Inv X pins σ H s)(d:IsD H a) :
  s.TypeIs (.ref a) "dict" /\ (∀ b,Value.ref a=.ref b->∃ ob,s.heap.get? b=some ob/\ob.dict=none)/\(a==sysModules)=false:=by
 rcases d with ⟨kvs,e⟩|⟨kvs,e⟩
 ·obtain⟨_,hd,vs,_,dd⟩:=gU I.hok e;refine⟨dd.typeIs,λ b q=>?_,hd⟩;cases q;obtain⟨ob,_,_,h1,h2,_⟩:=dd;exact⟨ob,h1,h2.2.1⟩
 ·obtain⟨_,hd,xs,_,dd⟩:=kG I.hok e;refine⟨dd.typeIs,λ b q=>?_,hd⟩;cases q;obtain⟨ob,_,_,h1,h2,_⟩:=dd;exact⟨ob,h1,h2.2.1⟩
section
variable        {r:Value}   
theorem G8(hu:A.units+1<cLine)(I:Inv X pins σ H s)(g:DGet H a y o)(ry:RelV y u)(h:∀ w' s',Inv X pins σ H s'->RelV (o.getD .non) w'->Q w' s') :
  wpAny (model X.prog X.w) A (call (.builtin "dict.get") [.ref a,u]) Q E s:=by
 rcases g with ⟨kvs,k,e,ey,l⟩|⟨kvs,k,b,e,ey,eb,l⟩
 ·subst ey;obtain⟨z,hd,vs,rel,dd⟩:=gU I.hok e;refine call_meetsIn aa0 dd.typeIs aby (PySem.F.args_dict_get_2 _ _) (meets_dict_get (aq X.prog X.w) a (gT ry) hd) ⟨_,dd.mapOf,h _ _ (I.tok _) ?_⟩;rw[l];exact(rel.val k).getD rfl
 ·subst ey;cases (show u=Value.ref b from ry);obtain⟨z,hd,xs,rel,dd⟩:=kG I.hok e;refine call_meetsIn aa0 dd.typeIs aby (PySem.F.args_dict_get_2 _ _) (meetsH_dict_get (tupleKind (aq X.prog X.w)) a b hd) ⟨tupleKind_room_in1 hu,k,xs,gW I.hok eb,dd,h _ _ (I.tok _) ?_⟩;rw[l];exact(rel.val k).getD rfl
theorem G9(hu:A.units+1<cLine)(I:Inv X pins σ H s)(g:DGet H a y o)(ry:RelV y u)(rd:RelV d r)(h:∀ w' s',Inv X pins σ H s'->RelV (o.getD d) w'->Q w' s') :
  wpAny (model X.prog X.w) A (call (.builtin "dict.get") [.ref a,u,r]) Q E s:=by
 rcases g with ⟨kvs,k,e,ey,l⟩|⟨kvs,k,b,e,ey,eb,l⟩
 ·subst ey;obtain⟨z,hd,vs,rel,dd⟩:=gU I.hok e;refine call_meetsIn aa0 dd.typeIs aby (PySem.F.args_dict_get_3 _ _ _) (meets_dict_get_default (aq X.prog X.w) a (gT ry) hd r) ⟨_,dd.mapOf,h _ _ (I.tok _) ?_⟩;rw[l];exact(rel.val k).getD rd
 ·subst ey;cases (show u=Value.ref b from ry);obtain⟨z,hd,xs,rel,dd⟩:=kG I.hok e;refine call_meetsIn aa0 dd.typeIs aby (PySem.F.args_dict_get_3 _ _ _) (meetsH_dict_get_default (tupleKind (aq X.prog X.w)) a b hd r) ⟨tupleKind_room_in1 hu,k,xs,gW I.hok eb,dd,h _ _ (I.tok _) ?_⟩;rw[l];exact(rel.val k).getD rd
end
def re(td ty:TE):TE:=λ σ H Q=>td σ H λ x H1=>∃ a,x=.ref a/\IsD H1 a/\ty σ H1 λ y H2=>∃ o,DGet H2 a y o/\Q (o.getD .non) H2
def rf(td ty tx:TE):TE:=λ σ H Q=>td σ H λ x H1=>∃ a,x=.ref a/\IsD H1 a/\ty σ H1 λ y H2=>tx σ H2 λ z H3=>∃ o,DGet H3 a y o/\Q (o.getD z) H3
def m8(td ty:TE):TE:=λ σ H Q=>td σ H λ x H1=>∃ a,x=.ref a/\IsD H1 a/\ty σ H1 λ y H2=>∃ kvs k v,H2 a=some (.dK kvs)/\y=kV k/\gh kvs k=some v/\Q v (upd H2 a (.dK (iO kvs k)))
section
variable  {o f:Expr}  {tx:TE}
theorem wj(hu:X.A.units+1<cLine)(ho:PE X o td)(he:PE X e ty)(m:M1 X o "get" apos e cpos):PE X (.Call (.Attribute o "get" apos) [e] [] cpos) (re td ty):=by
 intro pins s σ H Q I h;refine wpAny_Call_method m.base m.few m.line aa7 aa0 PySem.F.type_dict_get (thn (ho pins s σ H _ I h) λ u s1 ⟨x,H1,I1,rx,a,ex,d,q1⟩=>?_);subst ex;obtain rfl:u=Value.ref a:=rx;obtain⟨t1,t2,_⟩:=m7 I1 d;refine⟨t1,t2,?_⟩;rw[m.trees];refine aaY rfl (abE (abw (thn (he pins s1 σ H1 _ I1 q1) λ iv s2 ⟨y,H2,I2,ry,ov,g,q2⟩=>Calls.spliced_nil ?_)));exact G8 hu I2 g ry λ w' s3 I3 rw'=>⟨_,H2,I3,rw',q2⟩
theorem wl(hu:X.A.units+1<cLine)(ho:PE X o td)(he:PE X e ty)(hf:PE X f tx)(m:M2 X o "get" apos e f cpos):PE X (.Call (.Attribute o "get" apos) [e,f] [] cpos) (rf td ty tx):=by
 intro pins s σ H Q I h;refine wpAny_Call_method m.base m.few m.line aa7 aa0 PySem.F.type_dict_get (thn (ho pins s σ H _ I h) λ u s1 ⟨x,H1,I1,rx,a,ex,d,q1⟩=>?_);subst ex;obtain rfl:u=Value.ref a:=rx;obtain⟨t1,t2,_⟩:=m7 I1 d;refine⟨t1,t2,?_⟩;rw[m.trees]
 refine aaY rfl (abE (abw (thn (he pins s1 σ H1 _ I1 q1) λ iv s2 ⟨y,H2,I2,ry,q2⟩=>
  abw (thn (hf pins s2 σ H2 _ I2 q2) λ fv s3 ⟨z,H3,I3,rz,ov,g,q3⟩=>Calls.spliced_nil ?_))))
 exact G9 hu I3 g ry rz λ w' s4 I4 rw'=>⟨_,H3,I4,rw',q3⟩
theorem wm(ho:PE X o td)(he:PE X e ty)(m:M1 X o "pop" apos e cpos):PE X (.Call (.Attribute o "pop" apos) [e] [] cpos) (m8 td ty):=by
 intro pins s σ H Q I h;refine wpAny_Call_method m.base m.few m.line aa7 PySem.F.slot_dict_pop PySem.F.type_dict_pop (thn (ho pins s σ H _ I h) λ u s1 ⟨x,H1,I1,rx,a,ex,d,q1⟩=>?_);subst ex;obtain rfl:u=Value.ref a:=rx;obtain⟨t1,t2,_⟩:=m7 I1 d;refine⟨t1,t2,?_⟩;rw[m.trees];refine aaY rfl (abE (abw (thn (he pins s1 σ H1 _ I1 q1) λ iv s2 ⟨y,H2,I2,ry,kvs,k,v,ea,ey,l,q2⟩=>Calls.spliced_nil ?_)));subst ey;exact L3 I2 ea ry l (.inl rfl) λ w' s3 I3 rw'=>⟨v,_,I3,rw',q2⟩
end
section
variable       {kvs:List (Key×V)}  
theorem wn(I:Inv X pins σ H s)(e:Rd H a (.dK kvs))(h:∀ p s',H p=none->Inv X pins σ (upd H p (.dK kvs)) s'->Q (.ref p) s'):wpAny (model X.prog X.w) A (call (.type "dict") [.ref a]) Q E s:=by
 obtain⟨z,hd,vs,rel,dd⟩:=gU I.hok e;refine kt_call_dict hd dd (by rw[← rel.length];exact z) λ h' dd' hs=>?_;refine h _ _ (I.hok.fresh (aac _)) (I.laid (a:=s.heap.objs.size) (o:=.dK kvs) (t':=s.toks) (λ b q hq=>?_) (aac _) (gX z (beq_eq_false_iff_ne.mpr (abk (aak I.big))) rel dd'));exact(hs.2 b (aak (aah hq))).trans (Heap.get?_push_of_some _ hq)
end
end L2
namespace Att
open PySem PySem.W PySem.Calls PyProof.Rows
variable{P:Params}{h:Heap}{n:Nat}
theorem gY :∀ (ns:List Int) (vs:List Value),WellAll P h vs (ns.map WData.int)->IntsAre vs ns:=by
 intro ns
 induction ns with
 | nil=>
  intro vs w;rw[List.map_nil] at w;cases w;exact .nil
 | cons n ns ih=>
  intro vs w;rw[abM] at w
  cases w with
  | cons a b=>
   cases a;exact .cons _ _ (ih _ b)
theorem rh{l:OpenLaw}(hn:l.most=some n){args:List WData}{vals:List Value}
  (hpre:l.row.toRowW.claim.pre args=true) (hwl:WellAll P h vals args) :
  ∃ a vs ns,vals=[Value.ref a]/\args=[WData.list (ns.map WData.int)]/\h.get? a=some { cls:=.type "list", data:=.seq vs.toArray }/\IntsAre vs ns/\ns.length<=n:=by
 have hsh:WShape.hasAll [] args [.list .int]=true:=(pre_splitW hpre).1;have hc:l.pre.holds [] { args:=args }=true:=(pre_splitW hpre).2;obtain⟨d,r,rfl,h1,h2⟩:=hasAllW_cons hsh;obtain rfl:=hasAllW_nil h2;obtain⟨xs,rfl,h3⟩:=hasW_list h1;obtain⟨ns,rfl⟩:=items_int h3
 have hlen:ns.length<=n:=by
  unfold OpenLaw.pre at hc
  have h4:(WTm.not (.lt (.lit (.int (n:Int))) (.len (.arg 0)))).holds [] { args:=[.list (ns.map .int)] }=true:=by
   have h4:=(holds_andW hc).1;rw[hn] at h4;exact h4
  have h5:=condW_of h4 (w_not (w_lt w_lit (w_len_list (w_arg rfl))));rw[abK] at h5;refine Nat.le_of_not_lt λ q=>?_;have q':(n:Int)<((ns.length:Nat):Int):=by nofun
  first
   |(rw[decide_eq_true q'] at h5;exact absurd h5 (by decide))
   |(simp at h5;nofun)
 cases hwl with
 | cons w1 w2=>
  cases w2
  cases w1 with
  |list ho hall=>exact ⟨_,_,ns,rfl,rfl,ho,gY ns _ hall,hlen⟩
theorem rj(l:OpenLaw)(args:List WData):l.row.toRowW.claim.post args (.bool true) args=true:=
 postW_of (r:=l.row.toRowW) (X:=(true==true))
  (show WShape.has [] (.bool true) .bool=true by first|rfl|decide|simp[WShape.has,WShape.arms,WShape.armsAll])
  (show (WTm.eq .res (.lit (.bool true))).value [] { args:=args,res:=some (.bool true),after:=args }=some (.bool (true==true)) from w_eq_bool (w_res rfl) w_lit) rfl
theorem attach_call{l:OpenLaw}{q:Program}{loose:List Str}{XP:(Str->Option Value)->Heap->Prop}{YP:World->Heap->Prop}{d:DefRec}
  (hn:l.most=some n) (hdf:d.params.defaults=[])
  (call:∀ (w:World) (s₀ s₁:Shared) (mg mb:Str->Option Value) (fa:Addr) (o:Obj) (pm cd doc:Value) (a:Addr) (vs:List Value) (ns:List Int),
   Ground q loose [] XP w s₀ mg mb s₁.heap->YP w s₁.heap ->
   s₁.heap.get? fa=some o->o.data=.func (docDef d.name d.params d.body d.scope pm cd doc)->s₁.heap.CodeRec cd d.name->mg d.name=some (.ref fa) ->
   s₁.heap.get? a=some { cls:=.type "list", data:=.seq vs.toArray }->IntsAre vs ns->ns.length<=n->s₁.gens=#[] ->
   codeAny (model l.prog w) callerA (.call (.ref fa) ⟨[.ref a],[]⟩) (λ r s'=>r=.ok (.ret (.bool true))/\OldK s₁.heap s'.heap/\s'.os=s₁.os/\AllBare s'.gens) s₁) :
  WalkO q loose XP YP l.row.toRowW d [] (λ f vs=>PySem.call f vs):=by
 intro w s₀ s₁ mg mb G Y fa o pm cd doc dV kV ho hd hcd hD hmg hg args vals as hpre hlay hrd hwl hlo;obtain rfl:dV=.none:=Dflts.none hD hdf;obtain rfl:kV=.none:=Dflts.noKw hD;obtain⟨a,vs,ns,rfl,rfl,hobj,hints,hlen⟩:=rh hn hpre hwl;refine enter_call (codeAny_mono (call w s₀ s₁ mg mb fa o pm cd doc a vs ns G Y ho (fd_plain hd) hcd hmg hobj hints hlen hg) λ r s' hq=>?_);obtain⟨rfl,h2,h3,h4⟩:=hq;exact⟨.inl ⟨.bool true,.bool true,[],rfl,λ _=>rfl,.bool true,rj l _,λ _=>⟨List.Pairwise.nil,λ _ hm=>(nomatch hm)⟩⟩,h2,h3,h4⟩
section
variable {prog:Program} {w:World} {A:Around} {E:Value->Shared->Prop} {s:Shared} {K:Frag}
def rl(h:Heap):Heap:={ h with objs:=#[] }
theorem noObjs_get(h:Heap)(b:Addr):(rl h).get? b=none:=by
 cases e:(rl h).get? b with
 |none=>rfl
 |some o=>exact absurd (aah e) (Nat.not_lt_zero _)
theorem fr_all{L:Addr}{m:Str->Option Value}(n:h.Ns L m):Fr (rl h) L h m:=
 ⟨n,λ b o e=>(by rw[noObjs_get] at e;cases e),aaq _⟩
end
end Att
namespace L2
open PySem PySem.Spec PyProof.Rows
variable{P:Program}{w:World}{mg:Str->Option Value}{k:Nat}{a f p:Addr}{fd:FuncData}{x qual y:Str}{sp:Sp}{X:Cx}{st:Stmt}{ps T F:List Str}{A:Around}{H H':Hp}{xs:List V}{E:Value->Shared->Prop}{s:Shared}{elt iter tg:Expr}{ifs:List Expr}{scope:Scope}{pos:Pos}{env:Env}{pins:List (Addr×Obj)}{σ:St}{ixs:List Nat}{v:V}{wi:TI}{g:TG}{tc:TT}{te:TE}{Q:VK}
theorem kH:∀ {vs:List Value} {ns:List Int},IntsAre vs ns->Vals (ns.map V.int) vs
 |_,_,.nil=>.nil
 |_,_,.cons n t h=>.cons ⟨t,rfl⟩ (kH h)
def L5(H:Hp):Prop:=∀ b,H b=none∨∃ o xs,H b=some (.frz o (.lst xs))
theorem wo{K:Frag}{mb:Str->Option Value}{CX:CXT}{fa:Addr}{s₁:Shared}{vs:List Value}{ns:List Int}
  (KX:K.In s₁.heap) (hns:s₁.heap.Ns mainGlobals mg) (hb:s₁.heap.Ns builtinsNs mb) (hbb:∀ x:Str,x ≠ "__name__" -> mb x=bootBuiltins x) (hlim:s₁.heap.NoLimit) (hg:s₁.gens=#[])
  (ha:s₁.heap.get? a=some { cls:=.type "list", data:=.seq vs.toArray }) (hi:IntsAre vs ns) (hl:ns.length<=sizeLine) (hr:Room k callerA)
  (F:∀ base:Heap,K.In base->base.Ns mainGlobals mg->FnOk P w K mg base CX k fa fd [x] sp) (hbind:∀ (s:Shared) (u:Value),BindsTo s fd ⟨[u],[]⟩ [(x,u)])
  (hsp:∀ H:Hp,L5 H->SqL K H a (ns.map V.int)->sp [.ref a] H (λ v _=>v=.bl true) λ _ _ _=>False)
  (hCX:∀ H e s',CX [] H s₁ (λ _ _ _=>False) e s'->False) :
  codeAny (model P w) callerA (.call (.ref fa) ⟨[.ref a],[]⟩) (λ r s'=>r=.ok (.ret (.bool true))/\OldK s₁.heap s'.heap/\s'.os=s₁.os/\AllBare s'.gens) s₁:=by
 have rv:=kH hi;have lenV:=hi.length
 -- from an abstract heap in which nothing but the script may be tracked
 have core:∀ H:Hp,L5 H->SqL K H a (ns.map V.int)->HOk P w H s₁.heap->(∀ b,H b≠none->b=a)->(H a≠none->K.lookup a=none) ->
   codeAny (model P w) callerA (.call (.ref fa) ⟨[.ref a],[]⟩) (λ r s'=>r=.ok (.ret (.bool true))/\OldK s₁.heap s'.heap/\s'.os=s₁.os/\AllBare s'.gens) s₁:=by
  intro H hO hS hok hA hK;have base_of:∀ {b:Addr} {o:Obj},s₁.heap.get? b=some o->H b=none->(vK s₁.heap H).get? b=some o:=λ e n=>vL e n
  have noA:∀ {b:Addr} {o:Obj} {es:Array DictEntry} {ep:Nat},s₁.heap.get? b=some o->o.data=.dict es ep->H b=none:=fun {b o es ep} e d=>by
   cases q:H b with
   |none=>rfl
   | some u=>
    have e':b=a:=hA b (by rw[q];simp);subst e';rw[ha] at e;cases e;have d':Data.seq vs.toArray _=Data.dict es ep:=d;cases d'
  have nsK:∀ {b:Addr} {m:Str->Option Value},s₁.heap.Ns b m->(vK s₁.heap H).Ns b m:=fun {b m} ⟨o,es,ep,e,d,r⟩=>⟨o,es,ep,base_of e (noA e d),d,r⟩
  have hKb:K.In (vK s₁.heap H):=λ b o e=>base_of (KX b o e) (by
   cases q:H b with
   |none=>rfl
   | some u=>
    have e':b=a:=hA b (by rw[q];simp);subst e';rw[hK (by rw[q];simp)] at e;cases e)
  have hM:Mod K mg (vK s₁.heap H):=⟨hKb,nsK hns,⟨mb,nsK hb,hbb⟩,let ⟨mc,h1,h2⟩:=hlim;⟨mc,nsK h1,h2⟩⟩;have e0:Env0 P w K mg (vK s₁.heap H) callerA [] s₁ H:=⟨rfl,hM,λ b o e=>Bm e,Nat.le_of_eq (qx _ _),trivial,λ b hb=>absurd (show b∈([]:List Addr) from hb) (by simp),hok,.of_eq hg⟩;refine codeAny_mono ((F _ hKb (nsK hns)).run callerA [] s₁ H ⟨[.ref a],[]⟩ [.ref a] [.ref a] _ _ hr e0 (hbind s₁ (.ref a)) (.cons rfl .nil) (hsp H hO hS)) λ r s' h=>?_
  cases r with
  |error e=>exact (hCX H e s' h).elim
  | ok fl=>
   cases fl with
   |next=>exact False.elim h
   |brk=>exact False.elim h
   |cont=>exact False.elim h
   | ret u=>
    obtain⟨v,H',os,bare,un,hok',r',q⟩:=h;have q':v=.bl true:=q;subst q';obtain rfl:u=Value.bool true:=r';refine⟨rfl,OldK.of_keep λ b o e=>?_,os,bare⟩
    cases q:H b with
    |none=>exact un.keep b o e q (by intro z;exact absurd (show b∈([]:List Addr) from z) (by simp)) (by simp)
    | some u=>
     rcases hO b with z|⟨ob,xs,z⟩
     ·rw[q] at z;cases z
     ·have z2:=un.frzs b ob _ z;obtain⟨e1,_⟩:=hok b _ z;obtain⟨e2,_⟩:=hok' b _ z2;rw[e] at e1;cases e1;exact e2
 cases hk:K.lookup a with
 | some o=>
  -- the script is one of the module's own objects
  have e:=KX a o hk;rw[ha] at e;cases e;refine core (λ _=>none) (λ _=>.inl rfl) (.inr ⟨_,vs.toArray,_,hk,rfl,rfl,rfl,by rw[abT,lenV];exact hl,(by exists rv)⟩) (λ b u z=>by have z':(none:Option HO)=some u:=z;cases z') (λ b z=>absurd rfl z) λ z=>absurd rfl z
 | none=>
  refine core (λ b=>if b=a then some (.frz { cls:=.type "list", data:=.seq vs.toArray } (.lst (ns.map V.int))) else none) (λ b=>?_) (.inl (.inr ⟨{ cls:=.type "list", data:=.seq vs.toArray },if_pos rfl⟩)) (λ b u z=>?_) (λ b z=>?_) λ _=>hk
  ·by_cases hb:b=a
   ·exact .inr ⟨_,_,if_pos hb⟩
   ·exact .inl (if_neg hb)
  ·by_cases hb:b=a
   ·have z':=(if_pos hb).symm.trans z;cases z';subst hb;exact⟨ha,by rw[abK];exact hl,vs,_,rv,ha⟩
   ·have z':=(if_neg hb).symm.trans z;cases z'
  ·by_cases hb:b=a
   ·exact hb
   ·exact absurd (if_neg hb) z
theorem walk_of{l:PySem.W.OpenLaw}{n:Nat}{q:Program}{loose:List Str}{XP:(Str->Option Value)->Heap->Prop}{YP:World->Heap->Prop}{d:DefRec}{K:Params->Frag}{CX:World->CXT}{sp:World->Sp}
  (hn:l.most=some n) (hn2:n<=sizeLine) (hdf:d.params.defaults=[]) (hr:Room k callerA)
  (hY:∀ (w:World) (h:Heap),YP w h->(K w.params).In h)
  (F:∀ (w:World) (mg:Str->Option Value) (fa:Addr) (h:Heap),(K w.params).In h->h.Ns mainGlobals mg->mg d.name=some (.ref fa) ->
   ∃ fd:FuncData,(∀ (s:Shared) (u:Value),BindsTo s fd ⟨[u],[]⟩ [(x,u)]) /\
    ∀ base:Heap,(K w.params).In base->base.Ns mainGlobals mg->FnOk l.prog w (K w.params) mg base (CX w) k fa fd [x] (sp w))
  (hsp:∀ (w:World) (H:Hp) (a:Addr) (ns:List Int),ns.length<=n->L5 H->SqL (K w.params) H a (ns.map V.int)->sp w [.ref a] H (λ v _=>v=.bl true) λ _ _ _=>False)
  (hCX:∀ (w:World) (H:Hp) (s:Shared) (e:Value) (s':Shared),CX w [] H s (λ _ _ _=>False) e s'->False) :
  PySem.W.WalkO q loose XP YP l.row.toRowW d [] (λ f vs=>PySem.call f vs):=by
 refine Att.attach_call hn hdf λ w s₀ s₁ mg mb fa o pm cd doc a vs ns G Y ho hd hcd hmg hobj hints hlen hg=>?_;have KX:=hY w _ Y;obtain⟨fd,hb,hF⟩:=F w mg fa _ KX G.T.g hmg;exact wo KX G.T.g G.T.b G.T.builtins G.T.nolimit hg hobj hints (aau hlen hn2) hr hF hb (λ H hO hS=>hsp w H a ns hlen hO hS) λ H e s'=>hCX w H s₁ e s'
def cG(s:Stmt):Arguments:=match s with
 |.FunctionDef _ a _ _ _ _ _ _ _ _=>a
 |_=>{ posonlyargs:=[],args:=[],vararg:=none,kwonlyargs:=[],kw_defaults:=[],kwarg:=none,defaults:=[] }
def bF(s:Stmt):List Stmt:=match s with
 |.FunctionDef _ _ b _ _ _ _ _ _ _=>b
 |_=>[]
def au(s:Stmt):Scope:=match s with
 |.FunctionDef _ _ _ _ _ _ sc _ _ _=>sc
 |_=>{ kind:=.function,names:=[],isGenerator:=false,isCoroutine:=false }
abbrev CX0:CXT:=λ _ _ _ _ _ _=>False
abbrev E0:XK:=λ _ _ _=>False
theorem wq :gN CX0 X E0:=λ _ _ _ _ _ _ _ h=>h.elim
structure Fun(K:Frag)(x qual:Str)(st:Stmt)(f:Addr)(fd:FuncData):Prop where
 ex:∃ (oc:Value) (od:Option Addr) (kV doc pm:Value) (an:Option Addr) (cdv ct:Value) (osl:Array (Option Value)),
  fd=PySem.W.fnOf x qual (cG st) (bF st) (au st) .none kV doc pm an cdv ct/\K.lookup f=some ⟨oc,od,.func fd,osl⟩/\PySem.W.codeIn K cdv qual=true
 kp:PySem.W.keepIn K (.ref f)=true
section
variable   {K:Frag}  {base:Heap}
theorem Fun.ok{N:List Str}(F:Fun K x qual st f fd)(S:FnScope N ps (au st))(len:∀ vs H Q E,sp vs H Q E->vs.length=ps.length)
  (hbody:∀ (cdv:Value) (A:Around) (outer:List Env) (s:Shared) (H:Hp) (vs:List V) (Q:VK) (E:XK),Room k (A.deeper (envOfC qual (au st) s.heap.objs.size f cdv))->sp vs H Q E ->
   ∃ t,PSs (qT CX0 P w K mg base N qual (au st) f cdv A outer s H E).nox (bF st) t/\t { nx:=λ _ H'=>Q .non H',rt:=Q } (start N vs) H):FnOk P w K mg base CX0 (k+1) f fd ps sp:=by
 obtain⟨oc,od,kV,doc,pm,an,cdv,ct,osl,rfl,lk,hcd⟩:=F.ex;refine LW lk hcd S len λ A outer s H vs Q E hr hsp=>?_;obtain⟨t,h,q⟩:=hbody cdv A outer s H vs Q E hr hsp;exact⟨t,h.nox,q⟩
theorem Fun.binds(F:Fun K x qual st f fd)
  (h:∀ (kV doc pm:Value) (an:Option Addr) (cdv ct:Value) (us:List Value),us.length=ps.length->bindArgs (PySem.W.fnOf x qual (cG st) (bF st) (au st) .none kV doc pm an cdv ct) ⟨us,[]⟩=pure (ps.zip us)):Binds K fd ps []:=by
 obtain⟨oc,od,kV,doc,pm,an,cdv,ct,osl,rfl,lk,hcd⟩:=F.ex;exact .all (h kV doc pm an cdv ct)
theorem Ak{oc:Value}{od an:Option Addr}{osl:Array (Option Value)}{kV doc pm cdv ct:Value}(l:K.lookup f=some ⟨oc,od,.func (PySem.W.fnOf x qual (cG st) (bF st) (au st) .none kV doc pm an cdv ct),osl⟩)
  (c:PySem.W.codeIn K cdv qual=true) (k:PySem.W.keepIn K (.ref f)=true):Fun K x qual st f (PySem.W.fnOf x qual (cG st) (bF st) (au st) .none kV doc pm an cdv ct):=⟨⟨oc,od,kV,doc,pm,an,cdv,ct,osl,rfl,l,c⟩,k⟩
end
theorem L6(hr:Room k A):A.units+1<cLine:=Nat.lt_of_le_of_lt (Nat.add_le_add_left (by decide:1<=64) _) hr.units
def Same(H H':Hp):Prop:=∀ b o,H b=some o->H' b=some o
theorem Same.refl(H:Hp):Same H H:=λ _ _ h=>h
theorem Same.trans{H1 H2:Hp}(a:Same H H1)(b:Same H1 H2):Same H H2:=λ c o h=>b c o (a c o h)
theorem Same.free(e:Same H H'){l:Addr}(h:H' l=Option.none):H l=Option.none:=by
 cases q:H l with
 |none=>rfl
 | some o=>
  rw[e l o q] at h;cases h
theorem Same.seq{K:Frag}(e:Same H H')(h:SqL K H a xs):SqL K H' a xs:=by
 rcases h with (h|⟨o,h⟩)|h
 ·exact .inl (.inl (e _ _ h))
 ·exact .inl (.inr ⟨o,e _ _ h⟩)
 ·exact .inr h
section
variable {κ:Type} [DecidableEq κ]
end
section
variable {prog:Program}    {R:Result->Shared->Prop} 
theorem kI{target:Expr}{it acc:Value}(I:Nat->Shared->Prop)
  (turn:∀ n s,I n s->wpAny (model prog w) A (pyNext it) (λ r s₁=>match r with
   |none=>R (.ok .next) s₁
   | some v=>wpAny (model prog w) A (letOwnedTupleGo target it v) (λ _ s₁'=>wpAny (model prog w) A (assign target env v) (λ _ s₂=>
     wpAny (model prog w) A (forIn ifs true λ c r=>if r=true then do let ok ← isTrue c env (eval c env);pure (ForInStep.yield ok) else pure (ForInStep.yield r)) (λ ok s₃=>
      if ok=true then wpAny (model prog w) A (eval elt env) (λ x s₄=>
       wpAny (model prog w) A (call (.builtin "list.append") [acc,x]) (λ _ s₅=>∃ m,m<n/\I m s₅) (λ _ _=>False) s₄) (λ _ _=>False) s₃
      else ∃ m,m<n/\I m s₃) (λ _ _=>False) s₂) (λ _ _=>False) s₁') (λ _ _=>False) s₁) (λ _ _=>False) s)
  (n:Nat) (h:I n s) :
  codeAny (model prog w) A (.compLoop (.ListComp elt [⟨target,iter,ifs,0⟩] scope pos) 0 it acc env) R s:=by
 refine codeAny_loop rfl I (λ n s hI=>?_) n h;show wpAny _ A ((compTurn (.ListComp elt [⟨target,iter,ifs,0⟩] scope pos) 0 it acc env).onRaise (λ x=>do noteFrame x env;theTreesLotGoes x)) _ _ s;refine wpAny_noted ?_;rw[compTurn_list];refine aaa (wpAny_standAt (aaa (abu (turn n s hI) (λ r s₁ h₁=>?_) λ _ _ h'=>h'.elim)))
 cases r with
 |none=>exact aae h₁
 | some v=>
  refine aaa (abu h₁ (λ _ s₁' h₁'=>?_) λ _ _ h'=>h'.elim);refine aaa (abu h₁' (λ _ s₂ h₂=>aaa (abu h₂ (λ ok s₃ h₃=>?_) λ _ _ h'=>h'.elim)) λ _ _ h'=>h'.elim)
  cases ok with
  |false=>exact aae ⟨rfl,h₃⟩
  | true=>
   exact aaa (aaa (abu h₃ (λ x s₄ h₄=>aaa (abu h₄ (λ _ s₅ h₅=>aae (aae ⟨rfl,h₅⟩)) λ _ _ h'=>h'.elim)) λ _ _ h'=>h'.elim))
end
def Gf(X:Cx)(ifs:List Expr)(t:TT):Prop:=
 ∀ (pins:List (Addr×Obj)) (s:Shared) (σ:St) (H:Hp) (Q:Bool->Hp->Prop),Inv X pins σ H s->t σ H Q ->
  wpAny (model X.prog X.w) X.A (forIn ifs true λ c r=>if r=true then do let ok ← isTrue c X.env (eval c X.env);pure (ForInStep.yield ok) else pure (ForInStep.yield r)) (TP X pins σ Q) X.xe s
def L7:TT:=λ _ H Q=>Q true H
theorem Ci :Gf X [] L7:=λ _ _ _ H _ I h=>wpAny_tests_nil ⟨H,I,h⟩
theorem Cj{c:Expr}{t:TT}(h:PT X c t):Gf X [c] t:=λ pins s σ H Q I q=>wpAny_tests_one (h pins s σ H Q I q)
def bC(X:Cx)(N:List Str)(scope:Scope)(cl:List (Str×Addr))(C:Addr)(s:Shared)(H:Hp)(fp:List Addr):Cx:=
 { X with N:=N,s₀:=s,H₀:=H,env:=compEnvC scope cl C X.env,outer:=X.stack,ex:=fp,fn:=λ _=>false,pn:=[],xe:=λ _ _=>False }
def kJ(σ:St)(ixs:List Nat):St:=ixs.map λ i=>(σ[i]?).getD none
structure CompScope(X:Cx)(T F:List Str)(ixs:List Nat)(scope:Scope):Prop where
 kind:scope.kind=.function
 nocell:∀ y∈scope.names,y.2≠.cell
 names:∀ y∈scope.names,y.2=.local->scope.names.lookup y.1=some .local
 cap:∀ (j:Nat) (i:Nat) (x:Str),ixs[j]?=some i->F[j]?=some x->X.N[i]?=some x/\scope.names.lookup x=some .free
 len:ixs.length=F.length
 out:∀ y∈scope.names,y.2=.free->X.env.scope.names.lookup y.1=some .cell∨X.env.scope.names.lookup y.1=some .free
def aM(env:Env):List (Str×NameKind)->List (Str×Addr)->List (Str×Addr)
 |[],cs=>cs
 |(n,k)::r,cs=>if k==.free then aM env r ((n,(env.cells.lookup n).getD 0)::cs) else aM env r cs
theorem jy(h:∀ y∈scope.names,y.2=.free->∃ c,env.cells.lookup y.1=some c):closureFor scope env=pure (aM env scope.names []):=by
 unfold closureFor
 have gen:∀ (l:List (Str×NameKind)) (cs:List (Str×Addr)),(∀ y∈l,y.2=.free->∃ c,env.cells.lookup y.1=some c) ->
   (do
    let mut cs:=cs
    for (name,kind) in l do
     if kind==.free then cs:=(name,← cellOf env name)::cs
    return cs:Sem (List (Str×Addr)))=pure (aM env l cs):=by
  intro l
  induction l with
  |nil=>intro cs _;rfl
  | cons p r ih=>
   intro cs hl;obtain⟨n,k⟩:=p;have hr:=λ y hy=>hl y (aad _ hy);by_cases hk:k=.free
   ·obtain⟨c,hc⟩:=hl (n,k) aab hk;have hc:env.cells.lookup n=some c:=hc;have e:=ih ((n,(env.cells.lookup n).getD 0)::cs) hr;subst hk;simp only[aM,List.forIn_cons,hc,cellOf] at e ⊢;simpa using e
   ·have e:=ih cs hr;have hk':(k==NameKind.free)=false:=(by exists hk);simp only[aM,List.forIn_cons,hk',if_neg Bool.false_ne_true] at e ⊢;simpa using e
 exact gen scope.names [] h
theorem dg{env:Env}:∀ {l:List (Str×NameKind)} {cs:List (Str×Addr)} {x:Str} {c:Addr},(∀ y∈l,y.2=.free->∃ c,env.cells.lookup y.1=some c)->(∀ x c,cs.lookup x=some c->env.cells.lookup x=some c) ->
  (aM env l cs).lookup x=some c->env.cells.lookup x=some c
 |[],cs,x,c,_,hc,h=>hc x c h
 | (n,k)::r,cs,x,c,hl,hc,h=>by
  have hr:=λ y hy=>hl y (aad _ hy);unfold aM at h;split at h
  ·rename_i hk;have hk':k=.free:=(by exists hk);obtain⟨c0,h0⟩:=hl (n,k) aab hk';have h0:env.cells.lookup n=some c0:=h0;refine dg hr (λ x' c' h'=>?_) h;rw[aaG] at h';split at h'
   ·rename_i e;have e:x'=n:=(by exists e);subst e;rw[h0] at h' ⊢;simpa using h'
   ·exact hc x' c' h'
  ·exact dg hr hc h
theorem dW{env:Env}:∀ {l:List (Str×NameKind)} {cs:List (Str×Addr)} {x:Str},((x,NameKind.free)∈l∨∃ c,cs.lookup x=some c)->∃ c,(aM env l cs).lookup x=some c
 | [],cs,x,h=>by
  rcases h with h|h
  ·cases h
  ·exact h
 | (n,k)::r,cs,x,h=>by
  unfold aM;split
  ·rename_i hk;have hk':k=.free:=(by exists hk);refine dW ?_;rcases h with h|h
   ·rcases abQ.mp h with e|h
    ·have e:x=n:=by injection e
     subst e;exact .inr ⟨(env.cells.lookup x).getD 0,by rw[aaG];simp⟩
    ·exact .inl h
   ·obtain⟨c,h⟩:=h;refine .inr ?_;rw[aaG];split
    ·exact⟨_,rfl⟩
    ·exact⟨c,h⟩
  ·rename_i hk;refine dW ?_;rcases h with h|h
   ·rcases abQ.mp h with e|h
    ·have e:NameKind.free=k:=by injection e
     subst e;simp at hk
    ·exact .inl h
   ·exact .inr h
theorem dh{env:Env}:∀ {names:List (Str×NameKind)} {x:Str} {q:NameKind},
  (names.map λ (n,k)=>if (k==NameKind.free&&env.scope.kind==.function&&env.kindOf n==some .cell) then (n,NameKind.cell) else (n,k)).lookup x=some q ->
  names.lookup x=some q∨(q=.cell/\names.lookup x=some .free)
 |[],_,_,h=>by simp at h
 | (n,k)::r,x,q,h=>by
  have ih:=@dh env r x q;rw[abM] at h;dsimp only at h;by_cases hc:(k==NameKind.free&&env.scope.kind==.function&&env.kindOf n==some .cell)=true
  ·rw[if_pos hc,aaG] at h;rw[aaG]
   cases hx:x==n with
   | true=>
    rw[hx] at h
    have hk:k=.free:=by
     simp only[Bool.and_eq_true] at hc;simpa using hc.1.1
    exact .inr ⟨(aaj h).symm,by rw[hk]⟩
   |false=>rw[hx] at h;exact ih h
  ·rw[if_neg hc,aaG] at h;rw[aaG]
   cases hx:x==n with
   |true=>rw[hx] at h;exact .inl h
   |false=>rw[hx] at h;exact ih h
theorem gk{env:Env}:∀ {names:List (Str×NameKind)} {x:Str},names.lookup x=some .free ->
  (names.map λ (n,k)=>if (k==NameKind.free&&env.scope.kind==.function&&env.kindOf n==some .cell) then (n,NameKind.cell) else (n,k)).lookup x=some .cell ∨
  (names.map λ (n,k)=>if (k==NameKind.free&&env.scope.kind==.function&&env.kindOf n==some .cell) then (n,NameKind.cell) else (n,k)).lookup x=some .free
 |[],_,h=>by simp at h
 | (n,k)::r,x,h=>by
  have ih:=@gk env r x;rw[abM];dsimp only;rw[aaG] at h;by_cases hc:(k==NameKind.free&&env.scope.kind==.function&&env.kindOf n==some .cell)=true
  ·rw[if_pos hc,aaG]
   cases hx:x==n with
   |true=>exact .inl rfl
   |false=>rw[hx] at h;exact ih h
  ·rw[if_neg hc,aaG]
   cases hx:x==n with
   |true=>rw[hx] at h;exact .inr h
   |false=>rw[hx] at h;exact ih h
def et(no:Nat)(ixs:List Nat)(wi:TI)(g:TG)(tc:TT)(te:TE):TE:=λ σ H Q=>wi σ H λ J H1=>∀ D,H1 D=none->∃ W:Nat->Nat->List V->St->Hp->Prop,
 (∃ m,W 0 m [] (List.replicate no none++kJ σ ixs) (upd H1 D (.lst [])))/\∀ i m acc σ' H',W i m acc σ' H' ->
  (J.stop i H'/\Q (.ref D) H') ∨
  (J.go i H'/\∃ N:List V->St->Hp->Prop,(∀ acc' σ2 H2,N acc' σ2 H2->∃ m',m'<m/\W (i+1) m' acc' σ2 H2) /\
   ∀ x H2,J.yld i H' x H2->g x σ' H2 λ σ3 H3=>tc σ3 H3 λ b H4=>if b=true then te σ3 H4 λ y H5=>H5 D=some (.lst acc)/\acc.length<sizeLine/\N (acc++[y]) σ3 (upd H5 D (.lst (acc++[y]))) else N acc σ3 H4)
section
variable         {fp:List Addr}
theorem Ck(I:Inv X pins σ H s)(S:CompScope X T F ixs scope)(hfp:∀ b∈fp,qC X pins H b)(hfo:∀ b∈fp,∃ o,s.heap.get? b=some o) :
  (bC X (T++F) scope (aM X.env scope.names []) s.heap.objs.size s H fp).Ok:=by
 have hall:∀ y∈scope.names,y.2=.free->∃ c,X.env.cells.lookup y.1=some c:=λ y hy hf=>by
  rcases S.out y hy hf with e|e
  ·exact I.ok.has _ (.inl e)
  ·exact I.ok.has _ (.inr e)
 have hcl:∀ x c,(aM X.env scope.names []).lookup x=some c->X.env.cells.lookup x=some c:=λ x c h=>dg hall (λ _ _ z=>by simp at z) h;refine⟨I.ok.mod,S.kind,I.ok.glob,I.ok.blt,aac _,λ x y c h1 h2=>I.ok.inj x y c (hcl x c h1) (hcl y c h2),λ x hx=>?_,λ _ _ z=>(nomatch z),I.ok.hd,I.ok.frames,.inl rfl,λ b hb=>⟨?_,λ x c e=>?_⟩,I.bs,aau I.ok.bsz I.sz,λ b o e hb=>?_,λ b hb hz=>?_,I.stack,I.stkFree⟩
 ·have hx:(relabel scope X.env).names.lookup x=some .cell∨(relabel scope X.env).names.lookup x=some .free:=hx
  have hf:scope.names.lookup x=some .free:=by
   rcases hx with hx|hx
   ·rcases dh hx with q|⟨_,q⟩
    ·exact absurd rfl (S.nocell _ (aaP q))
    ·exact q
   ·rcases dh hx with q|⟨z,_⟩
    ·exact q
    ·cases z
  exact dW (.inl (aaP hf))
 ·obtain⟨o,ho⟩:=hfo b hb;exact aak (aah ho)
 ·exact(hfp b hb).2.2.2.2.1 x c (hcl x c e)
 ·rcases (hfp b hb).2.2.2.1 with z|z
  ·exact I.ok.noex b o e z
  ·exact absurd (aan (aah e) (aau I.ok.bsz z)) (aaR _)
 ·rcases abQ.mp (I.stkSub b hz) with e|z
  ·exact(hfp b hb).2.1 e
  ·exact(hfp b hb).2.2.1 z
theorem rm{j:Nat}(h:(kJ σ ixs)[j]?=some (some v)):∃ i,ixs[j]?=some i/\σ[i]?=some (some v):=by
 unfold kJ at h;rw[List.getElem?_map] at h
 cases e:ixs[j]? with
 |none=>rw[e] at h;cases h
 | some i=>
  rw[e] at h;refine⟨i,rfl,?_⟩;have h:(σ[i]?).getD none=some v:=aaj h
  cases q:σ[i]? with
  |none=>rw [q] at h;cases h
  |some u=>rw [q] at h;exact congrArg some h
theorem wt(I:Inv X pins σ H s)(S:CompScope X T F ixs scope)(hfp:∀ b∈fp,qC X pins H b)(hfo:∀ b∈fp,∃ o,s.heap.get? b=some o){h':Heap}{t':Nat}{m:Str->Option Value}
  (hk:∀ b o,s.heap.get? b=some o->h'.get? b=some o) (hn:h'.Ns s.heap.objs.size m) :
  Inv (bC X (T++F) scope (aM X.env scope.names []) s.heap.objs.size s H fp) [] (List.replicate T.length none++kJ σ ixs) H { s with heap:=h',toks:=t' }:=by
 have ok:=Ck I S hfp hfo
 have hall:∀ y∈scope.names,y.2=.free->∃ c,X.env.cells.lookup y.1=some c:=λ y hy hf=>by
  rcases S.out y hy hf with e|e
  ·exact I.ok.has _ (.inl e)
  ·exact I.ok.has _ (.inr e)
 have hcl:∀ x c,(aM X.env scope.names []).lookup x=some c->X.env.cells.lookup x=some c:=λ x c h=>dg hall (λ _ _ z=>by simp at z) h;have cellK:∀ c v,s.heap.IsCell c v->h'.IsCell c v:=λ c v ⟨o,ho,hd⟩=>⟨o,hk c o ho,hd⟩;refine⟨ok,rfl,I.bare,Un.kept hk,⟨m,hn,λ j x v e1 e2 e3=>?_⟩,λ x c e=>?_,I.hok.fresh (aac _),λ x c e=>I.freeC x c (hcl x c e),λ p hp=>absurd (show p∈([]:List (Addr×Obj)) from hp) (by simp),I.hok.kept hk,?_⟩
 ·have hj:T.length<=j:=by
   refine Nat.le_of_not_lt λ hj=>?_;rw[List.getElem?_append_left (by exists hj),List.getElem?_replicate] at e2;split at e2 <;> cases e2
  rw[List.getElem?_append_right (by exists hj),aaF] at e2;have e1:(T++F)[j]?=some x:=e1;rw[List.getElem?_append_right hj] at e1;obtain⟨i,hi,hv⟩:=rm e2;obtain⟨hN,hf⟩:=S.cap _ i x hi e1;obtain⟨m0,hn0,hl⟩:=I.loc;have hm:=aaP hf;have hvis:X.env.scope.names.lookup x=some .cell∨X.env.scope.names.lookup x=some .free:=S.out _ hm rfl;obtain⟨u,ru,lk⟩:=hl i x v hN hv (hvis.elim (λ z=>.inr (.inl z)) λ z=>.inr (.inr z));refine⟨u,ru,?_⟩;rcases lk with ⟨kl,_⟩|⟨_,c,hc,hcell⟩
  ·have kl:X.env.scope.names.lookup x=some .local:=kl;rcases hvis with z|z
   ·rw[kl] at z;cases z
   ·rw[kl] at z;cases z
  ·obtain⟨c',hc'⟩:=dW (env:=X.env) (cs:=[]) (.inl hm)
   have e:c'=c:=by
    have:=hcl x c' hc';rw[hc] at this;exact(aaj this).symm
   subst e;exact .inr ⟨gk hf,c',hc',cellK c' _ hcell⟩
 ·obtain⟨v,q⟩:=I.cell x c (hcl x c e);exact⟨v,cellK c v q⟩
 ·show _=(T++F).length;rw[aag,aaF,aag,kJ,abK,S.len]
theorem m9{pos':Pos}(hc:X.calm=true)(S:CompScope X T F ixs scope)
  (hi:PI X tg iter wi)
  (hg:∀ C s H fp,PG (bC X (T++F) scope (aM X.env scope.names []) C s H fp) tg g)
  (ht:∀ C s H fp,Gf (bC X (T++F) scope (aM X.env scope.names []) C s H fp) ifs tc)
  (he:∀ C s H fp,PE (bC X (T++F) scope (aM X.env scope.names []) C s H fp) elt te)
  (hs:∀ x,foldedSetIterable iter X.env x=pure x) {use:Option (Value->Sem Unit)} {QQ:Value->Shared->Prop}      (I:Inv X pins σ H s) (h:et T.length ixs wi g tc te σ H Q)
  (fine:∀ (D C:Addr) (H5:Hp) (s6:Shared) (f:Flow),(∃ m,s6.heap.Ns C m)->H5 C=none->C≠X.env.locals->(∀ x c,X.env.cells.lookup x=some c->c≠C)->X.s₀.heap.objs.size<=C->(∀ p∈X.pn++pins,p.1≠C) ->
   (∀ h7,Heap.SameBut C s6.heap h7->Inv X pins σ H5 { s6 with heap:=h7 })->Q (.ref D) H5->compPost (model X.prog X.w) X.A X.xe use QQ (.ref D) C (.ok f) s6) :
  wpAny (model X.prog X.w) X.A (comprehension (.ListComp elt [⟨tg,iter,ifs,0⟩] scope pos) scope X.env pos' (newList []) false (eval iter X.env) use) QQ X.xe s:=by
 have hall:∀ y∈scope.names,y.2=.free->∃ c,X.env.cells.lookup y.1=some c:=λ y hy hf=>by
  rcases S.out y hy hf with e|e
  ·exact I.ok.has _ (.inl e)
  ·exact I.ok.has _ (.inr e)
 refine wpAny_comprehension_free (use:=use) (cl:=aM X.env scope.names []) rfl hs (jy hall) S.kind S.names (thn (hi pins s σ H _ I h) λ v s1 h1=>thn h1 λ itv s2 h2=>?_);obtain⟨it,fp,tn,J,H2,e,I2,TT,st2,f2,q2⟩:=h2;subst e;refine aaL ?_
 -- the list is laid
 have I3:Inv X pins σ (upd H2 s2.heap.objs.size (.lst [])) { s2 with heap:=s2.heap.push { cls:=.type "list", dict:=none,data:=.seq ([]:List Value).toArray } }:=
  I2.laid (t':=s2.toks) (λ b u q=>Heap.get?_push_of_some _ q) (aac _) ⟨aaq _,[],0,.nil,Heap.get?_push_size _ rfl⟩
 have hD:H2 s2.heap.objs.size=none:=I2.hok.fresh (aac _);have hfo:∀ b∈fp,∃ o,s2.heap.get? b=some o:=λ b hb=>let ⟨o,e,_⟩:=TT.obj _ _ st2 b hb;⟨o,e⟩;have neD:∀ b∈fp,b≠s2.heap.objs.size:=λ b hb=>by obtain⟨o,e⟩:=hfo b hb;exact aak (aah e)
 have f3:∀ b∈fp,qC X pins (upd H2 s2.heap.objs.size (.lst [])) b:=λ b hb=>by
  obtain⟨a1,a2⟩:=f2 b hb;exact⟨by rw[af (neD b hb)];exact a1,a2⟩
 obtain⟨W,⟨m0,w0⟩,turn⟩:=q2 s2.heap.objs.size hD;generalize hs3:({ s2 with heap:=s2.heap.push { cls:=.type "list", dict:=none,data:=.seq ([]:List Value).toArray } }:Shared)=s3 at I3 ⊢;generalize hH3:upd H2 s2.heap.objs.size (.lst [])=H3 at I3 f3 w0
 have hfo3:∀ b∈fp,∃ o,s3.heap.get? b=some o:=λ b hb=>by
  obtain⟨o,e⟩:=hfo b hb;rw[← hs3];exact⟨o,Heap.get?_push_of_some _ e⟩
 have st3:tn 0 s3.heap:=TT.keep _ _ _ st2 λ b hb o e=>by rw[← hs3];exact Heap.get?_push_of_some _ e
 refine wpAny_newFunctionEnv S.nocell (by intro y hy;simp at hy) (λ h4 hns4 hsb4=>?_) S.kind;have old:∀ b o,s3.heap.get? b=some o->h4.get? b=some o:=λ b o e=>hsb4.extBut b o (aak (aah e)) (Heap.get?_push_of_some _ e);have J4:=wt I3 S f3 hfo3 (t':=s3.toks+([]:List (Str×Value)).length) old hns4;generalize hs4:({ s3 with heap:=h4,toks:=s3.toks+([]:List (Str×Value)).length }:Shared)=s4 at J4 ⊢;have st4:tn 0 s4.heap:=by rw[← hs4];exact TT.keep _ _ _ st3 λ b hb o e=>old b o e
 have hg':=hg s3.heap.objs.size s3 H3 fp;have ht':=ht s3.heap.objs.size s3 H3 fp;have he':=he s3.heap.objs.size s3 H3 fp;generalize hY:bC X (T++F) scope (aM X.env scope.names []) s3.heap.objs.size s3 H3 fp=Y at J4 hg' ht' he';have yA:Y.A=X.A:=by rw[← hY];rfl
 have yP:Y.prog=X.prog:=by rw[← hY];rfl
 have yW:Y.w=X.w:=by rw[← hY];rfl
 have yK:Y.K=X.K:=by rw[← hY];rfl
 have yC:Y.calm=true:=by rw[← hY];exact hc
 have yE:Y.env=compEnvC scope (aM X.env scope.names []) s3.heap.objs.size X.env:=by rw[← hY];rfl
 have yX:Y.xe=λ _ _=>False:=by rw[← hY];rfl
 have fY:∀ {H':Hp},(∀ b∈fp,H' b=none)->∀ b∈fp,qC Y [] H' b:=λ hn b hb=>by
  have k:=J4.ok;rw[← hY] at k ⊢;exact⟨hn b hb,(k.exf b hb).1,k.exfs b hb,.inl hb,(k.exf b hb).2,λ p hp=>absurd (show p∈([]:List (Addr×Obj)) from hp) (by simp)⟩
 have loop:codeAny (model X.prog X.w) X.A (.compLoop (.ListComp elt [⟨tg,iter,ifs,0⟩] scope pos) 0 (.ref it) (.ref s2.heap.objs.size) (compEnvC scope (aM X.env scope.names []) s3.heap.objs.size X.env))
   (compPost (model X.prog X.w) X.A X.xe use QQ (.ref s2.heap.objs.size) s3.heap.objs.size) s4:=by
  refine kI (λ n s'=>∃ i acc σ' H',Inv Y [] σ' H' s'/\tn i s'.heap/\(∀ b∈fp,H' b=none)/\W i n acc σ' H') ?_ m0 ⟨0,[],_,H3,J4,st4,λ b hb=>(f3 b hb).1,w0⟩;rintro n s5 ⟨i,acc,σ5,H5,J5,st5,fr5,w5⟩;rcases turn i n acc σ5 H5 w5 with ⟨stop,qn⟩|⟨go,N,hN,step⟩
  ·have fin:=TT.done Y yP yW yK yC i [] s5 σ5 H5 (λ _ _=>False) J5 (fY fr5) st5 stop;rw[yA] at fin;refine thn fin λ r s6 ⟨hr,J6⟩=>?_;subst hr
   -- the block is left
   obtain⟨m,hm,_⟩:=id J6.loc;have hm:s6.heap.Ns s3.heap.objs.size m:=by rw[yE] at hm;exact hm
   have hb6:=J6.base;have hos:=J6.os;have hfree:=J6.free;have hbare:=J6.bare;have hok6:HOk X.prog X.w H5 s6.heap:=by have:=J6.hok;rw[yP,yW] at this;exact this
   rw[yE] at hfree;have hfree:H5 s3.heap.objs.size=none:=hfree;rw[← hY] at hb6 hos;have hb6:Un (frs X.stack) fp H3 H5 s3.heap s6.heap:=hb6;have hos:s6.os=s3.os:=hos;have ltC:∀ b o,s3.heap.get? b=some o->b≠s3.heap.objs.size:=λ b o e=>aak (aah e);refine fine _ _ H5 s6 _ ⟨m,hm⟩ hfree ?hl ?hcl I3.sz ?hpn (λ h7 hsb7=>?_) qn
   case hl=>exact λ z=>aaR _ (z ▸ I3.lt)
   case hcl=>exact λ x c e z=>by obtain⟨v,o,ho,_⟩:=I3.cell x c e;exact ltC c o ho z
   case hpn=>exact λ p hp z=>ltC p.1 p.2 (I3.pin p hp).1 z
   have same:∀ b,b<s3.heap.objs.size->h7.get? b=s6.heap.get? b:=λ b hb=>hsb7.2 b (aak hb)
   have hok7:HOk X.prog X.w H5 h7:=λ b o e=>by
    refine(hok6 b o e).stay (λ c w' hc q=>(hsb7.2 c ?_).trans q) (λ _ q=>q) λ _ _ q=>q;rintro rfl;rcases hc with z|z
    ·rw[← z,hfree] at e;cases e
    ·rw[hfree] at z;cases z
   have un7:Un (frs X.stack) fp H3 H5 s3.heap h7:=
    ⟨λ b o e n hb hx=>(same b (aah e)).trans (hb6.keep b o e n hb hx),λ b o e n hb hx=>by
     obtain⟨sl,q⟩:=hb6.slot b o e n hb hx;exact⟨sl,(same b (aah e)).trans q⟩,hb6.free,λ b o e hx=>by
     obtain⟨o',q⟩:=hb6.there b o e hx;exact⟨o',(same b (aah e)).trans q⟩,hb6.tups,hb6.frzs,hb6.tbls⟩
   exact I3.call' (s':={ s6 with heap:=h7 }) hos un7 hok7 hbare λ b hb=>by
    obtain⟨_,a2,a3,a4,a5,a6⟩:=f3 b hb;exact⟨a4,a2,a5,a6⟩
  ·have nx:=TT.item Y yP yW yK yC i [] s5 σ5 H5 (λ _ _=>False) J5 (fY fr5) st5 go;rw[yA] at nx;refine thn nx λ r s6 ⟨u,hr,h6⟩=>?_;subst hr;refine thn h6 λ _ s7 ⟨x,H7,J7,r7,y7,st7,fr7⟩=>?_;have J7':=J7.pinned (fY fr7) (TT.obj _ _ st7);have asg:=hg' _ s7 σ5 H7 x u _ J7' r7 (step x H7 y7);rw[yA,yP,yW,yE,yX] at asg;refine thn asg λ _ s8 ⟨σ8,H8,J8,q8⟩=>?_;have tst:=ht' _ s8 σ8 H8 _ J8 q8;rw[yA,yP,yW,yE,yX] at tst;refine thn tst λ b s9 ⟨H9,J9,q9⟩=>?_
   have again:∀ {s':Shared} {acc':List V} {σ':St} {H':Hp},Inv Y ([]++iW fp s7.heap) σ' H' s'->N acc' σ' H'->∃ m,m<n/\∃ i acc σ' H',Inv Y [] σ' H' s'/\tn i s'.heap/\(∀ b∈fp,H' b=none)/\W i m acc σ' H':=fun {s' acc' σ' H'} K7 n7=>by
    obtain⟨m',hm,w7⟩:=hN acc' σ' H' n7;refine⟨m',hm,i+1,acc',σ',H',K7.unpinned,TT.keep _ _ _ st7 λ b hb o e=>(K7.pin (b,o) (aai _ (aai _ (dU hb e)))).1,λ b hb=>?_,w7⟩;obtain⟨o,e,d⟩:=TT.obj _ _ st7 b hb;exact(K7.pin (b,o) (aai _ (aai _ (dU hb e)))).2.1
   cases b with
   | false=>
    rw[if_neg abP] at q9 ⊢;exact again J9 q9
   | true=>
    rw[if_pos rfl] at q9 ⊢;have elv:=he' _ s9 σ8 H9 _ J9 q9;rw[yA,yP,yW,yE,yX] at elv;refine thn elv λ u10 s10 ⟨y,H10,J10,r10,q10⟩=>?_;obtain⟨hl,hz,qN⟩:=q10;have app:=kE (X:=Y) ([]++iW fp s7.heap) s10 σ8 H10 (.ref s2.heap.objs.size) [y] (.ref s2.heap.objs.size) [u10] (λ _ H'=>N (acc++[y]) σ8 H') J10 rfl (.cons r10 .nil) ⟨_,acc,y,rfl,rfl,hl,hz,qN⟩;rw[yA,yP,yW,yX] at app;exact thn app λ _ s11 ⟨_,H11,J11,_,q11⟩=>again J11 q11
 exact codeAny_compStart_list loop (TT.self _ 0 _ _ _ st4 loop)
theorem Cm(hc:X.calm=true)(S:CompScope X T F ixs scope)
  (hi:PI X tg iter wi)
  (hg:∀ C s H fp,PG (bC X (T++F) scope (aM X.env scope.names []) C s H fp) tg g)
  (ht:∀ C s H fp,Gf (bC X (T++F) scope (aM X.env scope.names []) C s H fp) ifs tc)
  (he:∀ C s H fp,PE (bC X (T++F) scope (aM X.env scope.names []) C s H fp) elt te)
  (hs:autoParam (∀ x,foldedSetIterable iter X.env x=pure x) L2.aI._auto_1) :
  PE X (.ListComp elt [⟨tg,iter,ifs,0⟩] scope pos) (et T.length ixs wi g tc te):=by
 intro pins s σ H Q I h;rw[eval_ListComp];exact m9 hc S hi hg ht he hs I h λ D C H5 s6 f ⟨m,hm⟩ _ _ _ _ _ inv q=>⟨m,hm,λ h7 k=>⟨.ref D,H5,inv h7 k,rfl,q⟩⟩
theorem Cn{i:Nat}{py spos:Pos}(hc:X.calm=true)(S:CompScope X T F ixs scope)
  (hi:PI X tg iter wi)
  (hg:∀ C s H fp,PG (bC X (T++F) scope (aM X.env scope.names []) C s H fp) tg g)
  (ht:∀ C s H fp,Gf (bC X (T++F) scope (aM X.env scope.names []) C s H fp) ifs tc)
  (he:∀ C s H fp,PE (bC X (T++F) scope (aM X.env scope.names []) C s H fp) elt te)
  (hs:∀ x,foldedSetIterable iter X.env x=pure x) (hN:X.N.Nodup) (hix:X.N[i]?=some y) (hx:Loc X.env.scope y)
  (hsw:swapsWith (.ListComp elt [⟨tg,iter,ifs,0⟩] scope pos) (some (.Name y py)) spos.line X.env=pure true) (hf:X.fn y=true∨X.env.scope.names.lookup y=some .local) :
  PS X (.Assign [.Name y py] (.ListComp elt [⟨tg,iter,ifs,0⟩] scope pos) spos) (o5 (et T.length ixs wi g tc te) (eM i)):=by
 intro pins s σ H D I h;rw[exec_Assign_Name_used _ _ _ _ hsw];refine aaa (wpAny_standAt (aaa ?_));show wpAny _ X.A (do let _ ← comprehension (.ListComp elt [⟨tg,iter,ifs,0⟩] scope pos) scope X.env _ (newList []) false (eval iter X.env) (some (assign (.Name y py) X.env))) _ _ s;refine aaa (thn (m9 (use:=some (assign (.Name y py) X.env)) (QQ:=λ _ s'=>SP X pins D .next s') hc S hi hg ht he hs I h λ D' C H5 s6 f ⟨m,hm⟩ fC lC cC zC pC inv q=>?_) λ _ s' hq=>aae (aae hq));have I6:Inv X pins σ H5 s6:=inv s6.heap (Heap.SameBut.refl _ _);refine wpAny_assign_Name (km I6 hN hix hx (show RelV (.ref D') (.ref D') from rfl) (λ s7 I7 ⟨a,sb,ha⟩=>?_) hf)
 have aC:C≠a:=by
  rcases ha with rfl|ha
  ·exact lC
  ·exact λ z=>cC y a ha z.symm
 refine⟨m,hm.sameBut sb aC,λ h8 k8=>⟨_,H5,?_,q⟩⟩;exact I7.turned (t':=s7.toks) (λ b o hb e=>(k8.2 b hb).trans e) fC lC (.inr zC) cC pC
end
def Its(z:Str):It:=⟨λ i _=>i<z.cps.size,λ i H x H'=>H'=H/\∃ c,z.cps.toList[i]?=some c/\x=.str ⟨#[c]⟩,λ i _=>i=z.cps.size⟩
theorem nb{K:Frag}(nm:String)(hnm:["enumerate", "zip", "dict_itemiterator", "dict_reverseitemiterator", "odict_iterator", "itertools.zip_longest", "itertools.pairwise"].contains nm=false)(it:Addr)(z:Str)(t:Tok)
  (W:∀ A:Around,A.handled=none->Walks P w A it [it] [it] z.cps.size (SignAt z) (λ i h=>h.IsStrIter it nm z t i))
  (hself:∀ (A:Around) (i:Nat) (s:Shared) (Q:Value->Shared->Prop) (E:Value->Shared->Prop),s.heap.IsStrIter it nm z t i->Q (.ref it) s->wpAny (model P w) A (pyIter (.ref it)) Q E s):Turn P w K tg (Its z) [it] it (λ i h=>h.IsStrIter it nm z t i) where
 mem:=by simp
 obj:=λ i h st b hb=>by
  have e:b=it:=(by exists hb);subst e;obtain⟨o,e,c,d⟩:=st;exact⟨o,e,λ v q=>by rw[d] at q;cases q⟩
 keep:=λ i h h' st k=>by
  obtain⟨o,e,r⟩:=st;exact⟨o,k it (by simp) o e,r⟩
 item:=by
  intro X hP hw hK hc i pins s σ H E I hf st hg;subst hP hw hK;obtain⟨f0,f1,f2,f3,f4,f5⟩:=hf it (by simp);refine(W X.A (I.ok.hd hc)).item i s _ _ hg st λ v h' tk hv st' kk=>?_;obtain⟨c,u,hcx,rfl⟩:=hv;have I1:Inv X pins σ H { s with heap:=h',toks:=tk }:=I.turned (λ b o hb e=>kk b o (by exists hb) e) f0 f1 f3 f4 f5;obtain⟨o,e,cl,d⟩:=id st';exact⟨_,rfl,iM (s:={ s with heap:=h',toks:=tk }) e cl d hnm ⟨.str ⟨#[c]⟩,H,I1,⟨u,rfl⟩,⟨rfl,c,(by exists hcx),rfl⟩,st',λ b hb=>(hf b hb).1⟩⟩
 done:=by
  intro X hP hw hK hc i pins s σ H E I hf st hg;subst hP hw hK;obtain⟨f0,f1,f2,f3,f4,f5⟩:=hf it (by simp);have hg:i=z.cps.size:=hg;subst hg;exact(W X.A (I.ok.hd hc)).done s _ _ st λ h' tk kk=>⟨rfl,I.turned (λ b o hb e=>kk b o (by exists hb) e) f0 f1 f3 f4 f5⟩
 self:=λ A i s Q E st h=>hself A i s Q E st h
def L8(tl:TE):TI:=λ σ H R=>tl σ H λ x H1=>∃ z,x=.str z/\R (Its z) H1
theorem Ha{l:Expr}{tl:TE}(hl:PE X l tl):PI X tg l (L8 tl):=by
 intro pins s σ H R I h;refine thn (hl pins s σ H _ I h) λ v s1 ⟨x,H1,I1,r1,q1⟩=>?_;obtain⟨z,e,q⟩:=q1;subst e;obtain⟨t,rfl⟩:=r1
 have fp:∀ b∈[s1.heap.objs.size],qC X pins H1 b:=λ b hb=>by
  have e:b=s1.heap.objs.size:=(by exists hb);subst e;exact I1.fpOk (aac _) (I1.hok.fresh (aac _))
 cases ha:z.cps.all (·<128)
 ·exact wpAny_pyIter_wide ha ⟨s1.heap.objs.size,[s1.heap.objs.size],_,_,H1,rfl,I1.kept (t':=s1.toks) λ b o e=>Heap.get?_push_of_some _ e,nb "str_iterator" (by decide) _ z t (λ A hA=>Walks.strWide hA _ z t) (λ _ _ _ _ _ st h=>wpAny_pyIter_striter_wide st h),⟨_,Heap.get?_push_size _ rfl,rfl,rfl⟩,fp,q⟩
 ·exact wpAny_pyIter_ascii ha ⟨s1.heap.objs.size,[s1.heap.objs.size],_,_,H1,rfl,I1.kept (t':=s1.toks) λ b o e=>Heap.get?_push_of_some _ e,nb "str_ascii_iterator" (by decide) _ z t (λ A hA=>Walks.strAscii hA _ z t) (λ _ _ _ _ _ st h=>wpAny_pyIter_striter_ascii st h),⟨_,Heap.get?_push_size _ rfl,rfl,rfl⟩,fp,q⟩
section
variable {no:Nat}        {D:Addr}
end
def isT(t T:String):Bool:=t==T || (t == "bool" && T == "int")
def okT(T:String):Prop:=T = "str" ∨ T = "int" ∨ T = "bool" ∨ T = "list" ∨ T = "tuple" ∨ T = "dict" ∨ T = "NoneType"
theorem Hb{K:Frag}{t T:String}(ht:okT t)(hT:okT T):PySem.W.kitOne K (.type t) (.type T)=some (isT t T):=by
 rcases ht with rfl|rfl|rfl|rfl|rfl|rfl|rfl <;> rcases hT with rfl|rfl|rfl|rfl|rfl|rfl|rfl <;> rfl
theorem mf(bs:List Bool):TruthOf P w A (λ i v=>∃ b,bs[i]?=some b/\v=Value.bool b) (λ i=>bs.getD i false):=by
 intro i v s Q E hP hQ;obtain⟨b,hb,rfl⟩:=hP;have e:bs.getD i false=b:=by rw[List.getD_eq_getElem?_getD,hb];rfl
 exact aaK (by rw[← e];exact hQ)
theorem rn{bs:List Bool}:(List.range bs.length).all (λ i=>bs.getD i false)=bs.all id:=by
 rw[abx,ab3,ab3];constructor
 ·intro h b hb;obtain⟨i,hi,e⟩:=List.mem_iff_getElem.mp hb;have:=h i (ab2.mpr hi);rw[List.getD_eq_getElem?_getD,List.getElem?_eq_getElem hi,e] at this;exact this
 ·intro h i hi;have hi:=ab2.mp hi;rw[List.getD_eq_getElem?_getD,List.getElem?_eq_getElem hi];exact h _ (aaH hi)
theorem rp{bs:List Bool}:(List.range bs.length).any (λ i=>bs.getD i false)=bs.any id:=by
 rw[abx,aaZ,aaZ];constructor
 ·rintro⟨i,hi,h⟩;have hi:=ab2.mp hi;rw[List.getD_eq_getElem?_getD,List.getElem?_eq_getElem hi] at h;exact⟨_,aaH hi,h⟩
 ·rintro⟨b,hb,h⟩;obtain⟨i,hi,e⟩:=List.mem_iff_getElem.mp hb;refine⟨i,ab2.mpr hi,?_⟩;rw[List.getD_eq_getElem?_getD,List.getElem?_eq_getElem hi,e];exact h
theorem wu{bs:List Bool}:∀ {us:List Value},Vals (bs.map V.bl) us->us.length=bs.length/\∀ (i:Nat) (v:Value),us[i]?=some v->∃ b,bs[i]?=some b/\v=Value.bool b:=by
 intro us r;have hl:=r.length;rw[abK] at hl;refine⟨hl.symm,λ i v h=>?_⟩;have hi:i<us.length:=(List.getElem?_eq_some_iff.mp h).1;have hib:i<bs.length:=by nofun
 obtain⟨u,hu,ru⟩:=r.get (i:=i) (x:=.bl bs[i]) (by simp[hib]);rw[h] at hu;cases hu;exact⟨bs[i],by simp[hib],ru⟩
theorem i5{bs:List Bool}(I:Inv X pins σ H s)(hq:SqL X.K H p (bs.map V.bl))(A:Around)(hA:A.handled=none){r:Bool}
  (fn:(List Nat)->(Nat->Bool)->Bool) (hr:fn (List.range bs.length) (λ i=>bs.getD i false)=r) (q:Q (.bl r) H) :
  wpAny (model X.prog X.w) A (pyIter (.ref p)) (λ it s₂=>∃ I fp wr n P St tr,it=.ref I/\Walks X.prog X.w A I fp wr n P St/\St 0 s₂.heap/\TruthOf X.prog X.w A P tr /\
   ∀ h' tk,(∀ b o,b∉wr->s₂.heap.get? b=some o->h'.get? b=some o)->EP X pins σ Q (.bool (fn (List.range n) tr)) { s₂ with heap:=h',toks:=tk }) E s:=by
 obtain⟨its,rv,pl,hz⟩:=I.list hq;obtain⟨hl,hat⟩:=wu rv;refine wpAny_pyIter_list pl.isList ?_
 have ne:p≠s.heap.objs.size:=by
  obtain⟨o,ho,_⟩:=pl.isList;exact aak (aah ho)
 have hW:=Walks.list (prog:=X.prog) (w:=X.w) hA s.heap.objs.size p ne its.toArray
 have hW2:Walks X.prog X.w A s.heap.objs.size [s.heap.objs.size,p] [s.heap.objs.size] bs.length (λ i v=>∃ b,bs[i]?=some b/\v=Value.bool b) (λ i h=>h.IsListIter s.heap.objs.size p i/\h.IsList p its.toArray):=by
  have e:its.toArray.size=bs.length:=by simp[hl]
  rw[e] at hW;exact { sub:=hW.sub,frame:=hW.frame,item:=λ i s Q E hi st hQ=>hW.item i s Q E hi st λ v h' tk hv=>hQ v h' tk (hat i v (by exists hv)),done:=hW.done,self:=hW.self }
 refine⟨s.heap.objs.size,_,_,_,_,_,_,rfl,hW2,⟨⟨_,Heap.get?_push_size _ rfl,rfl,rfl⟩,?_⟩,mf bs,λ h' tk kk=>?_⟩
 ·obtain⟨o,ho,r⟩:=pl.isList;exact⟨o,Heap.get?_push_of_some _ ho,r⟩
 ·refine⟨.bl r,H,I.kept (h':=h') (t':=tk) λ b o e=>kk b o ?_ (Heap.get?_push_of_some _ e),by rw[← hr];rfl,q⟩;intro z;have z:b=s.heap.objs.size:=(by exists z);exact absurd (aah e) (by rw[z];exact aaR _)
theorem wv(hc:X.calm=true):CallR X (.builtin "all") (λ xs H Q=>∃ (p:Addr) (bs:List Bool),xs=[.ref p]/\SqL X.K H p (bs.map V.bl)/\Q (.bl (bs.all id)) H):=by
 intro pins s σ H xs us Q I r h;obtain⟨p,bs,rfl,hq,q⟩:=h;obtain⟨u,rfl,ru⟩:=dF r;cases ru;exact call_all_walk (i5 I hq X.A.in1 (I.ok.hd hc) (λ l f=>l.all f) rn q)
theorem ww(hc:X.calm=true):CallR X (.builtin "any") (λ xs H Q=>∃ (p:Addr) (bs:List Bool),xs=[.ref p]/\SqL X.K H p (bs.map V.bl)/\Q (.bl (bs.any id)) H):=by
 intro pins s σ H xs us Q I r h;obtain⟨p,bs,rfl,hq,q⟩:=h;obtain⟨u,rfl,ru⟩:=dF r;cases ru;exact call_any_walk (i5 I hq X.A.in1 (I.ok.hd hc) (λ l f=>l.any f) rp q)
theorem pv:OpR X (compareOp .In) (λ x y H Q=>∃ (c:Nat) (j:Str),x=.str ⟨#[c]⟩/\y=.str j/\Q (.bl (decide (c∈j.cps.toList))) H):=by
 intro pins s σ H x y v u Q I rx ry h;obtain⟨c,j,rfl,rfl,q⟩:=h;exact qK pins s σ H _ _ v u Q I rx ry ⟨_,j,rfl,rfl,by rw[PySem.StrLaws.found_one];exact q⟩
theorem jz:OpR X (compareOp .NotIn) (λ x y H Q=>∃ (c:Nat) (j:Str),x=.str ⟨#[c]⟩/\y=.str j/\Q (.bl (!decide (c∈j.cps.toList))) H):=by
 intro pins s σ H x y v u Q I rx ry h;obtain⟨c,j,rfl,rfl,q⟩:=h;exact kA pins s σ H _ _ v u Q I rx ry ⟨_,j,rfl,rfl,by rw[PySem.StrLaws.found_one];exact q⟩
theorem gZ(h:x.cps.toList=y.cps.toList):x=y:=by
 cases x with|mk a=>cases y with|mk b=>exact congrArg Str.mk (Array.toList_inj.mp h)
theorem cj(x:Str):x.length=x.cps.toList.length:=by simp[Str.length]
theorem fP(x y:Str):(x++y).cps.toList=x.cps.toList++y.cps.toList:=by
 show (x.cps++y.cps).toList=_;simp
def g0{α:Type}(xs:List α)(lo hi:Option Int):List α:=(xs.drop (HT.sIx xs.length 0 lo)).take (HT.sIx xs.length xs.length hi - HT.sIx xs.length 0 lo)
theorem sliceRange_one(a b:Nat):sliceRange (a:Int) (b:Int) 1=(List.range (b - a)).map λ k=>a+k:=by
 unfold sliceRange;simp only[show (1:Int) > 0 by decide,if_true]
 have e:(if (a:Int)<(b:Int) then ((b:Int) - (a:Int)+1 - 1) / 1 else 0).toNat=b - a:=by
  split <;> (try rw[Int.ediv_one]) <;> nofun
 rw[e];refine aa9 λ k _=>?_;nofun
theorem pw(lo hi:Option Int)(n:Nat):Builtin.Str.strSliceIndices lo hi 1 n=(List.range (HT.sIx n n hi - HT.sIx n 0 lo)).map λ k=>HT.sIx n 0 lo+k:=by
 unfold Builtin.Str.strSliceIndices;rw[← sliceRange_one];simp only[show (1:Int) > 0 by decide,if_true]
 congr 1
 ·cases lo with
  |none=>rfl
  |some v=>rw [← HT.clip_eq];dsimp only;split <;> nofun
 ·cases hi with
  |none=>rfl
  |some v=>rw [← HT.clip_eq];dsimp only;split <;> nofun
theorem i6{α:Type}(xs:List α)(a:Nat):∀ k:Nat,a+k<=xs.length->((List.range k).map λ j=>a+j).filterMap (λ i=>xs[i]?)=(xs.drop a).take k
 |0,_=>by simp
 | k+1,h=>by
  have hk:a+k<xs.length:=by nofun
  rw[List.range_succ,aaf,List.filterMap_append,i6 xs a k (by nofun),List.take_add_one]
  congr 1
  simp[List.getElem?_drop,hk]
theorem rq(x:Str)(lo hi:Option Int):(Txt.slice x lo hi).cps.toList=g0 x.cps.toList lo hi:=by
 have hl:x.cps.toList.length=x.length:=by simp[Str.length]
 have h1:=HT.sIx_le x.length 0 (aaq _) lo;have h2:=HT.sIx_le x.length x.length (aac _) hi;unfold Txt.slice g0;rw[hl,pw];split
 ·rename_i hc;simp only[beq_self_eq_true,Bool.true_and,List.length_map,List.length_range,beq_iff_eq] at hc;have e1:HT.sIx x.length 0 lo=0:=by nofun
  have e2:HT.sIx x.length x.length hi=x.length:=by nofun
  rw[e1,e2,aa4,Nat.sub_zero,aal (by nofun)]
 ·show (List.filterMap (λ i=>x.cps[i]?) _).toArray.toList=_;have e:(λ i:Nat=>x.cps[i]?)=λ i:Nat=>x.cps.toList[i]?:=by funext i;simp
  rw[e];by_cases h:HT.sIx x.length 0 lo<=HT.sIx x.length x.length hi
  ·rw[i6 x.cps.toList _ _ (by rw[hl];nofun)]
  ·have e0:HT.sIx x.length x.length hi - HT.sIx x.length 0 lo=0:=by nofun
   rw[e0];simp
def Nx:V->Option Int->Option Int->Hp->VK->Prop:=λ x lo hi H Q=>∃ z,x=.str z/\z.length<=sizeLine/\∀ y:Str,y.cps.toList=g0 z.cps.toList lo hi->Q (.str y) H
theorem Hc:SlR X Nx:=by
 intro pins s σ H x v vl vu lo hi sl Q I rx hs pl pu h;obtain⟨z,rfl,hz,q⟩:=h;obtain⟨t,rfl⟩:=rx;refine⟨"str", _,F.slot_str_getitem.lookup,typeIs_str _ _ _,?_⟩
 have fin:(Txt.slice z lo hi).length<=sizeLine/\∀ t' k,EP X pins σ Q (.str (Txt.slice z lo hi) t') { s with toks:=k }:=
  ⟨aau (Txt.slice_le z _ _) hz,λ t' k=>⟨.str _,H,I.tok k,⟨t',rfl⟩,q _ (rq z lo hi)⟩⟩
 obtain⟨o,ho,hc,hd⟩:=hs
 cases pl with
 | none=>
  cases pu with
  |none=>exact abv (l:=none) (u:=none) (st:=none) ⟨o,ho,hc,hd⟩ rfl (post_val_or_str fin)
  |int j uj=>exact abv (l:=none) (u:=some (j,uj)) (st:=none) ⟨o,ho,hc,hd⟩ rfl (post_val_or_str fin)
 | int i ui=>
  cases pu with
  |none=>exact abv (l:=some (i,ui)) (u:=none) (st:=none) ⟨o,ho,hc,hd⟩ rfl (post_val_or_str fin)
  |int j uj=>exact abv (l:=some (i,ui)) (u:=some (j,uj)) (st:=none) ⟨o,ho,hc,hd⟩ rfl (post_val_or_str fin)
theorem rA:∀ {zs:List Str} {us:List Value},Vals (zs.map V.str) us->∃ l:List (Str×Tok),us=strValues l/\l.map (·.1)=zs
 | [],_,r=>by
  rw[List.map_nil] at r;cases r;exact⟨[],rfl,rfl⟩
 | z::zs,_,r=>by
  rw[abM] at r
  cases r with
  | cons r1 r2=>
   obtain⟨t,rfl⟩:=r1;obtain⟨l,rfl,rfl⟩:=rA r2;exact⟨(z,t)::l,rfl,rfl⟩
def wx(K:Frag):V->List V->Hp->VK->Prop:=λ x vs H Q=>∃ (z:Str) (p:Addr) (zs:List Str),x=.str z/\vs=[.ref p]/\SqL K H p (zs.map V.str)/\(zs.map (·.length)).sum+zs.length*z.length<=16777216/\Q (.str (Builtin.Str.glued z zs)) H
theorem Co:MtR X "str.join" (wx X.K):=by
 intro pins s σ H x vs v us Q I rx rv h;obtain⟨z,p,zs,rfl,rfl,hq,hz,q⟩:=h;obtain⟨t,rfl⟩:=rx;obtain⟨u,rfl,ru⟩:=dF rv;cases ru;obtain⟨its,r,pl,hl⟩:=I.list hq;obtain⟨l,rfl,e⟩:=rA r;exact SC.join pl.isList e (joinOk_of hz) λ t' k=>⟨.str _,H,I.tok k,⟨t',rfl⟩,q⟩
theorem g6(zs:List Str):(Builtin.Str.glued Str.empty zs).cps.toList=(zs.map λ z=>z.cps.toList).flatten:=by
 unfold Builtin.Str.glued
 have gen:∀ (l:List Str) (a:Array Nat),(l.foldl (λ acc p=>acc++Str.empty.cps++p.cps) a).toList=a.toList++(l.map λ z=>z.cps.toList).flatten:=by
  intro l
  induction l with
  |nil=>intro a;simp
  |cons y l ih=>intro a;rw [List.foldl_cons,ih];simp [Str.empty]
 rw[gen]
 cases zs with
 |nil=>simp[Str.empty]
 |cons y l=>simp
inductive DV where
 |non|bl (b:Bool)|int (i:Int)|str (x:Str)|lst (xs:List DV)|tup (xs:List DV)
mutual
inductive Deep(K:Frag)(H:Hp):V->DV->Prop where
 |non:Deep K H .non .non
 |bl (b:Bool):Deep K H (.bl b) (.bl b)
 |int (i:Int):Deep K H (.int i) (.int i)
 |str (x:Str):Deep K H (.str x) (.str x)
 |lst {a:Addr} {xs:List V} {ds:List DV}:SqL K H a xs->Deeps K H xs ds->Deep K H (.ref a) (.lst ds)
 |tup {a:Addr} {xs:List V} {ds:List DV}:SqT K H a xs->Deeps K H xs ds->Deep K H (.ref a) (.tup ds)
inductive Deeps(K:Frag)(H:Hp):List V->List DV->Prop where
 |nil:Deeps K H [] []
 |cons {x:V} {d:DV} {xs:List V} {ds:List DV}:Deep K H x d->Deeps K H xs ds->Deeps K H (x::xs) (d::ds)
end
mutual
def deq:DV->DV->Bool
 |.non,.non=>true
 |.bl a,.bl b=>a==b
 |.bl a,.int b=>(if a then 1 else 0)==b
 |.int a,.bl b=>a==(if b then 1 else 0)
 |.int a,.int b=>a==b
 |.str a,.str b=>a==b
 |.lst a,.lst b=>deqs a b
 |.tup a,.tup b=>deqs a b
 |_,_=>false
def deqs:List DV->List DV->Bool
 |[],[]=>true
 |a::r,b::s=>deq a b&&deqs r s
 |_,_=>false
end
mutual
def dep:DV->Nat
 |.lst a=>deps a+1
 |.tup a=>deps a+1
 |_=>0
def deps:List DV->Nat
 |[]=>0
 |a::r=>max (dep a) (deps r)
end
mutual
theorem nc:∀ d:DV,deq d d=true
 |.non=>rfl
 |.bl b=>beq_self_eq_true b
 |.int i=>beq_self_eq_true i
 |.str x=>beq_self_eq_true x
 |.lst xs=>deqs_refl xs
 |.tup xs=>deqs_refl xs
theorem deqs_refl:∀ ds:List DV,deqs ds ds=true
 |[]=>rfl
 |d::ds=>abW.mpr ⟨nc d,deqs_refl ds⟩
end
theorem Deeps.length{K:Frag}{H:Hp}{xs:List V}{ds:List DV}(h:Deeps K H xs ds):xs.length=ds.length:=
 Deeps.rec (motive_1:=λ _ _ _=>True) (motive_2:=λ xs ds _=>xs.length=ds.length) trivial (λ _=>trivial) (λ _=>trivial) (λ _=>trivial) (λ _ _ _=>trivial) (λ _ _ _=>trivial) rfl (λ _ _ _ t=>congrArg (·+1) t) h
theorem Deeps.get{K:Frag}{H:Hp}:∀ {xs:List V} {ds:List DV} {i:Nat} {x:V},Deeps K H xs ds->xs[i]?=some x->∃ d,ds[i]?=some d/\Deep K H x d/\dep d<=deps ds
 |_,_,_,_,.nil,e=>by simp at e
 | _,_,0,_,.cons h _,e=>by
  simp at e;subst e;exact⟨_,rfl,h,by simp only[deps];nofun⟩
 | _,_,i+1,x,.cons h t,e=>by
  obtain⟨d,h1,h2,h3⟩:=Deeps.get (i:=i) (x:=x) t (by exists e);exact⟨d,(by exists h1),h2,by simp only[deps];nofun⟩
theorem i7:∀ {ds es:List DV},ds.length=es.length->(List.range ds.length).all (λ j=>deq (ds.getD j .non) (es.getD j .non))=deqs ds es:=by
 intro ds
 induction ds with
 | nil=>intro es h;cases es with
  |nil=>rfl
  |cons _ _=>simp at h
 | cons d ds ih=>
  intro es h
  cases es with
  |nil=>simp at h
  | cons e es=>
   have h':ds.length=es.length:=(by exists h);rw[abO,List.range_succ_eq_map,aaO,List.all_map];exact congrArg (deq d e&&·) (ih h')
theorem jA:∀ {ds es:List DV},ds.length≠es.length->deqs ds es=false
 |[],[],h=>absurd rfl h
 |[],_::_,_=>rfl
 |_::_,[],_=>rfl
 | d::ds,e::es,h=>by
  have h':ds.length≠es.length:=(by exists h);show (deq d e&&deqs ds es)=false;rw[jA h',Bool.and_false]
theorem wy{ds es:List DV}:((List.range (min ds.length es.length)).all (λ j=>deq (ds.getD j .non) (es.getD j .non))&&ds.length==es.length)=deqs ds es:=by
 by_cases h:ds.length=es.length
 ·rw[← i7 h,← h,Nat.min_self];simp
 ·rw[jA h];simp[h]
theorem Inv.seq_inj(I:Inv X pins σ H s){ys:List V}(h:SqL X.K H a xs)(h':SqT X.K H a ys):False:=by
 obtain⟨its,_,p,_⟩:=I.list h;obtain⟨its',_,p',_⟩:=I.tuple h';obtain⟨o,e,c,_⟩:=p.isList;obtain⟨o',e',c',_⟩:=p';rw[e] at e';cases e';rw[c] at c';injection c' with z
 exact absurd z (by decide)
theorem Deep.inj(I:Inv X pins σ H s){x:V}{d e:DV}(h:Deep X.K H x d):Deep X.K H x e->d=e:=by
 refine Deep.rec (motive_1:=λ x d _=>∀ e,Deep X.K H x e->d=e) (motive_2:=λ xs ds _=>∀ es,Deeps X.K H xs es->ds=es) ?_ ?_ ?_ ?_ (λ h _ t e h'=>?_) (λ h _ t e h'=>?_) ?_ (λ _ _ h t e h'=>?_) h e
 ·intro e h';cases h';rfl
 ·intro _ e h';cases h';rfl
 ·intro _ e h';cases h';rfl
 ·intro _ e h';cases h';rfl
 ·cases h' with
  | lst h2 t'=>
   have e:=I.list_inj h h2;subst e;rw[t _ t']
  |tup h2 _=>exact (I.seq_inj h h2).elim
 ·cases h' with
  | tup h2 t'=>
   have e:=I.tuple_inj h h2;subst e;rw[t _ t']
  |lst h2 _=>exact (I.seq_inj h2 h).elim
 ·intro e h';cases h';rfl
 ·cases h' with|cons h2 t2=>rw[h _ h2,t _ t2]
theorem Deeps.inj(I:Inv X pins σ H s){xs:List V}{ds es:List DV}(h:Deeps X.K H xs ds):Deeps X.K H xs es->ds=es:=
 Deeps.rec (motive_1:=λ _ _ _=>True) (motive_2:=λ xs ds _=>∀ es,Deeps X.K H xs es->ds=es) trivial (λ _=>trivial) (λ _=>trivial) (λ _=>trivial) (λ _ _ _=>trivial) (λ _ _ _=>trivial) (λ es h'=>by cases h';rfl) (λ h _ _ t es h'=>by cases h' with|cons h2 t2=>rw[h.inj I h2,t _ t2]) h es
theorem kK(I:Inv X pins σ H s):∀ (n:Nat) (d e:DV) (x y:V) (u v:Value) (A:Around),dep d<=n->A.units+n<cLine->Deep X.K H x d->Deep X.K H y e->RelV x u->RelV y v ->
  SeqAt.RcAt A s u v (deq d e)/\SeqAt.RcNeAt A s u v (!deq d e)/\SeqAt.EqAt A s u v (deq d e):=by
 intro n
 induction n with
 | zero=>
  intro d e x y u v A hd hu hx hy rx ry;have hu0:A.units<cLine:=by nofun
  cases hx with
  |lst _ _=>simp only [dep] at hd;nofun
  |tup _ _=>simp only [dep] at hd;nofun
  | non=>
   cases rx
   cases hy with
   |non=>cases ry;exact⟨SeqAt.RcAt.none_none,SeqAt.RcNeAt.none_none,abI _⟩
   |bl b=>cases ry;exact⟨SeqAt.RcAt.none_bool b,SeqAt.RcNeAt.none_bool b,SeqAt.EqAt.none_bool b⟩
   |int b=>obtain⟨t,rfl⟩:=ry;exact⟨SeqAt.RcAt.none_int b t,SeqAt.RcNeAt.none_int b t,SeqAt.EqAt.none_int b t⟩
   |str b=>obtain⟨t,rfl⟩:=ry;exact⟨SeqAt.RcAt.none_str b t,SeqAt.RcNeAt.none_str b t,SeqAt.EqAt.none_str b t⟩
   |lst h _=>cases ry;obtain⟨its,_,p,_⟩:=I.list h;exact⟨SeqAt.RcAt.none_list p.isList hu0,SeqAt.RcNeAt.none_list p.isList hu0,SeqAt.EqAt.none_list p.isList hu0⟩
   |tup h _=>cases ry;obtain⟨its,_,p,_⟩:=I.tuple h;exact⟨SeqAt.RcAt.none_tuple p hu0,SeqAt.RcNeAt.none_tuple p hu0,SeqAt.EqAt.none_tuple p hu0⟩
  | bl a=>
   cases rx
   cases hy with
   |non=>cases ry;exact⟨SeqAt.RcAt.bool_none a,SeqAt.RcNeAt.bool_none a,SeqAt.EqAt.bool_none a⟩
   |bl b=>cases ry;exact⟨SeqAt.RcAt.bool_bool a b,SeqAt.RcNeAt.bool_bool a b,SeqAt.EqAt.bool_bool a b⟩
   |int b=>obtain⟨t,rfl⟩:=ry;exact⟨SeqAt.RcAt.bool_int a b t,SeqAt.RcNeAt.bool_int a b t,SeqAt.EqAt.bool_int a b t⟩
   |str b=>obtain⟨t,rfl⟩:=ry;exact⟨SeqAt.RcAt.bool_str a b t,SeqAt.RcNeAt.bool_str a b t,SeqAt.EqAt.bool_str a b t⟩
   |lst h _=>cases ry;obtain⟨its,_,p,_⟩:=I.list h;exact⟨SeqAt.RcAt.bool_list a p.isList hu0,SeqAt.RcNeAt.bool_list a p.isList hu0,SeqAt.EqAt.bool_list a p.isList hu0⟩
   |tup h _=>cases ry;obtain⟨its,_,p,_⟩:=I.tuple h;exact⟨SeqAt.RcAt.bool_tuple a p hu0,SeqAt.RcNeAt.bool_tuple a p hu0,SeqAt.EqAt.bool_tuple a p hu0⟩
  | int a=>
   obtain⟨t',rfl⟩:=rx
   cases hy with
   |non=>cases ry;exact⟨SeqAt.RcAt.int_none a t',SeqAt.RcNeAt.int_none a t',SeqAt.EqAt.int_none a t'⟩
   |bl b=>cases ry;exact⟨SeqAt.RcAt.int_bool a t' b,SeqAt.RcNeAt.int_bool a t' b,SeqAt.EqAt.int_bool a t' b⟩
   |int b=>obtain⟨t,rfl⟩:=ry;exact⟨SeqAt.RcAt.int_int a t' b t,SeqAt.RcNeAt.int_int a t' b t,SeqAt.EqAt.int_int a t' b t⟩
   |str b=>obtain⟨t,rfl⟩:=ry;exact⟨SeqAt.RcAt.int_str a t' b t,SeqAt.RcNeAt.int_str a t' b t,SeqAt.EqAt.int_str a t' b t⟩
   |lst h _=>cases ry;obtain⟨its,_,p,_⟩:=I.list h;exact⟨SeqAt.RcAt.int_list a t' p.isList hu0,SeqAt.RcNeAt.int_list a t' p.isList hu0,SeqAt.EqAt.int_list a t' p.isList hu0⟩
   |tup h _=>cases ry;obtain⟨its,_,p,_⟩:=I.tuple h;exact⟨SeqAt.RcAt.int_tuple a t' p hu0,SeqAt.RcNeAt.int_tuple a t' p hu0,SeqAt.EqAt.int_tuple a t' p hu0⟩
  | str a=>
   obtain⟨t',rfl⟩:=rx
   cases hy with
   |non=>cases ry;exact⟨SeqAt.RcAt.str_none a t',SeqAt.RcNeAt.str_none a t',SeqAt.EqAt.str_none a t'⟩
   |bl b=>cases ry;exact⟨SeqAt.RcAt.str_bool a t' b,SeqAt.RcNeAt.str_bool a t' b,SeqAt.EqAt.str_bool a t' b⟩
   |int b=>obtain⟨t,rfl⟩:=ry;exact⟨SeqAt.RcAt.str_int a t' b t,SeqAt.RcNeAt.str_int a t' b t,SeqAt.EqAt.str_int a t' b t⟩
   |str b=>obtain⟨t,rfl⟩:=ry;exact⟨SeqAt.RcAt.str_str a t' b t,SeqAt.RcNeAt.str_str a t' b t,SeqAt.EqAt.str_str a t' b t⟩
   |lst h _=>cases ry;obtain⟨its,_,p,_⟩:=I.list h;exact⟨SeqAt.RcAt.str_list a t' p.isList hu0,SeqAt.RcNeAt.str_list a t' p.isList hu0,SeqAt.EqAt.str_list a t' p.isList hu0⟩
   |tup h _=>cases ry;obtain⟨its,_,p,_⟩:=I.tuple h;exact⟨SeqAt.RcAt.str_tuple a t' p hu0,SeqAt.RcNeAt.str_tuple a t' p hu0,SeqAt.EqAt.str_tuple a t' p hu0⟩
 | succ n ih=>
  intro d e x y u v A hd hu hx hy rx ry;have hu0:A.units<cLine:=by nofun
  have items:∀ {xs ys:List V} {ds es:List DV} {us vs:List Value},Deeps X.K H xs ds->Deeps X.K H ys es->deps ds<=n->Vals xs us->Vals ys vs->∀ j (h1:j<us.toArray.size) (h2:j<vs.toArray.size),SeqAt.EqAt A.in1 s us.toArray[j] vs.toArray[j] (deq (ds.getD j .non) (es.getD j .non)):=by
   intro xs ys ds es us vs hds hes hn rv rv' j h1 h2;have h1':j<us.length:=(by exists h1);have h2':j<vs.length:=(by exists h2);have l1:=rv.length;have l2:=rv'.length;have ex:xs[j]?=some (xs[j]'(by nofun)):=List.getElem?_eq_getElem (by nofun);have ey:ys[j]?=some (ys[j]'(by nofun)):=List.getElem?_eq_getElem (by nofun);obtain⟨d1,e1,p1,b1⟩:=hds.get ex;obtain⟨d2,e2,p2,b2⟩:=hes.get ey;obtain⟨u1,f1,r1⟩:=rv.get ex;obtain⟨u2,f2,r2⟩:=rv'.get ey
   have g1:us.toArray[j]=u1:=by
    have:us[j]?=some us[j]:=List.getElem?_eq_getElem h1';rw[f1] at this;simpa using (aaj this).symm
   have g2:vs.toArray[j]=u2:=by
    have:vs[j]?=some vs[j]:=List.getElem?_eq_getElem h2';rw[f2] at this;simpa using (aaj this).symm
   rw[g1,g2,List.getD_eq_getElem?_getD,List.getD_eq_getElem?_getD,e1,e2];exact(ih d1 d2 _ _ u1 u2 A.in1 (by nofun) (by show A.units+1+n<cLine;nofun) p1 p2 r1 r2).2.2
  by_cases h0:dep d<=0
  ·exact ih d e x y u v A (by nofun) (by nofun) hx hy rx ry
  cases hx with
  |non=>simp only [dep] at h0;nofun
  |bl _=>simp only [dep] at h0;nofun
  |int _=>simp only [dep] at h0;nofun
  |str _=>simp only [dep] at h0;nofun
  | @lst a xs ds h t=>
   cases rx;simp only[dep] at hd;obtain⟨its,rv,p,hz⟩:=I.list h
   cases hy with
   |non=>cases ry;exact⟨SeqAt.RcAt.list_none p.isList hu0,SeqAt.RcNeAt.list_none p.isList hu0,SeqAt.EqAt.list_none p.isList hu0⟩
   |bl b=>cases ry;exact⟨SeqAt.RcAt.list_bool b p.isList hu0,SeqAt.RcNeAt.list_bool b p.isList hu0,SeqAt.EqAt.list_bool b p.isList hu0⟩
   |int b=>obtain⟨t2,rfl⟩:=ry;exact⟨SeqAt.RcAt.list_int b t2 p.isList hu0,SeqAt.RcNeAt.list_int b t2 p.isList hu0,SeqAt.EqAt.list_int b t2 p.isList hu0⟩
   |str b=>obtain⟨t2,rfl⟩:=ry;exact⟨SeqAt.RcAt.list_str b t2 p.isList hu0,SeqAt.RcNeAt.list_str b t2 p.isList hu0,SeqAt.EqAt.list_str b t2 p.isList hu0⟩
   | tup h' _=>
    cases ry;obtain⟨its',_,p',_⟩:=I.tuple h';exact⟨SeqAt.RcAt.list_tuple p.isList p' hu0,SeqAt.RcNeAt.list_tuple p.isList p' hu0,SeqAt.EqAt.list_tuple p.isList p' hu0⟩
   | @lst b ys es h' t'=>
    cases ry;obtain⟨its',rv',p',hz'⟩:=I.list h';have l1:=rv.length;have l2:=rv'.length;have l3:=t.length;have l4:=t'.length
    have main:SeqAt.RcAt A s (.ref a) (.ref b) (deqs ds es)/\SeqAt.RcNeAt A s (.ref a) (.ref b) (!deqs ds es):=by
     by_cases hl:ds.length=es.length
     ·have e1:(List.range its.toArray.size).all (λ j=>deq (ds.getD j .non) (es.getD j .non))=deqs ds es:=by
       rw[← i7 hl,show its.toArray.size=ds.length by simp;nofun]
      rw[← e1];exact⟨SeqAt.RcAt.lists p.isList p'.isList (by simp;nofun) hu0 (items t t' (by nofun) rv rv'),SeqAt.RcNeAt.lists p.isList p'.isList (by simp;nofun) hu0 (items t t' (by nofun) rv rv')⟩
     ·rw[jA hl];exact⟨SeqAt.RcAt.lists_lengths p.isList p'.isList (by simp;nofun) hu0,SeqAt.RcNeAt.lists_lengths p.isList p'.isList (by simp;nofun) hu0⟩
    refine⟨main.1,main.2,?_⟩;show SeqAt.EqAt A s (.ref a) (.ref b) (deqs ds es);by_cases hab:a=b
    ·subst hab;have ee:=I.list_inj h h';subst ee;rw[Deeps.inj I t t',deqs_refl];exact abI _
    ·exact SeqAt.EqAt.of_refs hab main.1
  | @tup a xs ds h t=>
   cases rx;simp only[dep] at hd;obtain⟨its,rv,p,hz⟩:=I.tuple h
   cases hy with
   |non=>cases ry;exact⟨SeqAt.RcAt.tuple_none p hu0,SeqAt.RcNeAt.tuple_none p hu0,SeqAt.EqAt.tuple_none p hu0⟩
   |bl b=>cases ry;exact⟨SeqAt.RcAt.tuple_bool b p hu0,SeqAt.RcNeAt.tuple_bool b p hu0,SeqAt.EqAt.tuple_bool b p hu0⟩
   |int b=>obtain⟨t2,rfl⟩:=ry;exact⟨SeqAt.RcAt.tuple_int b t2 p hu0,SeqAt.RcNeAt.tuple_int b t2 p hu0,SeqAt.EqAt.tuple_int b t2 p hu0⟩
   |str b=>obtain⟨t2,rfl⟩:=ry;exact⟨SeqAt.RcAt.tuple_str b t2 p hu0,SeqAt.RcNeAt.tuple_str b t2 p hu0,SeqAt.EqAt.tuple_str b t2 p hu0⟩
   | lst h' _=>
    cases ry;obtain⟨its',_,p',_⟩:=I.list h';exact⟨SeqAt.RcAt.tuple_list p p'.isList hu0,SeqAt.RcNeAt.tuple_list p p'.isList hu0,SeqAt.EqAt.tuple_list p p'.isList hu0⟩
   | @tup b ys es h' t'=>
    cases ry;obtain⟨its',rv',p',hz'⟩:=I.tuple h';have l1:=rv.length;have l2:=rv'.length;have l3:=t.length;have l4:=t'.length
    have e1:((List.range (min its.toArray.size its'.toArray.size)).all (λ j=>deq (ds.getD j .non) (es.getD j .non))&&its.toArray.size==its'.toArray.size)=deqs ds es:=by
     rw[← wy,show its.toArray.size=ds.length by simp;nofun,show its'.toArray.size=es.length by simp;nofun]
    have main:SeqAt.RcAt A s (.ref a) (.ref b) (deqs ds es)/\SeqAt.RcNeAt A s (.ref a) (.ref b) (!deqs ds es):=by
     rw[← e1];exact⟨SeqAt.RcAt.tuples p p' hu0 (items t t' (by nofun) rv rv'),SeqAt.RcNeAt.tuples p p' hu0 (items t t' (by nofun) rv rv')⟩
    refine⟨main.1,main.2,?_⟩;show SeqAt.EqAt A s (.ref a) (.ref b) (deqs ds es);by_cases hab:a=b
    ·subst hab;have ee:=I.tuple_inj h h';subst ee;rw[Deeps.inj I t t',deqs_refl];exact abI _
    ·exact SeqAt.EqAt.of_refs hab main.1
def Ny(K:Frag):R2:=λ x y H Q=>∃ d e,Deep K H x d/\Deep K H y e/\dep d<=40/\Q (.bl (deq d e)) H
def Nz(K:Frag):R2:=λ x y H Q=>∃ d e,Deep K H x d/\Deep K H y e/\dep d<=40/\Q (.bl (!deq d e)) H
theorem Hd(hu:X.A.units+64<cLine):OpR X (compareOp .Eq) (Ny X.K):=by
 intro pins s σ H x y v u Q I rx ry h;obtain⟨d,e,hd,he,hn,q⟩:=h;exact(kK I 40 d e x y v u X.A hn (by nofun) hd he rx ry).1 _ _ _ _ ⟨.bl _,H,I,rfl,q⟩
theorem He(hu:X.A.units+64<cLine):OpR X (compareOp .NotEq) (Nz X.K):=by
 intro pins s σ H x y v u Q I rx ry h;obtain⟨d,e,hd,he,hn,q⟩:=h;exact(kK I 40 d e x y v u X.A hn (by nofun) hd he rx ry).2.1 _ _ _ _ ⟨.bl _,H,I,rfl,q⟩
structure Own(P:Program)(w:World)(K:Frag)(mg:Str->Option Value)(base:Heap)(x:Str)(k:Nat)(ps:List Str)(sp:Sp):Prop where
 ex:∃ (f:Addr) (fd:FuncData),FnOk P w K mg base CX0 k f fd ps sp/\mg x=some (.ref f)/\PySem.W.keepIn K (.ref f)=true/\Binds K fd ps []
def Glo(mg:Str->Option Value)(x:Str)(v:V):Prop:=∃ u,mg x=some u/\RelV v u
theorem Hf{e:Expr}{es:List Expr}{t:TA}{p:Pos}(O:Own X.prog X.w X.K X.mg X.base x k ps sp)(hr:Room k X.A)(ha:PA X (e::es) t)(hg:autoParam (Gl X x) L2.aR._auto_1)
  (hdb:autoParam ((x==("__debug__" : Str))=false) L2.aD._auto_1) (he:autoParam (starEach (e::es) X.env=(false,eval e X.env)::starEach es X.env) L2.aR._auto_1) (hpl:autoParam ((backTo pos (starEach es X.env)).any (·.1)=false) L2.aR._auto_1) :
  PE X (.Call (.Name x p) (e::es) [] pos) (ph sp [] E0 t):=by
 obtain⟨f,fd,F,hm,hk,hb⟩:=O.ex;exact BV F hr hg hm hk hb .nil wq ha hdb he hpl
theorem Al(h:Glo X.mg x v)(hg:autoParam (Gl X x) L2.aR._auto_1)(hd:autoParam ((x==("__debug__" : Str))=false) L2.aD._auto_1):PE X (.Name x pos) (tC v):=by
 obtain⟨u,hm,r⟩:=h;exact Bn hg hm r hd
theorem L9{T:String}(hm:X.mg x=none)(hv:bootBuiltins x=some (.type T))(hg:autoParam (Gl X x) L2.aR._auto_1)(hn:autoParam (x ≠ "__name__") L2.aD._auto_1)(hd:autoParam ((x==("__debug__" : Str))=false) L2.aD._auto_1):PE X (.Name x pos) (tC (.ty T)):=
 Bo hg hm hv rfl hn hd
def Hg(K:Frag):V->Option Int->Option Int->Hp->VK->Prop:=λ x lo hi H Q=>Nx x lo hi H Q∨Nv K x lo hi H Q∨Nq K x lo hi H Q
theorem Am:SlR X (Hg X.K):=Hc.or (Cc.or GY)
def Gg(K:Frag):List V->Hp->VK->Prop:=λ xs H Q=>(∃ z,xs=[.str z]/\z.length<=sizeLine/\Q (.int z.length) H)∨(∃ p ys,xs=[.ref p]/\(SqL K H p ys∨SqT K H p ys)/\Q (.int ys.length) H)∨(∃ a kvs,xs=[V.ref a]/\Rd H a (.dK kvs)/\Q (.int kvs.length) H)
theorem px:CallR X (.builtin "len") (λ xs H Q=>∃ a kvs,xs=[V.ref a]/\Rd H a (.dK kvs)/\Q (.int kvs.length) H):=by
 intro pins s σ H xs us Q I r h;obtain⟨a,kvs,rfl,ha,q⟩:=h;obtain⟨u,rfl,ru⟩:=dF r;cases ru;exact L4 I ha λ t s' I'=>⟨.int kvs.length,H,I',⟨t,rfl⟩,q⟩
theorem DGet.kR{kvs:List (Key×V)}{k:Key}(e:Rd H a (.dK kvs)):DGet H a (kV k) (gh kvs k):=.inl ⟨kvs,k,e,rfl,rfl⟩
theorem rB:CallR X (.builtin "len") (Gg X.K):=kC.or (kB.or px)
def Ma:List V->Hp->VK->Prop:=λ xs H Q=>∃ i j,xs=[.int i,.int j]/\Q (.int (if j > i then j else i)) H
def Mb:List V->Hp->VK->Prop:=λ xs H Q=>∃ i j,xs=[.int i,.int j]/\Q (.int (if j<i then j else i)) H
theorem rC(hc:X.calm=true):CallR X (.builtin "max") Ma:=qM hc
theorem rD(hc:X.calm=true):CallR X (.builtin "min") Mb:=qO hc
def Lk(K:Frag):List V->Hp->VK->Prop:=λ xs H Q=>∃ (p:Addr) (bs:List Bool),xs=[.ref p]/\SqL K H p (bs.map V.bl)/\Q (.bl (bs.all id)) H
def Ll(K:Frag):List V->Hp->VK->Prop:=λ xs H Q=>∃ (p:Addr) (bs:List Bool),xs=[.ref p]/\SqL K H p (bs.map V.bl)/\Q (.bl (bs.any id)) H
theorem rE(hc:X.calm=true):CallR X (.builtin "all") (Lk X.K):=wv hc
theorem rF(hc:X.calm=true):CallR X (.builtin "any") (Ll X.K):=ww hc
def rInS:R2:=λ x y H Q=>∃ (c:Nat) (j:Str),x=.str ⟨#[c]⟩/\y=.str j/\Q (.bl (decide (c∈j.cps.toList))) H
def Cp:R2:=λ x y H Q=>∃ (c:Nat) (j:Str),x=.str ⟨#[c]⟩/\y=.str j/\Q (.bl (!decide (c∈j.cps.toList))) H
def NA(K:Frag):R2:=λ x y H Q=>rInS x y H Q∨rIn K false x y H Q
def rG(K:Frag):R2:=λ x y H Q=>Cp x y H Q∨rIn K true x y H Q
theorem Hi:OpR X (compareOp .In) (NA X.K):=OpR.or pv qX
theorem rH:OpR X (compareOp .NotIn) (rG X.K):=OpR.or jz kz
section
variable    {R:Bool->Hp->Prop} {QA:List V->Hp->Prop} {D:Ends} {K:Frag}
end
theorem bp{o:HO}(hp:H p=none):Same H (upd H p o):=λ b u h=>by rw[af (bq h hp)];exact h
theorem SqT.same{K:Frag}{H H':Hp}{a:Addr}{xs:List V}(h:SqT K H a xs)(e:Same H H'):SqT K H' a xs:=by
 rcases h with (h|⟨o,h⟩)|h
 ·exact .inl (.inl (e _ _ h))
 ·exact .inl (.inr ⟨o,e _ _ h⟩)
 ·exact .inr h
def Cq(N:List Str)(names:List (Str×NameKind)):List Str->List Nat->Bool
 |[],[]=>true
 |x::F,i::ixs=>(N[i]?==some x)&&(names.lookup x==some .free)&&Cq N names F ixs
 |_,_=>false
theorem ng{N:List Str}{names:List (Str×NameKind)}:∀ {F:List Str} {ixs:List Nat},Cq N names F ixs=true->ixs.length=F.length /\
  ∀ (j i:Nat) (x:Str),ixs[j]?=some i->F[j]?=some x->N[i]?=some x/\names.lookup x=some .free
 |[],[],_=>⟨rfl,λ j i x h=>by simp at h⟩
 |[],_::_,h=>(abP h).elim
 |_::_,[],h=>(abP h).elim
 | y::F,k::ixs,h=>by
  obtain⟨h,h3⟩:=abW.mp h;obtain⟨h1,h2⟩:=abW.mp h;replace h1:=eq_of_beq h1;replace h2:=eq_of_beq h2;obtain⟨l,r⟩:=ng h3;refine⟨by rw[abO,abO,l],λ j i x a b=>?_⟩
  cases j with
  | zero=>
   simp at a b;subst a b;exact⟨h1,h2⟩
  |succ j=>exact r j i x (by exists a) (by exists b)
def NB(names out:List (Str×NameKind)):Bool:=names.all λ y=>(y.2 != .cell)&&(y.2 != .local || names.lookup y.1==some .local)&&(y.2 != .free || out.lookup y.1==some .cell || out.lookup y.1==some .free)
theorem CompScope.of(kind:scope.kind=.function)(h1:Cq X.N scope.names F ixs=true)(h2:NB scope.names X.env.scope.names=true):CompScope X T F ixs scope:=by
 obtain⟨l,c⟩:=ng h1;unfold NB at h2;rw[ab3] at h2;refine⟨kind,λ y hy=>?_,λ y hy e=>?_,λ j i x=>c j i x,l,λ y hy e=>?_⟩
 ·have:=h2 y hy;simp only[Bool.and_eq_true] at this;simpa using this.1.1
 ·have:=h2 y hy;simp only[Bool.and_eq_true] at this;have q:=this.1.2;rw[e] at q;simpa using q
 ·have:=h2 y hy;simp only[Bool.and_eq_true] at this;have q:=this.2;rw[e] at q;simpa using q
def Lm(K:Frag):R2:=λ x y H Q=>rEq x y H Q∨Ny K x y H Q
def Ln(K:Frag):R2:=λ x y H Q=>rNe x y H Q∨Nz K x y H Q
theorem Hj(hu:X.A.units+64<cLine):OpR X (compareOp .Eq) (Lm X.K):=LO.or (Hd hu)
theorem Hk(hu:X.A.units+64<cLine):OpR X (compareOp .NotEq) (Ln X.K):=LP.or (He hu)
end L2
namespace L2
open PySem
variable{α:Type}
theorem An{xs:List α}{i:Int}(h0:0<=i)(h:i<xs.length):∃ c,atI xs i=some c/\c∈xs:=by
 obtain⟨k,rfl⟩:=aba h0;have hk:k<xs.length:=by nofun
 exact⟨xs[k],cF (List.getElem?_eq_getElem hk),aaH hk⟩
theorem wz{xs:List α}{lo hi:Option Int}{c:α}(h:c∈g0 xs lo hi):c∈xs:=List.mem_of_mem_drop (abD h)
theorem mh(xs:List α)(k:Nat):g0 xs none (some (k:Int))=xs.take k:=by
 unfold g0;rw[HT.sIx_none,HT.sIx_nat,Nat.sub_zero,aa4];by_cases h:k<=xs.length
 ·rw[Nat.min_eq_left h]
 ·rw[Nat.min_eq_right (by nofun),aal (aac _),aal (by nofun)]
theorem kL(xs:List α)(k:Nat):g0 xs (some (k:Int)) none=xs.drop k:=by
 unfold g0;rw[HT.sIx_none,HT.sIx_nat];by_cases h:k<=xs.length
 ·rw[Nat.min_eq_left h,aal (by rw[abB];nofun)]
 ·rw[Nat.min_eq_right (by nofun),List.drop_of_length_le (aac _),List.drop_of_length_le (by nofun)];simp
theorem rJ{z:Str}{l:List Nat}(h:z.cps.toList=l):z.length=l.length:=by rw[← h];simp[Str.length]
end L2
namespace L2
open PySem PySem.Spec PyProof.Rows
variable{o tg l:Expr}{es:List Expr}{to tl:TE}{name:Str}{apos cpos:Pos}{T:String}{r:V->List V->Hp->VK->Prop}
section
variable {X:Cx}
theorem Hl(K:Frag)(hu:X.A.units+64<cLine)(h:autoParam (X.K=K) L2.aR._auto_1):OpR X (compareOp .Eq) (Lm K):=by subst h;exact Hj hu
theorem Hm(K:Frag)(hu:X.A.units+64<cLine)(h:autoParam (X.K=K) L2.aR._auto_1):OpR X (compareOp .NotEq) (Ln K):=by subst h;exact Hk hu
theorem Cr(K:Frag)(h:autoParam (X.K=K) L2.aR._auto_1):SlR X (Hg K):=by subst h;exact Am
theorem rK(K:Frag)(h:autoParam (X.K=K) L2.aR._auto_1):CallR X (.builtin "len") (Gg K):=by subst h;exact rB
theorem rL(K:Frag)(hc:X.calm=true)(h:autoParam (X.K=K) L2.aR._auto_1):CallR X (.builtin "all") (Lk K):=by subst h;exact rE hc
theorem rM(K:Frag)(hc:X.calm=true)(h:autoParam (X.K=K) L2.aR._auto_1):CallR X (.builtin "any") (Ll K):=by subst h;exact rF hc
theorem wA(K:Frag)(h:autoParam (X.K=K) L2.aR._auto_1):MtR X "str.join" (wx K):=by subst h;exact Co
theorem Hn{e:Expr}{t:TA}{id:String}(K:Frag)(pa:PlainAttrs T)(slot:Slot T name id)(hty:typeOf (.builtin id)=pure (.type "method_descriptor"))(hm:MtR X id r)(ho:PE X o to)(ha:PA X (e::es) t)
  (hK:autoParam (X.K=K) L2.aR._auto_1) (hbase:autoParam (attributeBase o name X.env (eval o X.env)=eval o X.env) L2.aR._auto_1)
  (hfew:autoParam (((backTo cpos (starEach (e::es) X.env)).all (λ x=>!x.1)&&(backToKw cpos (keywordEach [] X.env)).all (λ x=>x.1.isSome)
   && decide ((e::es).length+([]:List Keyword).length+(if ([]:List Keyword).isEmpty then 0 else 1)<30))=true) L2.aR._auto_1)
  (hline:autoParam ((apos.endLine==cpos.line)=true) L2.aR._auto_1) (hs:autoParam (starEach (e::es) X.env=(false,eval e X.env)::starEach es X.env) L2.aR._auto_1) (hplain:autoParam ((backTo cpos (starEach es X.env)).any (·.1)=false) L2.aR._auto_1) :
  PE X (.Call (.Attribute o name apos) (e::es) [] cpos) (tBM K T r to t):=by subst hK;exact LY pa slot hty hm ho ha hbase hfew hline hs hplain
theorem Cs{id:String}(K:Frag)(pa:PlainAttrs T)(slot:Slot T name id)(hty:typeOf (.builtin id)=pure (.type "method_descriptor"))(hm:MtR X id r)(ho:PE X o to)
  (hK:autoParam (X.K=K) L2.aR._auto_1) (hbase:autoParam (attributeBase o name X.env (eval o X.env)=eval o X.env) L2.aR._auto_1) (hline:autoParam ((apos.endLine==cpos.line)=true) L2.aR._auto_1):PE X (.Call (.Attribute o name apos) [] [] cpos) (Lj K T r to):=by subst hK;exact G4 pa slot hty hm ho hbase hline
theorem Cu{k:Nat}{t:TGs}{n:Nat}{pos:Pos}(K:Frag)(hc:X.calm=true)(h:PGs X es t)(hK:autoParam (X.K=K) L2.aR._auto_1)
  (hn:autoParam ((assignEach es X.env).length=n) L2.aR._auto_1) (hst:autoParam ((assignEach es X.env).findIdx? (·.1)=none) L2.aR._auto_1):PG X (.Tuple es k pos) (GC K n t):=by subst hK;exact GD hc h hn hst
theorem wB(K:Frag)(hl:PE X l tl)(hK:autoParam (X.K=K) L2.aR._auto_1):PI X tg l (l7 K tl):=by subst hK;exact BC hl
theorem Cv(K:Frag)(hl:PE X l tl)(hK:autoParam (X.K=K) L2.aR._auto_1):PI X tg l (Lc K tl):=by subst hK;exact GI hl
end
end L2
namespace L2
open PySem
end L2
namespace L2
theorem gE{α:Type}:∀ zs:List α,(zs.map λ _=>1).sum=zs.length
 |[]=>rfl
 |z::zs=>by rw[abM,List.sum_cons,gE zs,abO];nofun
end L2
namespace L2
open PySem PySem.Spec PyProof.Rows
variable{e a b c o tg iter l:Expr}{es:List Expr}{env:Env}{pos p apos cpos:Pos}{X:Cx}{te ta tb to tl:TE}{t:TA}{x name:Str}{k i:Nat}{ps:List Str}{sp:Sp}{r:List V->Hp->VK->Prop}{T:String}{op op':CmpOp}{tc tA tB':TT}{r':R2}{trs:List (TE×TE)}{wi:TI}{g:TG}{st:Stmt}{u:TS}{body:List Stmt}
def bx:Expr->Bool
 |.Starred _ _=>false
 |_=>true
theorem bj(h:bx e=true):starEach (e::es) env=(false,eval e env)::starEach es env:=by
 cases e <;> first|rfl|(cases h)
theorem c5(h:es.all bx=true):(backTo pos (starEach es env)).any (·.1)=false:=by
 induction es with
 |nil=>rfl
 | cons e es ih=>
  rw[aaO,abY] at h;rw[bj h.1];have:=ih h.2;simpa [backTo] using this
theorem pa_c(ha:PE X e te)(hr:PA X es t)(hn:autoParam (bx e=true) L2.aR._auto_1):PA X (e::es) (cZ te t):=BR ha hr (bj hn)
theorem Cw(O:Own X.prog X.w X.K X.mg X.base x k ps sp)(hr:Room k X.A)(ha:PA X (e::es) t)(hg:autoParam (Gl X x) L2.aR._auto_1)(hn:autoParam ((e::es).all bx=true) L2.aR._auto_1)
  (hdb:autoParam ((x==("__debug__" : Str))=false) L2.aD._auto_1):PE X (.Call (.Name x p) (e::es) [] pos) (ph sp [] E0 t):=by
 have h:=hn;rw[aaO,abY] at h;exact Hf O hr ha hg hdb (bj h.1) (c5 h.2)
theorem rN{id:String}(hc:CallR X (.builtin id) r)(hm:X.mg x=none)(hv:bootBuiltins x=some (.builtin id))(ha:PA X (e::es) t)(hg:autoParam (Gl X x) L2.aR._auto_1)(hns:autoParam ((e::es).all bx=true) L2.aR._auto_1)(hn:autoParam (x ≠ "__name__") L2.aD._auto_1)
  (hdb:autoParam ((x==("__debug__" : Str))=false) L2.aD._auto_1):PE X (.Call (.Name x p) (e::es) [] pos) (tCB r t):=by
 have h:=hns;rw[aaO,abY] at h;exact v7 hc hg hm hv ha hn hdb (bj h.1) (c5 h.2)
theorem rO(hc:CallR X (.type T) r)(hm:X.mg x=none)(hv:bootBuiltins x=some (.type T))(ha:PA X (e::es) t)(hg:autoParam (Gl X x) L2.aR._auto_1)(hns:autoParam ((e::es).all bx=true) L2.aR._auto_1)(hn:autoParam (x ≠ "__name__") L2.aD._auto_1)
  (hdb:autoParam ((x==("__debug__" : Str))=false) L2.aD._auto_1):PE X (.Call (.Name x p) (e::es) [] pos) (tCB r t):=by
 have h:=hns;rw[aaO,abY] at h;exact qV hc hg hm hv ha hn hdb (bj h.1) (c5 h.2)
structure BE(X:Cx)(e:Expr)(t:TE):Prop where h:PE X e t
structure BT(X:Cx)(e:Expr)(t:TT):Prop where h:PT X e t
structure BW(X:Cx)(e:Expr)(t:TT):Prop where h:PW X e t
structure BA(X:Cx)(es:List Expr)(t:TA):Prop where h:PA X es t
structure BS(X:Cx)(s:Stmt)(t:TS):Prop where h:PS X s t
structure BSs(X:Cx)(s:List Stmt)(t:TS):Prop where h:PSs X s t
structure BG(X:Cx)(e:Expr)(t:TG):Prop where h:PG X e t
structure BGs(X:Cx)(es:List Expr)(t:TGs):Prop where h:PGs X es t
structure BI(X:Cx)(tg e:Expr)(t:TI):Prop where h:PI X tg e t
structure BO(X:Cx)(e:Option Expr)(t:TO):Prop where h:PO X e t
structure BIf(X:Cx)(es:List Expr)(t:TT):Prop where h:Gf X es t
structure BPs(X:Cx)(pos:Pos)(ks:List (Option Expr))(vs:List Expr)(t:List (TE×TE)):Prop where h:PPs X pos ks vs t
structure BOp(X:Cx)(f:Value->Value->Sem Value)(r:R2):Prop where h:OpR X f r
structure BCall(X:Cx)(f:Value)(r:List V->Hp->VK->Prop):Prop where h:CallR X f r
structure BMt(X:Cx)(id:String)(r:V->List V->Hp->VK->Prop):Prop where h:MtR X id r
theorem Ao(i:Nat)(hN:X.N[i]?=some x)(hv:Vis X.env.scope x)(hd:autoParam ((x==("__debug__" : Str))=false) L2.aD._auto_1)(hcd:autoParam ((x==("__classdict__" : Str))=false) L2.aD._auto_1):BE X (.Name x pos) (db i):=⟨Gp hN hv hd hcd⟩
theorem we_vl(i:Nat)(hN:autoParam (X.N[i]?=some x) L2.aR._auto_1)(hv:autoParam (X.env.scope.names.lookup x=some .local) L2.aR._auto_1)(hd:autoParam ((x==("__debug__":Str))=false) L2.aD._auto_1)(hcd:autoParam ((x==("__classdict__":Str))=false) L2.aD._auto_1):BE X (.Name x pos) (db i):=Ao i hN (.inl hv) hd hcd
theorem Ap{i j pos}:BE X (.Constant (.int i) j pos) (tC (.int i)):=⟨Gq⟩
theorem Mc{b j pos}:BE X (.Constant (.bool b) j pos) (tC (.bl b)):=⟨Lz⟩
theorem Ho{j pos}:BE X (.Constant .none j pos) (tC .non):=⟨Gr⟩
theorem Aq{x j pos}:BE X (.Constant (.str x) j pos) (tC (.str x)):=⟨Gs⟩
theorem Hq{v:V}(h:Glo X.mg x v)(hg:X.env.kindOf x=some .globalImplicit)(hd:autoParam ((x==("__debug__" : Str))=false) L2.aD._auto_1):BE X (.Name x pos) (tC v):=⟨Al h hg hd⟩
theorem Md(hm:X.mg x=none)(hv:bootBuiltins x=some (.type T))(hg:X.env.kindOf x=some .globalImplicit)(hn:autoParam (x ≠ "__name__") L2.aD._auto_1)(hd:autoParam ((x==("__debug__" : Str))=false) L2.aD._auto_1):BE X (.Name x pos) (tC (.ty T)):=⟨L9 hm hv hg hn hd⟩
theorem Me{op:Operator}{r:R2}(ho:BOp X (binaryOp op) r)(ha:BE X a ta)(hb:BE X b tb):BE X (.BinOp a op b pos) (tOp r ta tb):=⟨LM ho.h ha.h hb.h⟩
theorem Ar(ha:BE X a ta):BE X (.UnaryOp .USub a pos) (tUn (rU λ i=>.int (-i)) ta):=⟨LN GP ha.h⟩
theorem Hr(ha:BE X a ta):BE X (.UnaryOp .Not a pos) (Br ta):=⟨GA ha.h⟩
theorem Hs{op}{t:TE}(h:BE X a t):BE X (.BoolOp op [a] pos) t:=⟨Gy h.h⟩
theorem Ht{rest:List Expr}(ha:BE X a ta)(hb:BE X (.BoolOp .And (b::rest) pos) tb):BE X (.BoolOp .And (a::b::rest) pos) (Bq ta tb):=⟨Gz ha.h hb.h⟩
theorem Hu{r:R2}(ho:BOp X (compareOp op) r)(ha:BE X a ta)(hb:BE X b tb)(hm:behindInMarks op b=false):BE X (.Compare a [op] [b] pos) (tOp r ta tb):=⟨BK ho.h ha.h hb.h hm⟩
theorem wC{tc:TE}{r:R2}(ho:BOp X (compareOp op) r)(ho':BOp X (compareOp op') r')(ha:BE X a ta)(hb:BE X b tb)(hc:BE X c tc)(hm:lastMarks [op,op'] [b,c]=false):BE X (.Compare a [op,op'] [b,c] pos) (ko r r' ta tb tc):=⟨vU ho.h ho'.h ha.h hb.h hc.h hm⟩
theorem Mf(hc:BT X c tA)(ha:BE X a ta)(hb:BE X b tb):BE X (.IfExp c a b pos) (tIf tA ta tb):=⟨vN hc.h ha.h hb.h⟩
theorem Hv(O:Own X.prog X.w X.K X.mg X.base x k ps sp)(hr:Room k X.A)(ha:BA X (e::es) t)(hg:X.env.kindOf x=some .globalImplicit)(hn:(e::es).all bx=true)
  (hdb:autoParam ((x==("__debug__" : Str))=false) L2.aD._auto_1):BE X (.Call (.Name x p) (e::es) [] pos) (ph sp [] E0 t):=⟨Cw O hr ha.h hg hn hdb⟩
theorem wD{id:String}(hc:BCall X (.builtin id) r)(hm:X.mg x=none)(hv:bootBuiltins x=some (.builtin id))(ha:BA X (e::es) t)(hg:X.env.kindOf x=some .globalImplicit)(hns:(e::es).all bx=true)(hn:autoParam (x ≠ "__name__") L2.aD._auto_1)
  (hdb:autoParam ((x==("__debug__" : Str))=false) L2.aD._auto_1):BE X (.Call (.Name x p) (e::es) [] pos) (tCB r t):=⟨rN hc.h hm hv ha.h hg hns hn hdb⟩
theorem wF(hc:BCall X (.type T) r)(hm:X.mg x=none)(hv:bootBuiltins x=some (.type T))(ha:BA X (e::es) t)(hg:X.env.kindOf x=some .globalImplicit)(hns:(e::es).all bx=true)(hn:autoParam (x ≠ "__name__") L2.aD._auto_1)
  (hdb:autoParam ((x==("__debug__" : Str))=false) L2.aD._auto_1):BE X (.Call (.Name x p) (e::es) [] pos) (tCB r t):=⟨rO hc.h hm hv ha.h hg hns hn hdb⟩
theorem nh(h:es.all bx=true)(hl:es.length<29):((backTo pos (starEach es env)).all (λ x=>!x.1)&&(backToKw pos (keywordEach [] env)).all (λ x=>x.1.isSome)
      && decide (es.length+([]:List Keyword).length+(if ([]:List Keyword).isEmpty then 0 else 1)<30))=true:=by
  have h1:(backTo pos (starEach es env)).all (λ x=>!x.1)=true:=by
    clear hl
    induction es with
    |nil=>rfl
    | cons e es ih=>
      rw[aaO,abY] at h;rw[bj h.1];exact ih h.2
  rw[h1];exact decide_eq_true (aaM hl)
theorem Cy{id:String}{r:V->List V->Hp->VK->Prop}(K:Frag)(pa:PlainAttrs T)(slot:Slot T name id)(hty:typeOf (.builtin id)=pure (.type "method_descriptor"))(hm:BMt X id r)(ho:BE X o to)(ha:BA X (e::es) t)
  (hK:X.K=K) (hbase:attributeBase o name X.env (eval o X.env)=eval o X.env) (hn:(e::es).all bx=true) (hl:(e::es).length<29) (hline:(apos.endLine==cpos.line)=true):BE X (.Call (.Attribute o name apos) (e::es) [] cpos) (tBM K T r to t):=by
 have h:=hn;rw[aaO,abY] at h;exact⟨Hn K pa slot hty hm.h ho.h ha.h hK hbase (nh hn hl) hline (bj h.1) (c5 h.2)⟩
theorem wG{id:String}{r:V->List V->Hp->VK->Prop}(K:Frag)(pa:PlainAttrs T)(slot:Slot T name id)(hty:typeOf (.builtin id)=pure (.type "method_descriptor"))(hm:BMt X id r)(ho:BE X o to)
  (hK:X.K=K) (hbase:attributeBase o name X.env (eval o X.env)=eval o X.env) (hline:(apos.endLine==cpos.line)=true):BE X (.Call (.Attribute o name apos) [] [] cpos) (Lj K T r to):=⟨Cs K pa slot hty hm.h ho.h hK hbase hline⟩
theorem wH{lo hi:Option Expr}{tl th:TO}{p2:Pos}(K:Frag)(he:BE X e te)(hl:BO X lo tl)(hu:BO X hi th)(hK:X.K=K):BE X (.Subscript e (.Slice lo hi none p2) pos) (tSl (Hg K) te tl th):=⟨mZ (Cr K hK) he.h hl.h hu.h⟩
theorem Hw(h:BA X es t):BE X (.List es pos) (Li t):=⟨GX h.h⟩
theorem Hx{x1}(h:BA X es t):BE X (.Tuple es x1 pos) (Lg t):=⟨GW h.h⟩
theorem Cz :BE X (.Dict [] [] pos) ra:=⟨we⟩
theorem rP{k:Option Expr}{keys:List (Option Expr)}{values:List Expr}(h:BPs X pos (k::keys) values trs)(hall:(k::keys).all (·.isSome)=true)(hl:(k::keys).length=values.length)(h15:(k::keys).length<=15):BE X (.Dict (k::keys) values pos) (Cg trs):=⟨Ch h.h hall hl (λ z=>nomatch z) h15⟩
theorem CA :BPs X pos [] [] []:=⟨Cf⟩
theorem wI{k v:Expr}{ks:List (Option Expr)}{vs:List Expr}{tk tv:TE}(hk:BE X k tk)(hv:BE X v tv)(hr:BPs X pos ks vs trs):BPs X pos (some k::ks) (v::vs) ((tk,tv)::trs):=⟨wg hk.h hv.h hr.h⟩
theorem CB{T F:List Str}{ixs:List Nat}{scope:Scope}{elt:Expr}{ifs:List Expr}(hc:X.calm=true)(S:CompScope X T F ixs scope)(hi:BI X tg iter wi)
  (hg:∀ C s H fp,BG (bC X (T++F) scope (aM X.env scope.names []) C s H fp) tg g) (ht:∀ C s H fp,BIf (bC X (T++F) scope (aM X.env scope.names []) C s H fp) ifs tc) (he:∀ C s H fp,BE (bC X (T++F) scope (aM X.env scope.names []) C s H fp) elt te)
  (hs:∀ x,foldedSetIterable iter X.env x=pure x):BE X (.ListComp elt [⟨tg,iter,ifs,0⟩] scope pos) (et T.length ixs wi g tc te):=
 ⟨Cm hc S hi.h (λ C s H fp=>(hg C s H fp).h) (λ C s H fp=>(ht C s H fp).h) (λ C s H fp=>(he C s H fp).h) hs⟩
theorem Hy:BA X [] iN:=⟨GV⟩
theorem wa_c(ha:BE X e te)(hr:BA X es t)(hn:bx e=true):BA X (e::es) (cZ te t):=⟨pa_c ha.h hr.h hn⟩
theorem CC:BO X none l9:=⟨B6⟩
theorem CD(h:BE X e te):BO X (some e) (BZ te):=⟨B7 h.h⟩
theorem CF:BIf X [] L7:=⟨Ci⟩
theorem CG{t:TT}(h:BT X c t):BIf X [c] t:=⟨Cj h.h⟩
theorem Hz{r:R2}(ho:BOp X (compareOp op) r)(ha:BE X a ta)(hb:BE X b tb)(hm:behindInMarks op b=false):BT X (.Compare a [op] [b] pos) (qL (tOp r ta tb)):=⟨BL ho.h ha.h hb.h hm⟩
theorem wJ{tc:TE}{r:R2}(ho:BOp X (compareOp op) r)(ho':BOp X (compareOp op') r')(ha:BE X a ta)(hb:BE X b tb)(hc:BE X c tc)(hm:lastMarks [op,op'] [b,c]=false):BT X (.Compare a [op,op'] [b,c] pos) (qL (ko r r' ta tb tc)):=⟨vV ho.h ho'.h ha.h hb.h hc.h hm⟩
theorem HA(ha:BT X a tA):BT X (.UnaryOp .Not a pos) (LB tA):=⟨Gx ha.h⟩
theorem wt_w{t:TT}(h:BW X e t):BT X e t:=⟨h.h.pt⟩
theorem CH(ha:BT X a tA):BW X (.BoolOp .And [a] pos) tA:=⟨Bp ha.h⟩
theorem HB(ha:BT X a tA):BW X (.BoolOp .Or [a] pos) tA:=⟨Gv ha.h⟩
theorem HC{rest:List Expr}(ha:BT X a tA)(hb:BW X (.BoolOp .And (b::rest) pos) tB'):BW X (.BoolOp .And (a::b::rest) pos) (LA tA tB'):=⟨Gw ha.h hb.h⟩
theorem Mg{rest:List Expr}(ha:BT X a tA)(hb:BW X (.BoolOp .Or (b::rest) pos) tB'):BW X (.BoolOp .Or (a::b::rest) pos) (tOr tA tB'):=⟨LC ha.h hb.h⟩
theorem CI{f:Expr}{as:List Expr}{ks:List Keyword}{t:TE}(h:BE X (.Call f as ks pos) t):BT X (.Call f as ks pos) (tB t):=⟨Gu h.h (by intro _;cases f <;> rfl)⟩
def Mh(K:Frag)(ta:TE):TT:=λ σ H Q=>ta σ H λ x H'=>∃ k,Le K x H' k/\Q k H'
theorem CJ{t:TE}(K:Frag)(h:BE X (.Name x pos) t)(hK:X.K=K):BT X (.Name x pos) (Mh K t):=by subst hK;exact⟨mX h.h (λ _=>rfl)⟩
theorem CK(hN:X.N.Nodup)(hi:X.N[i]?=some x)(hx:Loc X.env.scope x)(hf:X.fn x=true∨X.env.scope.names.lookup x=some .local):BG X (.Name x pos) (eM i):=⟨Bz hN hi hx hf⟩
theorem CL:BGs X [] Lb:=⟨BB⟩
theorem wK{t:TG}{u:TGs}(h1:BG X e t)(h2:BGs X es u)(hs:(assignEach (e::es) X.env).map (·.2)=assign e X.env::(assignEach es X.env).map (·.2)):BGs X (e::es) (qA t u):=⟨vS h1.h h2.h hs⟩
theorem HD{t:TGs}{n:Nat}(K:Frag)(hc:X.calm=true)(h:BGs X es t)(hK:X.K=K)(hn:(assignEach es X.env).length=n)(hst:(assignEach es X.env).findIdx? (·.1)=none):BG X (.Tuple es k pos) (GC K n t):=⟨Cu K hc h.h hK hn hst⟩
theorem HE{i:Expr}{ti:TE}(ho:BE X o to)(hi:BE X i ti)
  (ha:∀ v,assign (.Subscript o i pos) X.env v=(do
   let ov ← holding [v] (eval o X.env)
   let iv ← holding [v,ov] (eval i X.env)
   standAt pos
   holding [v,ov,iv] (setItem ov iv v)
   release [v,ov,iv] [])):BG X (.Subscript o i pos) (LJ to ti Cb):=⟨GE ho.h hi.h wa ha⟩
theorem CM(K:Frag)(hl:BE X l tl)(hK:X.K=K):BI X tg l (l7 K tl):=⟨wB K hl.h hK⟩
theorem HF(K:Frag)(hl:BE X l tl)(hK:X.K=K):BI X tg l (Lc K tl):=⟨Cv K hl.h hK⟩
theorem HG(K:Frag)(hl:BE X l tl)(hK:X.K=K):BI X tg l (L8 tl):=⟨Ha hl.h⟩
theorem rQ{ta:TA}(hg:X.env.kindOf "range" = some .globalImplicit)(hm:X.mg "range" = none)(ha:BA X [a] ta)(hn:bx a=true):BI X tg (.Call (.Name "range" p) [a] [] pos) (BD ta):=⟨qE hg hm ha.h (bj hn)⟩
theorem rR{ta:TA}(hg:X.env.kindOf "range" = some .globalImplicit)(hm:X.mg "range" = none)(ha:BA X [a,b] ta)(hn:bx a=true)(hn2:bx b=true):BI X tg (.Call (.Name "range" p) [a,b] [] pos) (BF ta):=
 ⟨qF hg hm ha.h (by rw[bj hn,bj hn2];rfl) (by rw[bj hn2];rfl)⟩
theorem CN:BSs X [] Bs:=⟨Bt⟩
theorem CO{t:TS}(h:BS X st t):BSs X [st] t:=⟨Bu h.h⟩
theorem wL{rest:List Stmt}{t:TS}(h1:BS X st t)(h2:BSs X rest u):BSs X (st::rest) (LD t u):=⟨vO h1.h h2.h⟩
theorem wM :BS X (.Break pos) qy:=⟨vP⟩
theorem mj :BS X (.Continue pos) Bv:=⟨l6⟩
theorem CP(he:BE X e te)(hs:swapsWith e none pos.line X.env=pure false):BS X (.Expr e pos) (vQ te):=⟨Bw he.h hs⟩
theorem HH(he:BE X e te):BS X (.Return (some e) pos) (LF te):=⟨GB he.h⟩
theorem CQ :BS X (.Return none pos) Bx:=⟨By⟩
theorem Mi{a b:List Stmt}{t:TS}(hc:BT X c tc)(ha:BSs X a t)(hb:BSs X b u):BS X (.If c a b pos) (LG tc t u):=⟨LH hc.h ha.h hb.h⟩
theorem HI{pos':Pos}(hN:X.N.Nodup)(hi:X.N[i]?=some x)(hx:Loc X.env.scope x)(he:BE X e te)(hs:swapsWith e (some (.Name x pos')) pos.line X.env=pure false)(hf:X.fn x=true∨X.env.scope.names.lookup x=some .local) :
  BS X (.Assign [.Name x pos'] e pos) (o5 te (eM i)):=⟨GH hN hi hx he.h hs hf⟩
theorem HJ(he:BE X e te)(hg:BG X tg g)(hs:swapsWithSole [tg] e pos.line X.env=pure false)(hw:swappedStores [tg] e X.env=pure none)(h1:(assignEach [tg] X.env).map (·.2)=[assign tg X.env]):BS X (.Assign [tg] e pos) (o5 te g):=⟨GG he.h hg.h hs hw h1⟩
theorem HK{tb:TS}(hp:PassesOwn (model X.prog X.w) X.A X.env X.xe)(hc:X.calm=true)(hi:BI X tg iter wi)(hg:BG X tg g)(hb:BSs X body tb)(hs:∀ x,foldedSetIterable iter X.env x=pure x):BS X (.For tg iter body [] pos) (LK wi g tb):=⟨GJ hp hc hi.h hg.h hb.h hs⟩
theorem wN{tb:TS}(hp:PassesOwn (model X.prog X.w) X.A X.env X.xe)(hc:BT X c tc)(hb:BSs X body tb):BS X (.While c body [] pos) (qB tc tb):=⟨vT hp hc.h hb.h⟩
theorem CS:BOp X (binaryOp .Sub) (rI0 λ i j=>.int (i - j)):=⟨GL⟩
theorem CT:BOp X (binaryOp .Mult) (rI CMul λ i j=>.int (i*j)):=⟨GM⟩
theorem wO:BOp X (binaryOp .FloorDiv) (rI Gc λ i j=>.int (i / j)):=⟨BH⟩
theorem CU:BOp X (binaryOp .Mod) (rI (λ _ j=>0<j) λ i j=>.int (i % j)):=⟨GN⟩
theorem CV:BOp X (binaryOp .Pow) (rI Gd λ i j=>.int (i ^ j.toNat)):=⟨GO⟩
theorem HL(K:Frag)(hu:X.A.units+64<cLine)(h:X.K=K):BOp X (compareOp .Eq) (Lm K):=⟨Hl K hu h⟩
theorem HM(K:Frag)(hu:X.A.units+64<cLine)(h:X.K=K):BOp X (compareOp .NotEq) (Ln K):=⟨Hm K hu h⟩
def NC:R2:=λ x y H Q=>y=.non/\Q (.bl (decide (x=.non))) H
def HN:R2:=λ x y H Q=>y=.non/\Q (.bl (!decide (x=.non))) H
theorem CW:BOp X (compareOp .Is) NC:=⟨GQ⟩
theorem wQ:BOp X (compareOp .IsNot) HN:=⟨BJ⟩
theorem HP(K:Frag)(h:X.K=K):BCall X (.builtin "len") (Gg K):=⟨rK K h⟩
theorem HQ(hc:X.calm=true):BCall X (.builtin "max") Ma:=⟨rC hc⟩
theorem HR(hc:X.calm=true):BCall X (.builtin "min") Mb:=⟨rD hc⟩
theorem HS(K:Frag)(hc:X.calm=true)(h:X.K=K):BCall X (.builtin "all") (Lk K):=⟨rL K hc h⟩
theorem HU(K:Frag)(hc:X.calm=true)(h:X.K=K):BCall X (.builtin "any") (Ll K):=⟨rM K hc h⟩
theorem CY(K:Frag)(h:X.K=K):BMt X "str.join" (wx K):=⟨wA K h⟩
theorem rS(K:Frag)(h:X.K=K):BMt X "list.append" dG:=⟨kE⟩
theorem Fun.okB{P:Program}{w:World}{K:Frag}{mg:Str->Option Value}{base:Heap}{qual:Str}{f:Addr}{fd:FuncData}{N:List Str}(F:Fun K x qual st f fd)(S:FnScope N ps (au st))(len:∀ vs H Q E,sp vs H Q E->vs.length=ps.length)
  (hbody:∀ (cdv:Value) (A:Around) (outer:List Env) (s:Shared) (H:Hp) (vs:List V) (Q:VK) (E:XK),Room k (A.deeper (envOfC qual (au st) s.heap.objs.size f cdv))->sp vs H Q E ->
   ∃ t,BSs (qT CX0 P w K mg base N qual (au st) f cdv A outer s H E).nox (bF st) t/\t { nx:=λ _ H'=>Q .non H',rt:=Q } (start N vs) H):FnOk P w K mg base CX0 (k+1) f fd ps sp:=
 F.ok S len λ cdv A outer s H vs Q E hr h=>by
  obtain⟨t,h1,h2⟩:=hbody cdv A outer s H vs Q E hr h;exact⟨t,h1.h,h2⟩
end L2
namespace L2
open PySem
end L2
set_option maxHeartbeats 4000000
namespace KS
open PySem PySem.Spec PyProof.Rows
variable{xs order:Array Nat}{i j mask finger moves ep n c slot g:Nat}{led plain L:Bool}{hs:Array Int}{prog:Program}{w:World}{K α:Type}{A A':Around}{E Q:Value->Shared->Prop}{s:Shared}{h h':Heap}{a I pl:Addr}{o op:Obj}{es:Array (Int×Value)}{x:Value}{pls:Array Value}{Q':Option (Value×Nat)->Shared->Prop}
def Ris(xs:Array Nat):Prop:=xs.toList.Pairwise (·<·)
theorem Ris.lt(h:Ris xs){d:Nat}(hij:i<j)(hj:j<xs.size):xs.getD i d<xs.getD j d:=by
 have hi:i<xs.size:=aca hij hj;have q:=ab6.mp h i j (by exists hi) (by exists hj) hij;rw[Array.getD_eq_getD_getElem?,Array.getD_eq_getD_getElem?,Array.getElem?_eq_getElem hi,Array.getElem?_eq_getElem hj];simpa using q
theorem jB{xs:Array Nat}{j:Nat}(h:Ris xs):∀ (fuel lo hi:Nat),lo<=hi->hi<=xs.size->hi - lo<=fuel->(∀ k,k<lo->xs.getD k j<j)->(∀ k,hi<=k->k<xs.size->j<=xs.getD k j) ->
  SetTable.below.go xs j fuel lo hi<=xs.size/\(∀ k,k<SetTable.below.go xs j fuel lo hi->xs.getD k j<j)/\∀ k,SetTable.below.go xs j fuel lo hi<=k->k<xs.size->j<=xs.getD k j
 | 0,lo,hi,a,b,c,p,q=>by
  have e:hi=lo:=by nofun
  subst e;exact⟨b,p,q⟩
 | fuel+1,lo,hi,a,b,c,p,q=>by
  have e0:SetTable.below.go xs j (fuel+1) lo hi=if lo<hi then (if xs.getD ((lo+hi) / 2) j<j then SetTable.below.go xs j fuel ((lo+hi) / 2+1) hi else SetTable.below.go xs j fuel lo ((lo+hi) / 2)) else lo:=rfl;rw[e0];by_cases hlt:lo<hi
  ·rw[if_pos hlt];have hm:(lo+hi) / 2<hi:=by nofun
   by_cases hv:xs.getD ((lo+hi) / 2) j<j
   ·rw[if_pos hv];refine jB h fuel _ hi (by nofun) b (by nofun) (λ k hk=>?_) q;by_cases e:k=(lo+hi) / 2
    ·rw[e];exact hv
    ·exact aca (h.lt (i:=k) (j:=(lo+hi) / 2) (by nofun) (by nofun)) hv
   ·rw[if_neg hv];refine jB h fuel lo _ (by nofun) (by nofun) (by nofun) p λ k hk hs=>?_;by_cases e:k=(lo+hi) / 2
    ·rw[e];nofun
    ·have:=h.lt (i:=(lo+hi) / 2) (j:=k) (d:=j) (by nofun) hs;nofun
  ·rw[if_neg hlt];have e:hi=lo:=by nofun
   subst e;exact⟨b,p,q⟩
theorem fQ(h:Ris xs)(j:Nat):SetTable.below xs j<=xs.size/\(∀ k,k<SetTable.below xs j->xs.getD k j<j)/\∀ k,SetTable.below xs j<=k->k<xs.size->j<=xs.getD k j:=
 jB h _ _ _ (aaq _) (aac _) (by nofun) (λ k hk=>absurd hk (Nat.not_lt_zero _)) λ k hk hs=>absurd hs (by nofun)
theorem pz(h:Ris xs):SetTable.below xs 0=0:=by
 obtain⟨_,b,_⟩:=fQ h 0;by_cases e:SetTable.below xs 0=0
 ·exact e
 ·exact absurd (b 0 (by nofun)) (Nat.not_lt_zero _)
theorem pA(h:Ris xs){p:Nat}(e:xs[i]?=some p):SetTable.below xs (p+1)=i+1:=by
 obtain⟨hi,ep⟩:=Array.getElem?_eq_some_iff.mp e;obtain⟨a,b,c⟩:=fQ h (p+1);have g:∀ d,xs.getD i d=p:=λ d=>by rw[Array.getD_eq_getD_getElem?,e];rfl
 by_cases l:SetTable.below xs (p+1)<=i
 ·have:=c i l hi;rw[g] at this;nofun
 ·by_cases r:SetTable.below xs (p+1)=i+1
  ·exact r
  ·have h1:=b (i+1) (by nofun);have h2:=h.lt (i:=i) (j:=i+1) (d:=p+1) (by nofun) (by nofun);rw[g] at h2;nofun
def NotIn(xs:Array Nat)(j:Nat):Prop:=xs[SetTable.below xs j]?≠some j
theorem pB(h:Ris xs)(n:NotIn xs j):Ris (SetTable.insertAt xs (SetTable.below xs j) j):=by
 obtain⟨a,b,c⟩:=fQ h j;unfold NotIn at n;generalize SetTable.below xs j=p at a b c n
 have e:(SetTable.insertAt xs p j).toList=xs.toList.take p++j::xs.toList.drop p:=by
  unfold SetTable.insertAt;simp[Array.toList_extract,List.extract_eq_drop_take,Array.length_toList];exact aal (by rw[abB,abU];exact aac _)
 have lo:∀ x∈xs.toList.take p,x<j:=by
  intro x hx;obtain⟨k,hk⟩:=List.mem_iff_getElem?.mp hx;rw[List.getElem?_take] at hk;split at hk
  ·rename_i hkp;have:=b k hkp;rw[Array.getD_eq_getD_getElem?,← Array.getElem?_toList,hk] at this;exact this
  ·cases hk
 have hi:∀ x∈xs.toList.drop p,j<x:=by
  intro x hx;obtain⟨k,hk⟩:=List.mem_iff_getElem?.mp hx;rw[List.getElem?_drop] at hk
  have hs:p+k<xs.size:=by
   have:=(List.getElem?_eq_some_iff.mp hk).1;simpa using this
  have q:=c (p+k) (by nofun) hs;rw[Array.getD_eq_getD_getElem?,← Array.getElem?_toList,hk] at q;have q:j<=x:=q;rcases Nat.lt_or_ge j x with z|z
  ·exact z
  ·have ex:x=j:=by nofun
   subst ex;exfalso;by_cases k0:k=0
   ·subst k0;exact n (by rw[← Array.getElem?_toList];exact hk)
   ·have g1:=h.lt (i:=p) (j:=p+k) (d:=x) (by nofun) hs;have g2:=c p (aac _) (by nofun);have g3:xs.getD (p+k) x=x:=by rw[Array.getD_eq_getD_getElem?,← Array.getElem?_toList,hk];rfl
    nofun
 unfold Ris;rw[e];refine List.pairwise_append.mpr ⟨List.Pairwise.sublist (aaV p _) h,List.pairwise_cons.mpr ⟨hi,List.Pairwise.sublist (List.drop_sublist p _) h⟩,λ x hx y hy=>?_⟩;rcases abQ.mp hy with rfl|hy
 ·exact lo x hx
 ·exact aca (lo x hx) (hi y hy)
theorem kM(t:SetTable)(p:SetTable.Probe):(t.advance p).dummy=p.dummy:=by
 unfold SetTable.advance;split
 ·rfl
 ·rfl
theorem fR{t:SetTable}{f:Nat->Int}{h:Int}:∀ (fuel:Nat) (p:SetTable.Probe) (j:Nat) (d:Option Nat),(∀ x,p.dummy=some x->NotIn t.place x)->SetTable.probe.go t f h fuel p=some (.empty j d)->NotIn t.place j/\∀ x,d=some x->NotIn t.place x
 |0,p,j,d,_,e=>by unfold SetTable.probe.go at e;cases e
 | fuel+1,p,j,d,hp,e=>by
  unfold SetTable.probe.go at e
  have ns:∀ {s:SetTable.Slot},t.slot p.j=s->(∀ i,s≠.live i)->NotIn t.place p.j:=by
   intro s es hs hn;unfold SetTable.slot at es;dsimp only at es;rw[if_pos (by rw[hn];simp)] at es;exact hs _ es.symm
  cases hsl:t.slot p.j with
  | empty=>
   rw[hsl] at e;have e:=aaj e;injection e with e1 e2
   subst e1 e2;exact⟨ns hsl (λ i z=>nomatch z),hp⟩
  | dummy=>
   rw[hsl] at e;refine fR fuel _ j d (λ x hx=>?_) e;rw[kM] at hx;have hx:some p.j=some x:=hx;injection hx with hx
   rw[← hx];exact ns hsl λ i z=>nomatch z
  | live i=>
   rw[hsl] at e;dsimp only at e;split at e
   ·cases e
   ·exact fR fuel _ j d (λ x hx=>hp x (by rw[kM] at hx;exact hx)) e
theorem pD{t:SetTable}{h:Int}{b:Bool}(e:t.freeSlot h=some (j,b)):NotIn t.place j:=by
 unfold SetTable.freeSlot at e;split at e
 ·rename_i j' d hp;obtain⟨h1,h2⟩:=fR _ _ _ _ (λ x hx=>by cases (show (none:Option Nat)=some x from hx)) hp;have e:=aaj e;have e1:d.getD j'=j:=congrArg Prod.fst e;subst e1
  cases d with
  |none=>exact h1
  |some x=>exact h2 x rfl
 ·cases e
theorem CZ(t:SetTable)(es:Array (Int×Value))(h:Int)(x:Value)(hr:t.plain=true->Ris t.place):(layNew t es h x).2.1.plain=true->Ris (layNew t es h x).2.1.place:=by
 unfold layNew;split
 ·rename_i slot wd e;dsimp only;unfold SetTable.orStandIn;split
  ·intro hp;have hp:t.plain=true:=hp;exact pB (hr hp) (pD e)
  ·exact λ z=>by cases z
 ·exact λ z=>by cases z
theorem wR{t:SetTable}(h:SetTable.laid mask finger moves led plain hs=some (t,order)):Ris t.place:=by
 unfold SetTable.laid at h
 cases e:SetTable.layClean mask hs with
 |none=>rw[e] at h;cases h
 | some owner=>
  rw[e] at h;have h':=aaj h;rw[← congrArg (λ p=>p.1.place) h'];dsimp only;unfold Ris;rw[List.toList_toArray,List.pairwise_map];refine List.Pairwise.filterMap _ (R:=(·<·)) (λ a a' haa b hb b' hb'=>?_) List.pairwise_lt_range;obtain⟨y,_,rfl⟩:=ab8.mp hb;obtain⟨y',_,rfl⟩:=ab8.mp hb';exact haa
theorem rT(t:SetTable)(es:Array (Int×Value))(wanted:Nat):(relayAll t es wanted).2.1.plain=true->Ris (relayAll t es wanted).2.1.place:=by
 unfold relayAll;split
 ·rename_i t' order e;dsimp only;split
  ·exact λ _=>wR (show SetTable.laid _ _ _ t.led t.plain _=some (t',order) from e)
  ·exact λ z=>by cases z
 ·exact λ z=>by cases z
theorem C5(t:SetTable)(es:Array (Int×Value))(h:Int)(x:Value):(layNew t es h x).2.1.led=t.led/\((layNew t es h x).2.1.plain=true->t.plain=true):=by
 unfold layNew;split
 ·dsimp only;unfold SetTable.orStandIn;split
  ·exact⟨rfl,λ z=>z⟩
  ·exact⟨rfl,λ z=>by cases z⟩
 ·exact⟨rfl,λ z=>by cases z⟩
theorem wU{t:SetTable}(h:SetTable.laid mask finger moves led plain hs=some (t,order)):t.led=led/\t.plain=plain:=by
 unfold SetTable.laid at h
 cases e:SetTable.layClean mask hs with
 |none=>rw[e] at h;cases h
 | some owner=>
  rw[e] at h;have h':=aaj h;exact⟨(congrArg (λ p=>p.1.led) h').symm,(congrArg (λ p=>p.1.plain) h').symm⟩
theorem rV(t:SetTable)(es:Array (Int×Value))(wanted:Nat):(relayAll t es wanted).2.1.led=t.led/\((relayAll t es wanted).2.1.plain=true->t.plain=true):=by
 unfold relayAll;split
 ·rename_i t' order e;have q:=wU (show SetTable.laid _ _ _ t.led t.plain _=some (t',order) from e);dsimp only;split
  ·exact⟨q.1,λ z=>by rw[q.2] at z;exact z⟩
  ·exact⟨rfl,λ z=>by cases z⟩
 ·exact⟨rfl,λ z=>by cases z⟩
section
variable    [DecidableEq K] (knd:KeyKind prog w K)
def SetZ(h:Heap)(a:Addr)(σ:List K)(L:Bool):Prop:=
 ∃ o es ep t,h.get? a=some o/\o.ExactSet/\o.data=.set es ep t/\ElemsOf knd es.toList/\(∀ k,k∈σ↔∃ e∈es.toList,knd.is k e.2=true)/\es.size<scanBound/\t.fits es.size=true/\es.size=σ.length/\σ.Nodup/\t.led=L/\(t.plain=true->Ris t.place)
def dedup1(σ:List K)(k:K):List K:=if k∈σ then σ else σ++[k]
variable {knd}   
theorem nodup_snoc{σ:List K}{k:K}(h:σ.Nodup)(hk:k∉σ):(σ++[k]).Nodup:=by
 rw[abV];refine⟨h,by simp,λ x hx y hy e=>?_⟩;have hy:y=k:=(by exists hy);rw[e,hy] at hx;exact hk hx
theorem SetZ.at{σ:List K}(hS:SetZ knd h a σ L)(k:∀ o,h.get? a=some o->h'.get? a=some o):SetZ knd h' a σ L:=by
 obtain⟨o,es,ep,t,ho,r⟩:=hS;exact⟨o,es,ep,t,k o ho,r⟩
theorem ND{t:SetTable}(ho:h.get? a=some o)(hd:o.data=.set es ep t)(es':Array (Int×Value))(t':SetTable) :
  (h.update a (Obj.putSet es' t')).get? a=some { o with data:=.set es' (ep+1) t' }:=by
 have q:=Heap.get?_update_self (Obj.putSet es' t') ho (by rw[putSet_of es' t' hd];rfl);rw[putSet_of es' t' hd] at q;exact q
theorem C6{g:Bool->Sem Unit}(hg:∀ (b:Bool) (s₁:Shared) (Q':Unit->Shared->Prop),Q' () s₁->wpAny (model prog w) A (g b) Q' E s₁)
      {t:SetTable} (ho:s.heap.get? a=some o) (hex:o.ExactSet) (hd:o.data=.set es ep t)
  {es1:Array (Int×Value)} {t2:SetTable} {τ:List K}  (hel:ElemsOf knd es1.toList) (hm:∀ k',k'∈τ↔∃ e∈es1.toList,knd.is k' e.2=true)
  (hb:es1.size<scanBound) (hf:t2.fits es1.size=true) (hn:es1.size=τ.length) (hnd:τ.Nodup) (hled:t2.led=L) (hpl:t2.plain=true->Ris t2.place) {wasDummy:Bool} {R:Option Bool->Shared->Prop}
  (h:∀ h',Heap.SameBut a s.heap h'->SetZ knd h' a τ L->R (some true) { s with heap:=h' }) :
  wpAny (model prog w) A (do
    storeSet a es1 t2
    if (!wasDummy&&t2.tooFull)=true then do
      g (relayAll t2 es1 (SetTable.grown es1.size)).2.2
      storeSet a (relayAll t2 es1 (SetTable.grown es1.size)).1 (relayAll t2 es1 (SetTable.grown es1.size)).2.1
      pure (some true)
     else pure (some true)) R E s:=by
 refine aaa (wpAny_storeSet_of ho hd ?_ (fits_of_scanBound hb));have g1:=ND ho hd es1 t2;have b1:=Heap.SameBut.update s.heap a (Obj.putSet es1 t2);split
 ·have hp:=relayAll_perm t2 es1 (SetTable.grown es1.size);have hfr:=relayAll_fits t2 es1 (SetTable.grown es1.size);have hlr:=rV t2 es1 (SetTable.grown es1.size);have hrr:=rT t2 es1 (SetTable.grown es1.size);generalize hR:relayAll t2 es1 (SetTable.grown es1.size)=Y at hp hfr hlr hrr ⊢;obtain⟨es2,t3,gave⟩:=Y;dsimp only at hp hfr hlr hrr ⊢;have z2:es2.size=es1.size:=by rw[← Array.length_toList,hp.length_eq,Array.length_toList]
  refine aaa (hg _ _ _ ?_);refine aaa (wpAny_storeSet_of g1 rfl ?_ (fits_of_scanBound (by rw[z2];exact hb)))
  exact aae (h _ (b1.trans (Heap.SameBut.update _ a _)) ⟨_,es2,_,t3,ND g1 rfl es2 t3,hex,rfl,hel.perm hp,λ k'=>(hm k').trans ⟨fun⟨e,he,q⟩=>⟨e,hp.mem_iff.mpr he,q⟩,fun⟨e,he,q⟩=>⟨e,hp.mem_iff.mp he,q⟩⟩,
   by rw[z2];exact hb,hfr,z2.trans hn,hnd,hlr.1.trans hled,hrr⟩)
 ·exact aae (h _ b1 ⟨_,es1,_,t2,g1,hex,rfl,hel,hm,hb,hf,hn,hnd,hled,hpl⟩)
theorem addZ{σ:List K}{k:K}{Q:Bool->Shared->Prop}(hkey:knd.is k x=true)(hsc:x.scannable=true)(hS:SetZ knd s.heap a σ L)(hroom:σ.length+1<scanBound)
  (h:∀ b h',Heap.SameBut a s.heap h'->SetZ knd h' a (dedup1 σ k) L->Q b { s with heap:=h' }):wpAny (model prog w) A (setAddHashed a x (knd.hash k)) Q E s:=by
 obtain⟨o,es,ep,t,ho,hex,hd,hel,hm,hb,hf,hn,hnd,hled,hpl⟩:=id hS;unfold setAddHashed setAddHashedIn;refine aaI (aaa (abi ho hd hf ?_));dsimp only;rw[byScan_of hsc hb hel];simp only[↓reduceIte];unfold setAddByScan;refine aaa ?_;refine aaa (abH ?_);refine aaa (wpAny_setScan_of hkey ho hd hf hel ?_)
 cases hr:List.findIdx? (λ e=>knd.is k e.2) es.toList with
 | some j=>
  dsimp only;obtain⟨hj,hpj,_⟩:=List.findIdx?_eq_some_iff_getElem.mp hr;have hk:k∈σ:=(hm k).mpr ⟨es.toList[j],aaH hj,hpj⟩;refine aae (aae ?_);have q:=h false s.heap (Heap.SameBut.refl a s.heap) (by unfold dedup1;rw[if_pos hk];exact hS);exact q
 | none=>
  dsimp only
  have hk:k∉σ:=λ z=>by
   obtain⟨e,he,hp⟩:=(hm k).mp z;have:=List.findIdx?_eq_none_iff.mp hr e he;rw[hp] at this;cases this
  have way:∀ (b:Bool) {s₁:Shared} {Q':Unit->Shared->Prop},Q' () s₁->wpAny (model prog w) A (match b with|true=>rule "set.scan.the-table-gave-way" | false=>pure ()) Q' E s₁:=λ b s₁ Q' hq=>by
   cases b
   ·exact aae hq
   ·exact abH hq
  have hp:=layNew_perm t es (knd.hash k) x;have hfi:=layNew_fits t es (knd.hash k) x;have hll:=C5 t es (knd.hash k) x;have hlr:=CZ t es (knd.hash k) x hpl;generalize hL:layNew t es (knd.hash k) x=Y at hp hfi hll hlr ⊢;obtain⟨es1,t1,wasDummy,gave⟩:=Y;dsimp only at hp hfi hll hlr ⊢;rw[Array.toList_push] at hp;have z1:es1.size=es.size+1:=by rw[← abU,hp.length_eq,aag,abU];rfl
  have hel1:ElemsOf knd es1.toList:=(hel.push hkey hsc).perm hp
  have hm1:∀ k',k'∈σ++[k]↔∃ e∈es1.toList,knd.is k' e.2=true:=λ k'=>by
   rw[abL,hm k',abN];constructor
   ·rintro (⟨e,he,q⟩|rfl)
    ·exact⟨e,hp.mem_iff.mpr (aam _ he),q⟩
    ·exact⟨_,hp.mem_iff.mpr (aai _ (abN.mpr rfl)),hkey⟩
   ·rintro⟨e,he,q⟩;rcases abL.mp (hp.mem_iff.mp he) with he|he
    ·exact .inl ⟨e,he,q⟩
    ·rw[abN] at he;subst he;exact .inr (knd.inj x k' k q hkey)
  refine aaa (way _ ?_);have fin:∀ h',Heap.SameBut a s.heap h'->SetZ knd h' a (σ++[k]) L->Q true { s with heap:=h' }:=λ h' b' z=>h true h' b' (by unfold dedup1;rw[if_neg hk];exact z);have hn1:es1.size=(σ++[k]).length:=by rw[aag,z1,hn];rfl
  split
  ·refine aaa ?_;rw[hashByValue_scannable 8 hsc];refine aae ?_
   cases hpk:plainKind x with
   | false=>
    refine C6 ?_ ho hex hd hel1 hm1 (by nofun) (by rw[if_neg (by decide)];exact SetTable.fits_plain_off hfi) hn1 (nodup_snoc hnd hk) (L:=L) (by rw[if_neg (by decide)];exact hll.1.trans hled) (by rw[if_neg (by decide)];exact λ z=>nomatch z) ?_
    ·intro b s₁ Q' hq;exact way b hq
    ·intro h' b' z;dsimp only;exact aae (fin h' b' z)
   | true=>
    refine C6 ?_ ho hex hd hel1 hm1 (by nofun) (by rw[if_pos rfl];exact hfi) hn1 (nodup_snoc hnd hk) (L:=L) (by rw[if_pos rfl];exact hll.1.trans hled) (by rw[if_pos rfl];exact hlr) ?_
    ·intro b s₁ Q' hq;exact way b hq
    ·intro h' b' z;dsimp only;exact aae (fin h' b' z)
  ·rename_i hpf;refine aaa (aae ?_);simp only[↓reduceIte];refine C6 ?_ ho hex hd hel1 hm1 (by nofun) hfi hn1 (nodup_snoc hnd hk) (L:=L) (hll.1.trans hled) hlr ?_
   ·intro b s₁ Q' hq;exact way b hq
   ·intro h' b' z;dsimp only;exact aae (fin h' b' z)
def metZ(val:Nat->K)(i:Nat):List K:=((List.range i).map val).foldl dedup1 []
theorem g7(val:Nat->K)(i:Nat):metZ val (i+1)=dedup1 (metZ val i) (val i):=by
 unfold metZ;rw[List.range_succ,aaf,abj];rfl
theorem metZ_len(val:Nat->K):∀ i,(metZ val i).length<=i
 |0=>aac _
 | i+1=>by
  rw[g7];have ih:=metZ_len val i;unfold dedup1;split
  ·nofun
  ·rw[aag,aa2];nofun
theorem metZ_mem(val:Nat->K):∀ (i:Nat) (k:K),k∈metZ val i↔∃ j,j<i/\val j=k
 | 0,k=>by
  constructor
  ·intro h;cases h
  ·rintro⟨j,hj,_⟩;nofun
 | i+1,k=>by
  have e:k∈metZ val (i+1)↔k∈metZ val i∨val i=k:=by
   rw[g7];unfold dedup1;split
   ·rename_i h;exact⟨.inl,λ z=>z.elim id λ z=>z ▸ h⟩
   ·rw[abL,abN];exact⟨λ z=>z.imp id Eq.symm,λ z=>z.imp id Eq.symm⟩
  rw[e,metZ_mem val i k];constructor
  ·rintro (⟨j,hj,q⟩|q)
   ·exact⟨j,by nofun,q⟩
   ·exact⟨i,by nofun,q⟩
  ·rintro⟨j,hj,q⟩;by_cases z:j=i
   ·exact .inr (z ▸ q)
   ·exact .inl ⟨j,by nofun,q⟩
theorem C7{R:Result->Shared->Prop}{fp wr:List Addr}{G:Array GenState->Array GenState->Prop}{P:Nat->Value->Prop}{St:Nat->Shared->Prop}(W:WalksS prog w A.in1 I fp wr G n P St)(S:Addr)(hSf:S∉fp)
  (val:Nat->K) (hval:∀ i v,P i v->knd.is (val i) v=true/\v.scannable=true) (hb:n+1<scanBound) :
  ∀ (k i:Nat) (s:Shared),n - i=k->i<=n->St i s->SetZ knd s.heap S (metZ val i) L ->
   (∀ s',Moved (S::wr) G s s'->SetZ knd s'.heap S (metZ val n) L->R (.ok (.ret .none)) s') ->
   codeAny (model prog w) A (.builtin "set.update.loop" ⟨[.ref S,.ref I],[]⟩) R s:=by
 have hSw:S∉wr:=λ h=>hSf (W.sub _ h);have hsub:∀ b∈wr,b∈S::wr:=λ b hb=>aad _ hb;intro k
 induction k with
 | zero=>
  intro i s hk hi hst hS hR;obtain rfl:i=n:=by nofun
  refine codeAny_builtin PyProof.Rows.F.entry_set_update_loop ?_;rw[aaJ abm _];show wpAny _ A.in1 (pyNext (.ref I) >>= _) _ _ s;refine aaa (W.done s _ _ hst λ s' hm=>?_);show wpAny _ A.in1 (ret Value.none) _ _ s';exact aae (hR s' (hm.mono hsub) (hS.at λ o ho=>hm.heap S o hSw ho))
 | succ k ih=>
  intro i s hk hi hst hS hR;have hlt:i<n:=by nofun
  refine codeAny_builtin PyProof.Rows.F.entry_set_update_loop ?_;rw[aaJ abm _];show wpAny _ A.in1 (pyNext (.ref I) >>= _) _ _ s;refine aaa (W.item i s _ _ hlt hst λ v s' hP hst' hm=>?_);obtain⟨hv1,hv2⟩:=hval i v hP;have hS':SetZ knd s'.heap S (metZ val i) L:=hS.at λ o ho=>hm.heap S o hSw ho;show wpAny _ A.in1 (holding [v] (setAdd S v) >>= _) _ _ s';refine aaa (aaI ?_);unfold setAdd;refine aaI ?_;refine aaa (knd.pyHash (k:=val i) hv1 ?_);refine addZ (s:={ s' with toks:=s'.toks+1 }) hv1 hv2 hS' (by have:=metZ_len val i;nofun) λ b h' hsb hS2=>?_;rw[← g7] at hS2;refine aae ⟨plainId_quiet abm _,ih (i+1) _ (by nofun) hlt (W.frame _ s' _ _ hst' (aaX _) λ b hb o e=>?_) hS2 λ s'' hm'' hS''=>?_⟩
  ·rw[hsb.2 b (λ h:b=S=>hSf (by rw[← h];exact hb))];exact e
  ·refine hR s'' (Moved.trans W.gtrans ((hm.mono hsub).then_heap (aaX _) λ b o hb e=>?_) hm'') hS'';rw[hsb.2 b (λ h:b=S=>hb (by rw[h];exact aab))];exact e
end
abbrev byText(w:World):Bool:=w.params.followText "set-order"
abbrev b6(w:World):Obj:={ cls:=.type "set", dict:=none,data:=.set #[] 0 (.fresh 0 0 (!byText w)) }
theorem C8(a:Value){Q₁:Value->Shared->Prop}(h:Q₁ (.ref s.heap.objs.size) { s with heap:=s.heap.push (b6 w) }) :
  codeAny (model prog w) A (.call (.builtin "set.__new__") ⟨[.type "set", a],[]⟩) (wants Q₁ E) s:=by
 refine codeAny_of_tree ?_;show wpAny _ A.in1 (do checkBuiltinCall "set.__new__" ⟨[.type "set", a],[]⟩;again (.builtin "set.__new__" ⟨[.type "set", a],[]⟩)) _ _ s;refine aaa (wpAny_of_eq (F.newCall_set_1 a) (aae ⟨plainId_quiet F.plain_set_new _,codeAny_builtin F.entry_set_new ?_⟩));rw[aaJ F.plain_set_new _];unfold Builtin.«set.__new__» Builtin.Frozenset.newClass;have hsub:=sub_set_self;obtain⟨hp,g,d,tk,os⟩:=s;dsimp only
 wp_walk
 refine abn (aae ?_);dsimp only;simp only[newObj];refine aaa (wpAny_alloc (aae ?_));exact aae h
section
variable    [DecidableEq K] {knd:KeyKind prog w K}   
theorem HV(ho:h.get? a=some (b6 w)):SetZ knd h a [] (!byText w):=
 ⟨_,#[],0,_,ho,⟨rfl,rfl,rfl⟩,rfl,λ e he=>by simp at he,λ k=>by simp,by decide,rfl,rfl,aaB,rfl,λ _=>List.Pairwise.nil⟩
set_option maxRecDepth 100000 in
set_option maxHeartbeats 8000000 in
theorem set_of_list{l:Addr}{items:Array Value}(hh:A.handled=none)(hl:s.heap.IsList l items)(val:Nat->K)
  (hval:∀ i v,items[i]?=some v->knd.is (val i) v=true/\v.scannable=true) (hb:items.size+1<scanBound)
  (h:∀ (h':Heap) (tk:Nat),SetZ knd h' s.heap.objs.size (metZ val items.size) (!byText w)->(∀ b o,b<s.heap.objs.size->s.heap.get? b=some o->h'.get? b=some o)->Q (.ref s.heap.objs.size) { s with heap:=h',toks:=tk }) :
  wpAny (model prog w) A (call (.type "set") [.ref l]) Q E s:=by
 obtain⟨c,tl,hmro⟩:=F.called_set.mro;have hmade:=F.called_set.made;have hsub:=F.called_set.sub;refine wpAny_call (codeAny_of_tree ?_);show wpAny _ _ (callAny (.type "set") _) _ _ _;refine aae ⟨Code.quiet_builtin _ (by decide +kernel),codeAny_builtin F.entry_type_call ?_⟩;rw[Around.under_plain (weight_type_call_type "set" [.ref l] []) rfl];have h1:=F.called_set.notType;have h2:=F.called_set.canCreate;have hct:=F.typeCall_set_1 (.ref l)
 repeat (any_goals (first|assumption|wp_step))
 refine codeAny_mono (C8 (.ref l) (E:=E) (Q₁:=λ obj s₁=>obj=.ref s.heap.objs.size/\s₁={ s with heap:=s.heap.push (b6 w) }) ⟨rfl,rfl⟩) λ r s₁ hr=>?_
 cases r with
 |error e=>exact hr
 | ok fl=>
  cases fl with
  | ret obj=>
   obtain⟨rfl,rfl⟩:=hr;have hS:(s.heap.push (b6 w)).get? s.heap.objs.size=some (b6 w):=Heap.get?_push_size _ rfl;have hT:Shared.TypeIs { s with heap:=s.heap.push (b6 w) } (.ref s.heap.objs.size) "set" := ⟨_,hS,rfl⟩;have hli:=F.called_set.init.lookup;have hbi:=F.called_set.init.bind (.ref s.heap.objs.size)
   repeat (any_goals (first|assumption|wp_step))
   refine codeAny_mono (codeAny_call_builtin (R:=wants (λ r s₂=>r=.none/\∃ h' tk,s₂={ s with heap:=h',toks:=tk } /\
     SetZ knd h' s.heap.objs.size (metZ val items.size) (!byText w)/\(∀ b o,b<s.heap.objs.size->s.heap.get? b=some o->h'.get? b=some o)) E) F.called_set.init.plain F.entry_set_init (check_set_init_1 hT ?_)) λ r₂ s₂ hr₂=>?_
   ·obtain⟨ol,hol,hcl,nl,hdl⟩:=hl;obtain⟨ocls,odict,odata,oslots⟩:=ol;simp only at hcl hdl;subst hcl;subst hdl;have hol':(s.heap.push (b6 w)).get? l=some { cls:=.type "list", dict:=odict,data:=.seq items nl,slots:=oslots }:=Heap.get?_push_of_some _ hol;have hsls:=F.sub_list_set;have hslf:=F.sub_list_frozenset;have hne:(Value.type "list" == Value.type "dict")=false:=by decide
    have hl1:(s.heap.push (b6 w)).IsList l items:=⟨_,hol',rfl,nl,rfl⟩;unfold Builtin.«set.__init__» noKeywords Builtin.Frozenset.updateFrom;generalize hPI:pyIter=PI
    wp_walk
    subst hPI;refine wpAny_pyIter_list hl1 ?_;refine aaa (wpAny_runValue ?_);have hlS:l<s.heap.objs.size:=aah hol;have hh3:A.in1.in1.in1.handled=none:=by simp[hh]
    have hneI:l≠(s.heap.push (b6 w)).objs.size:=by
     rw[aaU];exact aak (aaM hlS)
    have hSf:s.heap.objs.size∉[(s.heap.push (b6 w)).objs.size,l]:=by
     rw[aaU];simp only[List.mem_cons,List.mem_singleton,List.not_mem_nil,or_false,not_or];exact⟨aak (aaE _),Nat.ne_of_gt hlS⟩
    refine C7 (knd:=knd) ((Walks.list hh3 _ l hneI items).toS) s.heap.objs.size hSf val (λ i v hv=>hval i v hv) hb (items.size - 0) 0 _ (by nofun) (aaq _)
     ⟨⟨_,Heap.get?_push_size _ rfl,rfl,rfl⟩,(hl1.push _)⟩ (HV (Heap.get?_push_of_some _ hS)) ?hR
    case hR=>
     intro s' hm hS';obtain⟨h',g',d',tk',os'⟩:=s';have eg:g'=s.gens:=hm.gens;have ed:d'=s.drawn:=hm.drawn;have eo:os'=s.os:=hm.os;subst eg;subst ed;subst eo;show wpAny _ _ _ _ _ _;refine aae ?_;show wpAny _ _ (ret Value.none) _ _ _;refine aae ⟨rfl,h',tk',rfl,hS',λ b o hb e=>?_⟩;have hb1:b≠s.heap.objs.size:=aak hb
     have hb2:b≠(s.heap.push (b6 w)).objs.size:=by
      rw[aaU];exact aak (aaM hb)
     exact hm.heap b o (by simp only[List.mem_cons,List.mem_singleton,List.not_mem_nil,or_false,not_or];exact⟨hb1,hb2⟩) (Heap.get?_push_of_some _ (Heap.get?_push_of_some _ e))
   ·cases r₂ with
    |error e=>exact hr₂
    | ok fl₂=>
     cases fl₂ with
     | ret r=>
      obtain⟨rfl,h',tk,rfl,hS',hk'⟩:=hr₂
      repeat (any_goals (first|assumption|wp_step))
      exact h _ _ hS' hk'
     |next=>exact hr₂.elim
     |brk=>exact hr₂.elim
     |cont=>exact hr₂.elim
  |next=>exact hr.elim
  |brk=>exact hr.elim
  |cont=>exact hr.elim
end
theorem iP:entryFor table "set.__iter__" = some Builtin.«frozenset.__iter__»:=entryFor_alias (id' := "frozenset.__iter__") (by kernel_rfl) rfl (by decide +kernel) (by kernel_rfl)
theorem jC(a:Value):argsOk "set.__iter__" ⟨[a],[]⟩:=by unfold argsOk;kernel_rfl
theorem eA:Slot "set_iterator" "__iter__" "set_iterator.__iter__":=
 .of (owner := "set_iterator") (n := "__iter__") (by rw[typeLookup_type,builtinLookup_eq_fast];kernel_rfl) (by decide +kernel) (by decide +kernel) (by decide +kernel)
  (by first|exact .inl (by decide +kernel)|exact .inr (by decide +kernel)) (by rw[isSubtype_type];kernel_rfl)
theorem aL:Slot "set_iterator" "__next__" "set_iterator.__next__":=
 .of (owner := "set_iterator") (n := "__next__") (by rw[typeLookup_type,builtinLookup_eq_fast];kernel_rfl) (by decide +kernel) (by decide +kernel) (by decide +kernel)
  (by first|exact .inl (by decide +kernel)|exact .inr (by decide +kernel)) (by rw[isSubtype_type];kernel_rfl)
theorem g8:entryFor table "set_iterator.__iter__" = some Builtin.«dict_keyiterator.__iter__»:=entryFor_alias (id' := "dict_keyiterator.__iter__") (by kernel_rfl) rfl (by decide +kernel) (by kernel_rfl)
theorem b7:entryFor table "set_iterator.__next__" = some Builtin.«set_iterator.__next__»:=entryFor_of_fast (by kernel_rfl)
theorem iQ(a:Value):argsOk "set_iterator.__iter__" ⟨[a],[]⟩:=by unfold argsOk;kernel_rfl
theorem cm(a:Value):argsOk "set_iterator.__next__" ⟨[a],[]⟩:=by unfold argsOk;kernel_rfl
theorem fS{α:Type}:∀ (l:List α) (i:Nat) (h:i<l.length),(l[i]::l.eraseIdx i).Perm l
 |[],_,h=>by simp at h
 |x::l,0,_=>.refl _
 | x::l,i+1,h=>by
  have h':i<l.length:=(by exists h);show (l[i]::x::l.eraseIdx i).Perm (x::l);exact(List.Perm.swap x l[i] _).trans (List.Perm.cons x (fS l i h'))
theorem kN{k:Nat->Sem α}{Q:α->Shared->Prop}{M:Model}(hn:n≠0)(h:∀ i d',i<n->wpAny M A (k i) Q E { s with drawn:=d' }):wpAny M A (choose .order n >>= k) Q E s:=by
 intro Γ p hΓ;refine⟨hn,h _ _ (Nat.mod_lt _ (Nat.pos_of_ne_zero hn)) Γ p hΓ⟩
theorem i8{α:Type}{M:Model}:∀ (n:Nat) (xs:List α) (s:Shared) (Q:List α->Shared->Prop),xs.length=n->(∀ ys d',ys.Perm xs->Q ys { s with drawn:=d' })->wpAny M A (drawOrder n xs) Q E s
 | 0,xs,s,Q,hl,h=>by
  have e:xs=[]:=aaA hl;subst e;exact aae (h [] s.drawn (.refl _))
 |n+1,[],s,Q,hl,h=>by simp at hl
 | n+1,x::xs,s,Q,hl,h=>by
  refine kN (by simp) λ i d1 hi=>?_;have hx:(x::xs)[i]?=some (x::xs)[i]:=List.getElem?_eq_getElem hi;rw[hx];dsimp only;refine aaa (i8 n ((x::xs).eraseIdx i) _ _ (by rw[List.length_eraseIdx_of_lt hi];simpa using hl) λ ys d' hp=>aae (h _ d' ?_));exact(List.Perm.cons _ hp).trans (fS _ i hi)
section
abbrev cT(first:Value)(i:Nat)(x:Value)(n ep:Nat):Obj:={ cls:=.type "set_iterator", dict:=none,data:=.fields #[first,.int (i:Int) 0,x,.int (n:Int) 0,.int (ep:Int) 0],slots:=#[] }
theorem rW{I:Addr}{Q:Option Value->Shared->Prop}(hh:A.handled=none)(hQ:∀ h',(∀ b o,s.heap.get? b=some o->h'.get? b=some o)->Q none { s with heap:=h' }){QQ:PySem.Fin->Shared->Prop} :
  wpAny (model prog w) A.in1 (do let e ← newExc (.type "StopIteration") [];raiseNew e:Sem PySem.Fin) QQ (λ e s'=>wpAny (model prog w) A (do if (← isInstance e (.type "StopIteration"))=true then pure none else throw e) Q E s') s:=by
 refine aaa ?_;simp only[newExc,newTuple];refine aaa (aaL ?_ (by size_fits));refine aaa (m:=firstArgMember _ _) (wpAny_of_eq (a:=Value.none) (by first|rfl|(simp only[firstArgMember];rfl)) ?_);refine aaL ?_ (by size_fits);simp only[raiseNew];refine aaa (wpAny_handled ?_);rw[show A.in1.handled=none from hh];refine aaa (aae (wpAny_throw ?_));refine aaa (wpAny_isInstance (T := "StopIteration") (b:=true) ⟨_,Heap.get?_push_size _ rfl,rfl⟩ isSubtype_stop ?_);exact aae (hQ _ λ b o e=>Heap.get?_push_of_some _ (Heap.get?_push_of_some _ e))
variable    {f:Nat} {t:SetTable} {Q:Option Value->Shared->Prop}
theorem ni{nx:Nat}(ho:s.heap.get? I=some (cT (.int (f:Int) 0) i (.ref a) n ep))(ha:s.heap.get? a=some o)(hd:o.data=.set es ep t)(hf:t.fits es.size=true)(hn:n=es.size)
  (hs:∀ (E':Value->Shared->Prop) (Q':Option (Value×Nat)->Shared->Prop),Q' (some (x,nx)) s->wpAny (model prog w) A.in1 (setNext a f i ep) Q' E' s)
  (hQ:∀ h',h'.get? I=some (cT (.int (nx:Int) 0) (i+1) (.ref a) n ep)->Heap.SameBut I s.heap h'->Q (some x) { s with heap:=h' }):wpAny (model prog w) A (pyNext (.ref I)) Q E s:=by
 have hT:s.TypeIs (.ref I) "set_iterator" := ⟨_,ho,rfl⟩;subst hn;unfold pyNext;refine aaa (abF (wpAny_callSpecial?_slot (name:=Str.ofString "__next__") hT aL (aaC aL hT b7 ?_ (cm _))));unfold Builtin.«set_iterator.__next__»;refine aaa (m:=slotArgs "__next__" 0 _) (aae ?_)
 try dsimp only
 refine aaa (wpAny_fieldsOf ho rfl ?_)
 try dsimp only
 refine aaa (abp ha hd hf ?_);rw[if_neg (by simp)]
 try dsimp only
 simp only[Int.toNat_natCast];refine aaa (hs _ _ ?_)
 try dsimp only
 refine aaa (abe ho (by simp) λ h1 g1 b1=>?_);refine aaa (abe (s:={ s with heap:=h1 }) g1 (by simp) λ h2 g2 b2=>?_);refine aae ⟨x,rfl,aae (hQ h2 ?_ (b1.trans b2))⟩;rw[g2];rfl
theorem nj(hh:A.handled=none)(ho:s.heap.get? I=some (cT (.int (f:Int) 0) i (.ref a) n ep))(ha:s.heap.get? a=some o)(hd:o.data=.set es ep t)(hf:t.fits es.size=true)(hn:n=es.size)
  (hs:∀ (E':Value->Shared->Prop) (Q':Option (Value×Nat)->Shared->Prop),Q' none s->wpAny (model prog w) A.in1 (setNext a f i ep) Q' E' s)
  (hQ:∀ h',(∀ b ob,b≠I->s.heap.get? b=some ob->h'.get? b=some ob)->Q none { s with heap:=h' }):wpAny (model prog w) A (pyNext (.ref I)) Q E s:=by
 have hT:s.TypeIs (.ref I) "set_iterator" := ⟨_,ho,rfl⟩;subst hn;unfold pyNext;refine aaa (abF (wpAny_callSpecial?_slot (name:=Str.ofString "__next__") hT aL (aaC aL hT b7 ?_ (cm _))));unfold Builtin.«set_iterator.__next__»;refine aaa (m:=slotArgs "__next__" 0 _) (aae ?_)
 try dsimp only
 refine aaa (wpAny_fieldsOf ho rfl ?_)
 try dsimp only
 refine aaa (abp ha hd hf ?_);rw[if_neg (by simp)]
 try dsimp only
 simp only[Int.toNat_natCast];refine aaa (hs _ _ ?_)
 try dsimp only
 refine aaa (abe ho (by simp) λ h1 g1 b1=>?_);exact rW (s:={ s with heap:=h1 }) (I:=I) hh λ h' k=>hQ h' λ b ob hb e=>k b ob ((b1.2 b hb).trans e)
theorem pE{hx:Int}{place:Nat}(ho:s.heap.get? I=some (cT (.ref pl) i (.ref a) n ep))(ha:s.heap.get? a=some o)(hd:o.data=.set es ep t)(hf:t.fits es.size=true)(hn:n=es.size)
  (hp:s.heap.get? pl=some op) (hpd:op.data=.seq pls c) (hpi:pls[i]?=some (.int (place:Int) 0)) (hx':es[place]?=some (hx,x))
  (hQ:∀ h',h'.get? I=some (cT (.ref pl) (i+1) (.ref a) n ep)->Heap.SameBut I s.heap h'->Q (some x) { s with heap:=h' }):wpAny (model prog w) A (pyNext (.ref I)) Q E s:=by
 have hT:s.TypeIs (.ref I) "set_iterator" := ⟨_,ho,rfl⟩;subst hn;unfold pyNext;refine aaa (abF (wpAny_callSpecial?_slot (name:=Str.ofString "__next__") hT aL (aaC aL hT b7 ?_ (cm _))));unfold Builtin.«set_iterator.__next__»;refine aaa (m:=slotArgs "__next__" 0 _) (aae ?_)
 try dsimp only
 refine aaa (wpAny_fieldsOf ho rfl ?_)
 try dsimp only
 refine aaa (abp ha hd hf ?_);rw[if_neg (by simp)]
 try dsimp only
 simp only[Int.toNat_natCast];refine aaa (m:=seqItems? _) ?_;unfold seqItems?;refine aaa (wpAny_load hp ?_);rw[hpd];refine aae ?_;dsimp only;rw[hpi];dsimp only;simp only[Int.toNat_natCast];refine aaa (m:=setNextDrawn _ _ _) ?_;unfold setNextDrawn;refine aaa (abi ha hd hf ?_);dsimp only;simp only[bne_self_eq_false,Bool.false_eq_true,if_false];rw[hx'];refine aae ?_;refine aaa (abe ho (by simp) λ h1 g1 b1=>?_);refine aae ⟨x,rfl,aae (hQ h1 ?_ b1)⟩;rw[g1];rfl
theorem pF(hh:A.handled=none)(ho:s.heap.get? I=some (cT (.ref pl) i (.ref a) n ep))(ha:s.heap.get? a=some o)(hd:o.data=.set es ep t)(hf:t.fits es.size=true)(hn:n=es.size)
  (hp:s.heap.get? pl=some op) (hpd:op.data=.seq pls c) (hpi:pls[i]?=none)
  (hQ:∀ h',(∀ b ob,b≠I->s.heap.get? b=some ob->h'.get? b=some ob)->Q none { s with heap:=h' }):wpAny (model prog w) A (pyNext (.ref I)) Q E s:=by
 have hT:s.TypeIs (.ref I) "set_iterator" := ⟨_,ho,rfl⟩;subst hn;unfold pyNext;refine aaa (abF (wpAny_callSpecial?_slot (name:=Str.ofString "__next__") hT aL (aaC aL hT b7 ?_ (cm _))));unfold Builtin.«set_iterator.__next__»;refine aaa (m:=slotArgs "__next__" 0 _) (aae ?_)
 try dsimp only
 refine aaa (wpAny_fieldsOf ho rfl ?_)
 try dsimp only
 refine aaa (abp ha hd hf ?_);rw[if_neg (by simp)]
 try dsimp only
 simp only[Int.toNat_natCast];refine aaa (m:=seqItems? _) ?_;unfold seqItems?;refine aaa (wpAny_load hp ?_);rw[hpd];refine aae ?_;dsimp only;rw[hpi];dsimp only;refine aaa (abe ho (by simp) λ h1 g1 b1=>?_);refine aaa (abe (s:={ s with heap:=h1 }) g1 (by simp) λ h2 g2 b2=>?_);exact rW (s:={ s with heap:=h2 }) (I:=I) hh λ h' k=>hQ h' λ b ob hb e=>k b ob ((b2.2 b hb).trans ((b1.2 b hb).trans e))
theorem gl{r:Option (Value×Nat)}(hby:byText w=true)(ha:s.heap.get? a=some o)(hd:o.data=.set es ep t)(hf:t.fits es.size=true)
  (hr:((pickOrder (w.params.setOrder a ep) es)[g]?).map (λ e=>(e.2,slot))=r) (h:Q' r s):wpAny (model prog w) A' (setNext a slot g ep) Q' E s:=by
 unfold setNext;refine aaa (abi ha hd hf ?_);dsimp only;unfold setsByText;refine aaa (aaa (abn (aae ?_)));rw[show (model prog w).w.params.followText "set-order" = true from hby];simp only[bne_self_eq_false,Bool.false_eq_true,if_false,if_true];refine aaa (m:=setWalk a) ?_;unfold setWalk;refine aaa (abi ha hd hf ?_);dsimp only;unfold setsByText;refine aaa (aaa (abn (aae ?_)));rw[show (model prog w).w.params.followText "set-order" = true from hby];simp only[if_true];refine aaa (abn (aae ?_));refine aae ?_;rw[← hr] at h;exact h
theorem hJ(hby:byText w=false)(ha:s.heap.get? a=some o)(hd:o.data=.set es ep t)(hf:t.fits es.size=true)(hdr:(!t.plain&&decide (es.size > 1))=false)(hled:t.led=true)
  (h:Q' (match es[SetTable.below t.place slot]?,t.place[SetTable.below t.place slot]? with|some (_,x),some j=>some (x,j+1)|_,_=>none) s):wpAny (model prog w) A' (setNext a slot g ep) Q' E s:=by
 unfold setNext;refine aaa (abi ha hd hf ?_);dsimp only;unfold setsByText;refine aaa (aaa (abn (aae ?_)));rw[show (model prog w).w.params.followText "set-order" = false from hby];simp only[Bool.false_eq_true,if_false];show wpAny _ _ (if (!t.plain&&decide (es.size > 1))=true then _ else _) _ _ _;rw[hdr];simp only[Bool.false_eq_true,if_false];refine aaa ?_;show wpAny _ _ (if (!t.led&&!es.isEmpty)=true then _ else _) _ _ _;rw[hled];simp only[Bool.not_true,Bool.false_and,Bool.false_eq_true,if_false];exact aae (aae h)
end
theorem rX{α:Type}(next:Nat->Nat):∀ (fuel k:Nat) (left:List α) (out:Array α),left.length<=fuel->(pickOrder.go next fuel k left out).toList.Perm (out.toList++left)
 | 0,k,left,out,h=>by
  have e:left=[]:=aaA (by nofun);subst e;show out.toList.Perm (out.toList++[]);rw[aay]
 | fuel+1,k,[],out,_=>by
  show out.toList.Perm (out.toList++[]);rw[aay]
 | fuel+1,k,x::left,out,h=>by
  show (match (x::left)[next k % (x::left).length]? with
   |some y=>pickOrder.go next fuel (k+1) ((x::left).eraseIdx (next k % (x::left).length)) (out.push y)
   |none=>out).toList.Perm _
  have hi:next k % (x::left).length<(x::left).length:=Nat.mod_lt _ (by simp);rw[List.getElem?_eq_getElem hi];dsimp only;refine(rX next fuel (k+1) _ _ (by rw[List.length_eraseIdx_of_lt hi];simp at h ⊢;nofun)).trans ?_;rw[Array.toList_push,aas];exact aaS _ (fS _ _ hi)
theorem dH(next:Nat->Nat)(xs:Array α):(pickOrder next xs).toList.Perm xs.toList:=by
 unfold pickOrder;have q:=rX next xs.size 0 xs.toList #[] (by simp);simpa using q
theorem Au(es:Array (Int×Value)):∀ ys:List Nat,(∀ j∈ys,j<es.size)->ys.filterMap (λ j=>(es[j]?).map (·.2))=ys.map λ j=>((es[j]?).map (·.2)).getD Value.none
 |[],_=>rfl
 | j::ys,h=>by
  have hj:=h j aab;rw[abt,Array.getElem?_eq_getElem hj];show es[j].2::ys.filterMap (λ j=>(es[j]?).map (·.2))=_;rw[Au es ys λ i hi=>h i (aad _ hi),abM,Array.getElem?_eq_getElem hj];rfl
section
variable          {t:SetTable}
theorem hU{f:Value}(ho:s.heap.get? I=some (cT f i x n ep))(h:Q (.ref I) s):wpAny (model prog w) A (pyIter (.ref I)) Q E s:=by
 have hT:s.TypeIs (.ref I) "set_iterator" := ⟨_,ho,rfl⟩;refine wpAny_pyIter_slot hT eA (aaC eA hT g8 ?_ (iQ _));show wpAny _ _ (ret (.ref I)) _ _ s;exact aae ⟨_,rfl, "set_iterator", _,hT,aL.lookup,h⟩
theorem rY(hs:Heap.SameBut I s.heap h'):Moved [I] Eq s { s with heap:=h' }:=
 ⟨λ b ob hb e=>(hs.2 b (λ z=>hb (by simp[z]))).trans e,rfl,rfl,rfl,aac _⟩
theorem rZ(hs:∀ b ob,b≠I->s.heap.get? b=some ob->h'.get? b=some ob):Moved [I] Eq s { s with heap:=h' }:=
 ⟨λ b ob hb e=>hs b ob (λ z=>hb (by simp[z])) e,rfl,rfl,rfl,aac _⟩
theorem pG(hh:A.handled=none)(hne:a≠I)(hd:o.data=.set es ep t)(hf:t.fits es.size=true)(hby:byText w=true) :
  WalksS prog w A I [I,a] [I] Eq es.size (λ i v=>((pickOrder (w.params.setOrder a ep) es).toList.map (·.2))[i]?=some v) (λ i s=>s.heap.get? I=some (cT (.int ((0:Nat):Int) 0) i (.ref a) es.size ep)/\s.heap.get? a=some o) where
 sub:=λ b hb=>by simp at hb;simp[hb]
 grefl:=λ _=>rfl
 gtrans:=λ _ _ _ x y=>x.trans y
 frame:=λ i s h' tk st _ k=>⟨k I (by simp) _ st.1,k a (by simp) _ st.2⟩
 item:=λ i s Q E hi st hQ=>by
  have hl:(pickOrder (w.params.setOrder a ep) es).size=es.size:=by rw[← abU,(dH _ es).length_eq,abU]
  have hx:(pickOrder (w.params.setOrder a ep) es)[i]?=some ((pickOrder (w.params.setOrder a ep) es)[i]'(by nofun)):=Array.getElem?_eq_getElem _;refine ni (x:=((pickOrder (w.params.setOrder a ep) es)[i]'(by nofun)).2) (nx:=0) st.1 st.2 hd hf rfl (λ E' Q' q=>gl hby st.2 hd hf (by rw[hx];rfl) q) λ h' g b=>hQ _ _ ?_ ⟨g,(b.2 a hne).trans st.2⟩ (rY b);rw[List.getElem?_map,Array.getElem?_toList,hx];rfl
 done:=λ s Q E st hQ=>by
  have hl:(pickOrder (w.params.setOrder a ep) es).size=es.size:=by rw[← abU,(dH _ es).length_eq,abU]
  refine nj hh st.1 st.2 hd hf rfl (λ E' Q' q=>gl hby st.2 hd hf (by rw[Array.getElem?_eq_none (by nofun)];rfl) q) λ h' k=>hQ _ (rZ k)
 self:=λ i s Q E st h=>hU st.1 h
theorem r8(hh:A.handled=none)(hne:a≠I)(hd:o.data=.set es ep t)(hf:t.fits es.size=true)(hby:byText w=false)(hdr:(!t.plain&&decide (es.size > 1))=false)(hr:Ris t.place)(hled:t.led=true) :
  WalksS prog w A I [I,a] [I] Eq es.size (λ i v=>(es.toList.map (·.2))[i]?=some v) (λ i s=>(∃ f:Nat,SetTable.below t.place f=i/\s.heap.get? I=some (cT (.int (f:Int) 0) i (.ref a) es.size ep))/\s.heap.get? a=some o) where
 sub:=λ b hb=>by simp at hb;simp[hb]
 grefl:=λ _=>rfl
 gtrans:=λ _ _ _ x y=>x.trans y
 frame:=λ i s h' tk st _ k=>by
  obtain⟨⟨f,f0,g⟩,ga⟩:=st;exact⟨⟨f,f0,k I (by simp) _ g⟩,k a (by simp) _ ga⟩
 item:=λ i s Q E hi st hQ=>by
  obtain⟨⟨f,f0,g⟩,ga⟩:=st
  have hsz:t.place.size=es.size:=by
   have hf':=hf;simp only[SetTable.fits,Bool.and_eq_true,beq_iff_eq] at hf';exact hf'.1
  have hpl:t.place[i]?=some (t.place[i]'(by nofun)):=Array.getElem?_eq_getElem _;have hes:es[i]?=some (es[i]'hi):=Array.getElem?_eq_getElem _;refine ni (x:=(es[i]'hi).2) (nx:=(t.place[i]'(by nofun))+1) g ga hd hf rfl (λ E' Q' q=>hJ hby ga hd hf hdr hled (by rw[f0,hes,hpl];exact q)) λ h' g' b=>hQ _ _ ?_ ⟨⟨_,pA hr hpl,g'⟩,(b.2 a hne).trans ga⟩ (rY b);rw[List.getElem?_map,Array.getElem?_toList,hes];rfl
 done:=λ s Q E st hQ=>by
  obtain⟨⟨f,f0,g⟩,ga⟩:=st;refine nj hh g ga hd hf rfl (λ E' Q' q=>hJ hby ga hd hf hdr hled ?_) λ h' k=>hQ _ (rZ k);have hbe:es[SetTable.below t.place f]?=none:=by rw[f0];exact Array.getElem?_eq_none (aac _)
  rw[hbe];exact q
 self:=λ i s Q E st h=>by
  obtain⟨⟨f,f0,g⟩,ga⟩:=st;exact hU g h
theorem ml{ys:List Nat}(hh:A.handled=none)(hne:a≠I)(hnp:pl≠I)(hd:o.data=.set es ep t)(hf:t.fits es.size=true)(hpd:op.data=.seq (ys.map λ (i:Nat)=>Value.int (i:Int) 0).toArray c)(hys:ys.Perm (List.range es.size)) :
  WalksS prog w A I [I,a,pl] [I] Eq es.size (λ i v=>(ys.filterMap λ j=>(es[j]?).map (·.2))[i]?=some v) (λ i s=>s.heap.get? I=some (cT (.ref pl) i (.ref a) es.size ep)/\s.heap.get? a=some o/\s.heap.get? pl=some op) where
 sub:=λ b hb=>by simp at hb;simp[hb]
 grefl:=λ _=>rfl
 gtrans:=λ _ _ _ x y=>x.trans y
 frame:=λ i s h' tk st _ k=>⟨k I (by simp) _ st.1,k a (by simp) _ st.2.1,k pl (by simp) _ st.2.2⟩
 item:=λ i s Q E hi st hQ=>by
  have hl:ys.length=es.size:=by rw[hys.length_eq,ab4]
  have hyi:ys[i]?=some (ys[i]'(by nofun)):=List.getElem?_eq_getElem _;have hlt:ys[i]'(by nofun)<es.size:=ab2.mp (hys.mem_iff.mp (aaH _));have hes:es[ys[i]'(by nofun)]?=some es[ys[i]'(by nofun)]:=Array.getElem?_eq_getElem hlt;refine pE (x:=es[ys[i]'(by nofun)].2) (hx:=es[ys[i]'(by nofun)].1) (place:=ys[i]'(by nofun)) st.1 st.2.1 hd hf rfl st.2.2 hpd (by rw[List.getElem?_toArray,List.getElem?_map,hyi];rfl) hes λ h' g b=>hQ _ _ ?_ ⟨g,(b.2 a hne).trans st.2.1,(b.2 pl hnp).trans st.2.2⟩ (rY b);have all:=Au es ys λ j hj=>ab2.mp (hys.mem_iff.mp hj);rw[all,List.getElem?_map,hyi];show some (((es[ys[i]'(by nofun)]?).map (·.2)).getD Value.none)=_;rw[hes];rfl
 done:=λ s Q E st hQ=>by
  have hl:ys.length=es.size:=by rw[hys.length_eq,ab4]
  exact pF hh st.1 st.2.1 hd hf rfl st.2.2 hpd (by rw[List.getElem?_toArray,List.getElem?_eq_none (by rw[abK];nofun)]) λ h' k=>hQ _ (rZ k)
 self:=λ i s Q E st h=>hU st.1 h
theorem wV(ha:s.heap.get? a=some o)(hex:o.ExactSet)(hd:o.data=.set es ep t)(hf:t.fits es.size=true)(hb:es.size<scanBound)(hled:t.led=!byText w)(hpl:t.plain=true->Ris t.place)
  (h:∀ (I:Addr) (fp:List Addr) (St:Nat->Shared->Prop) (ord:List Value) (h':Heap) (d':Drawn),(∀ A':Around,A'.handled=none->WalksS prog w A' I fp [I] Eq es.size (λ i v=>ord[i]?=some v) St)->St 0 { s with heap:=h',drawn:=d' } ->
   (∀ b∈fp,b<h'.objs.size)->I∈fp->a≠I->(∀ b∈fp,b=a∨s.heap.objs.size<=b)->ord.Perm (es.toList.map (·.2))->(∀ b ob,s.heap.get? b=some ob->h'.get? b=some ob)->Q (.ref I) { s with heap:=h',drawn:=d' }) :
  wpAny (model prog w) A (pyIter (.ref a)) Q E s:=by
 have hT:s.TypeIs (.ref a) "set" := ⟨o,ha,hex.1⟩;refine wpAny_pyIter_slot hT F.slot_set_iter (aaC F.slot_set_iter hT iP ?_ (jC _));unfold Builtin.«frozenset.__iter__»;refine aaa (m:=Builtin.Frozenset.slot0 "__iter__" _) (aae ?_);refine aaa (m:=Builtin.Frozenset.sizeOf _) (aaa (abp ha hd hf (aae ?_)));have alt:a<s.heap.objs.size:=aah ha;unfold setDrawn;refine aaa (aaa (abi ha hd hf ?_));dsimp only;unfold setsByText;refine aaa (aaa (abn (aae ?_)));refine aae ?_;show wpAny _ _ (if (!byText w&&(!t.plain&&decide (es.size > 1)))=true then _ else _) _ _ _
 have fin:∀ (first:Value) (h1:Heap) (d1:Drawn),(∀ b ob,s.heap.get? b=some ob->h1.get? b=some ob)->s.heap.objs.size<=h1.objs.size ->
   (∀ (I:Addr),I=h1.objs.size->Q (.ref I) { s with heap:=h1.push (cT first 0 (.ref a) es.size ep),drawn:=d1 }) ->
   wpAny (model prog w) A.in1 (do
    let e ← setEpoch a
    let v ← newFields "set_iterator" [first,rawInt 0,Value.ref a,rawInt es.size,rawInt e]
    ret v) (λ fin s'=>∃ v,fin=Fin.done (Flow.ret v)/\∃ T' r,s'.TypeIs v T'/\typeLookup (Value.type T') (Str.ofString "__next__")=pure (some r)/\Q v s') E { s with heap:=h1,drawn:=d1 }:=by
  intro first h1 d1 k hz q;refine aaa (wpAny_setEpoch_of (s:={ s with heap:=h1,drawn:=d1 }) (k a o ha) hd hf ?_);exact aaa (aaL (aae ⟨_,rfl, "set_iterator", _,⟨_,Heap.get?_push_size _ rfl,rfl⟩,aL.lookup,q _ rfl⟩))
 by_cases hdr:(!byText w&&(!t.plain&&decide (es.size > 1)))=true
 ·rw[if_pos hdr];refine aaa (i8 es.size (List.range es.size) s _ (by simp) λ ys d' hp=>?_);refine aaa (wpAny_newTuple ?_ (by rw[List.length_map,hp.length_eq,List.length_range];exact fits_of_scanBound hb));generalize hP:({ cls:=.type "tuple", data:=.seq (ys.map λ (i:Nat)=>rawInt (i:Int)).toArray }:Obj)=op;have hz1:(s.heap.push op).objs.size=s.heap.objs.size+1:=aaU ..;have hop:op.data=.seq (ys.map λ (i:Nat)=>Value.int (i:Int) 0).toArray 0:=by rw[← hP];rfl
  refine fin _ (s.heap.push op) d' (λ b ob e=>Heap.get?_push_of_some _ e) (by rw[hz1];exact aaX _) λ I hI=>?_;rw[hz1] at hI;have hpI:s.heap.objs.size≠I:=by rw[hI];exact aak (aaE _)
  have haI:a≠I:=by rw[hI];exact aak (aaM alt)
  have hz2:((s.heap.push op).push (cT (.ref s.heap.objs.size) 0 (.ref a) es.size ep)).objs.size=s.heap.objs.size+2:=by rw[aaU,hz1]
  have q1:((s.heap.push op).push (cT (.ref s.heap.objs.size) 0 (.ref a) es.size ep)).get? I=some (cT (.ref s.heap.objs.size) 0 (.ref a) es.size ep):=by
   rw[hI,← hz1];exact Heap.get?_push_size _ rfl
  have q2:((s.heap.push op).push (cT (.ref s.heap.objs.size) 0 (.ref a) es.size ep)).get? a=some o:=Heap.get?_push_of_some _ (Heap.get?_push_of_some _ ha);have q3:((s.heap.push op).push (cT (.ref s.heap.objs.size) 0 (.ref a) es.size ep)).get? s.heap.objs.size=some op:=Heap.get?_push_of_some _ (Heap.get?_push_size s.heap (o:=op) (by rw[← hP];rfl))
  have q4:∀ b∈[I,a,s.heap.objs.size],b<((s.heap.push op).push (cT (.ref s.heap.objs.size) 0 (.ref a) es.size ep)).objs.size:=by
   intro b hb;rw[hz2];simp only[List.mem_cons,List.not_mem_nil,or_false] at hb;rcases hb with rfl|rfl|rfl
   ·rw[hI];exact aaE _
   ·exact aaM (aaM alt)
   ·exact aaM (aaE _)
  have q6:∀ b∈[I,a,s.heap.objs.size],b=a∨s.heap.objs.size<=b:=by
   intro b hb;simp only[List.mem_cons,List.not_mem_nil,or_false] at hb;rcases hb with rfl|rfl|rfl
   ·exact .inr (by rw[hI];exact aaX _)
   ·exact .inl rfl
   ·exact .inr (aac _)
  have q5:(ys.filterMap λ j=>(es[j]?).map (·.2)).Perm (es.toList.map (·.2)):=by
   refine(hp.filterMap λ j=>(es[j]?).map (·.2)).trans ?_;rw[← PySem.filterMap_getElem?_range es,List.map_filterMap]
  exact h I [I,a,s.heap.objs.size] _ (ys.filterMap λ j=>(es[j]?).map (·.2)) _ d' (λ A' hA=>ml (op:=op) hA haI hpI hd hf hop hp) ⟨q1,q2,q3⟩ q4 (by simp) haI q6 q5 (λ b ob e=>Heap.get?_push_of_some _ (Heap.get?_push_of_some _ e))
 ·rw[if_neg hdr];refine aaa (aae ?_);refine fin _ s.heap s.drawn (λ b ob e=>e) (aac _) λ I hI=>?_;have haI:a≠I:=by rw[hI];exact aak alt
  have hfp:∀ b∈[I,a],b<(s.heap.push (cT (rawInt 0) 0 (.ref a) es.size ep)).objs.size:=by
   intro b hb;rw[aaU];simp only[List.mem_cons,List.not_mem_nil,or_false] at hb;rcases hb with rfl|rfl
   ·rw[hI];exact aaE _
   ·exact aaM alt
  have q1:(s.heap.push (cT (rawInt 0) 0 (.ref a) es.size ep)).get? I=some (cT (rawInt 0) 0 (.ref a) es.size ep):=by rw[hI];exact Heap.get?_push_size _ rfl
  have q2:(s.heap.push (cT (rawInt 0) 0 (.ref a) es.size ep)).get? a=some o:=Heap.get?_push_of_some _ ha
  have q6:∀ b∈[I,a],b=a∨s.heap.objs.size<=b:=by
   intro b hb;simp only[List.mem_cons,List.not_mem_nil,or_false] at hb;rcases hb with rfl|rfl
   ·exact .inr (by rw[hI];exact aac _)
   ·exact .inl rfl
  cases hby:byText w with
  |true=>exact h I [I,a] _ ((pickOrder (w.params.setOrder a ep) es).toList.map (·.2)) _ s.drawn (fun A' hA=>pG hA haI hd hf hby) ⟨q1,q2⟩ hfp (by simp) haI q6 ((dH _ es).map _) (fun b ob e=>Heap.get?_push_of_some _ e)
  | false=>
   have hdr':(!t.plain&&decide (es.size > 1))=false:=by
    rw[hby,Bool.not_false,Bool.true_and] at hdr;exact ab1.mpr hdr
   have hr:Ris t.place:=by
    cases q:t.plain with
    |true=>exact hpl q
    | false=>
     rw[q,Bool.not_false,Bool.true_and] at hdr';have h1:¬ es.size > 1:=of_decide_eq_false hdr'
     have hsz:t.place.size=es.size:=by
      have hf':=hf;simp only[SetTable.fits,Bool.and_eq_true,beq_iff_eq] at hf';exact hf'.1
     have hl:t.place.toList.length<=1:=by rw[abU];nofun
     unfold Ris
     match hq:t.place.toList,hl with
     |[],_=>exact .nil
     |[x],_=>exact List.pairwise_singleton _ _
   exact h I [I,a] _ (es.toList.map (·.2)) _ s.drawn (λ A' hA=>r8 hA haI hd hf hby hdr' hr (by rw[hled,hby];rfl)) ⟨⟨0,pz hr,q1⟩,q2⟩ hfp (by simp) haI q6 (.refl _) (λ b ob e=>Heap.get?_push_of_some _ e)
end
section
variable          {t:SetTable}
theorem wW{Q:Bool->Shared->Prop}(hT:s.TypeIs (.ref a) "set")(h:Q false s):wpAny (model prog w) A (Builtin.List.listLengthHint (.ref a)) Q E s:=by
 unfold Builtin.List.listLengthHint;refine aaa (wpAny_specialOf hT F.slot_set_len.lookup ?_);generalize hid:("set.__len__" : String)=id0
 wp_delta
 rw[show splitId id0=some ("set", "__len__") from by subst hid;decide +kernel];subst hid;refine aaa (wpAny_isInstance (b:=true) hT sub_set_self ?_);rw[if_neg (by decide)];show wpAny _ _ (if _=true then _ else _) _ _ _;rw[if_pos (by decide +kernel)];refine aaa (wpAny_typeOf hT ?_);exact aae h
theorem mm{Q:List Value->Shared->Prop}(hh:A.handled=none)(ha:s.heap.get? a=some o)(hex:o.ExactSet)(hd:o.data=.set es ep t)(hf:t.fits es.size=true)(hb:es.size<scanBound)(hled:t.led=!byText w)(hpl:t.plain=true->Ris t.place)
  (hQ:∀ (vs:List Value) (h':Heap) (d':Drawn) (tk:Nat),vs.Perm (es.toList.map (·.2))->s.heap.objs.size<h'.objs.size->(∀ b ob,s.heap.get? b=some ob->h'.get? b=some ob)->Q vs { s with heap:=h',drawn:=d',toks:=tk }) :
  wpAny (model prog w) A (collect (.ref a)) Q E s:=by
 have alt:a<s.heap.objs.size:=aah ha;unfold collect;refine aaa (wpAny_runValue (codeAny_builtin F.entry_proto_collect ?_));rw[aaJ F.plain_proto_collect _];show wpAny _ A.in1 (newList [] >>= λ l=>again (.builtin "list.__iadd__" ⟨[l,.ref a],[]⟩)) _ _ s;refine aaa (aaL ?_);refine aae ⟨plainId_quiet F.plain_list_iadd _,codeAny_builtin F.entry_list_iadd ?_⟩;rw[aaJ F.plain_list_iadd _];generalize hL:({ cls:=.type "list", dict:=none,data:=.seq ([]:List Value).toArray }:Obj)=ol;have g1:(s.heap.push ol).get? s.heap.objs.size=some ol:=Heap.get?_push_size s.heap (o:=ol) (by rw[← hL];rfl);have ga:(s.heap.push ol).get? a=some o:=Heap.get?_push_of_some _ ha;have hT:Shared.TypeIs { s with heap:=s.heap.push ol } (.ref a) "set" := ⟨o,ga,hex.1⟩;show wpAny _ A.in1 (Builtin.List.listExtendWith (.ref s.heap.objs.size) (.ref a) (.ref s.heap.objs.size)) _ _ _;unfold Builtin.List.listExtendWith;refine aaa (wpAny_typeOf hT ?_)
 have h1:Builtin.List.listSameRef (.ref s.heap.objs.size) (.ref a)=false:=by
  simp only[Builtin.List.listSameRef,beq_eq_false_iff_ne];exact(aak alt).symm
 rw[if_neg (by rw[h1];decide)];refine aaa (wV (s:={ s with heap:=s.heap.push ol }) ga hex hd hf hb hled hpl λ I fp St ord h2 d2 W st0 hfp hI haI hfq hord hk=>?_);refine aaa (aaI (wW ⟨o,hk a o ga,hex.1⟩ ?_));rw[if_pos (by decide)];refine aaa (abH ?_);refine aaa ?_;have g2:h2.get? s.heap.objs.size=some { cls:=.type "list", data:=.seq ([]:List Value).toArray }:=by rw[hL];exact hk _ _ g1
 show wpAny _ A.in1 (updateSeq s.heap.objs.size (·.push .none) >>= λ _=>updateSeq s.heap.objs.size (·.pop)) _ _ _;refine aaa (wpAny_updateSeq (s:={ s with heap:=h2,drawn:=d2 }) g2 rfl ?_);have g3:=Heap.get?_update_self (Obj.mapSeq (·.push Value.none)) g2 rfl;refine wpAny_updateSeq g3 rfl ?_;have g4:=Heap.get?_update_self (Obj.mapSeq (·.pop)) g3 rfl;generalize hh3:(h2.update s.heap.objs.size (Obj.mapSeq (·.push Value.none))).update s.heap.objs.size (Obj.mapSeq (·.pop))=h3 at g4 ⊢
 have oth:∀ b ob,b≠s.heap.objs.size->h2.get? b=some ob->h3.get? b=some ob:=λ b ob hne e=>by
  rw[← hh3];exact(Heap.get?_update_other _ _ (abk hne)).trans ((Heap.get?_update_other _ _ (abk hne)).trans e)
 have hz:(s.heap.push ol).objs.size=s.heap.objs.size+1:=aaU ..
 have hSf:s.heap.objs.size∉fp:=λ hm=>by
  rcases hfq _ hm with z|z
  ·exact absurd z (aak alt).symm
  ·have z:(s.heap.push ol).objs.size<=s.heap.objs.size:=z;rw[hz] at z;exact absurd z (Nat.not_succ_le_self _)
 have hIS:I≠s.heap.objs.size:=λ e=>hSf (e ▸ hI);have st1:=(W A.in1 hh).frame 0 _ h3 s.toks st0 (aac _) λ b hb ob e=>oth b ob (λ z=>hSf (z ▸ hb)) e
 have lt0:∀ b ob,s.heap.get? b=some ob->b≠s.heap.objs.size/\b≠I:=λ b ob e=>by
  refine⟨aak (aah e),λ z=>?_⟩;rcases hfq _ hI with y|y
  ·exact haI y.symm
  ·have y:(s.heap.push ol).objs.size<=I:=y;rw[hz,← z] at y;exact absurd (aan (aah e) (Nat.le_of_succ_le y)) (aaR _)
 refine aae ⟨plainId_quiet F.plain_extend_loop _,codeAny_extend_loopS (W A.in1 hh) (fits_of_scanBound hb) _ hSf _ es.size 0 _ _ _ rfl (aaq _) st1 g4 (ItemsOf.nil _) λ s' acc c' hm gS hacc=>?_⟩;show wpAny _ A (load s.heap.objs.size >>= _) _ _ s';refine aaa (wpAny_load gS ?_);refine aae ?_;obtain⟨h9,g9,d9,tk9,os9⟩:=s';have eg:g9=s.gens:=hm.gens.symm;have ed:d9=d2:=hm.drawn;have eo:os9=s.os:=hm.os;subst eg ed eo;have hl:ord.length=es.size:=by rw[hord.length_eq,abK,abU]
 have hv:acc.toList=ord:=by
  refine List.ext_getElem? λ j=>?_;by_cases hj:j<acc.size
  ·have e1:acc[j]?=some acc[j]:=Array.getElem?_eq_getElem hj;rw[Array.getElem?_toList,e1,hacc.2 j _ e1]
  ·have hj':es.size<=j:=by rw[hacc.1] at hj;nofun
   rw[Array.getElem?_toList,Array.getElem?_eq_none (by nofun),List.getElem?_eq_none (by nofun)]
 refine hQ _ h9 _ tk9 (by rw[hv];exact hord) (aah gS) λ b ob e=>?_;obtain⟨n1,n2⟩:=lt0 b ob e;exact hm.heap b ob (by simp[n1,n2]) (oth b ob n1 (hk b ob (Heap.get?_push_of_some _ e)))
end
theorem hV{α:Type}[DecidableEq α]:∀ (σ ss:List α),σ.Nodup->(∀ k∈σ,k∈ss)->ss.length=σ.length->ss.Perm σ
 | [],ss,_,_,hl=>by
  have:ss=[]:=aaA (by exists hl);subst this;exact .refl _
 | k::σ,ss,hn,hm,hl=>by
  have hk:k∈ss:=hm k (aab ..);have hp:=List.perm_cons_erase hk;have hn':=abS.mp hn
  have hlen:(ss.erase k).length=σ.length:=by
   have:=hp.length_eq;simp only[List.length_cons] at this hl;nofun
  refine hp.trans (.cons k (hV σ (ss.erase k) hn'.2 (λ j hj=>?_) hlen));have hne:j≠k:=λ e=>hn'.1 (e ▸ hj);exact(List.mem_erase_of_ne hne).mpr (hm j (aad _ hj))
theorem wX{x:Str}{v:Value}(h:Value.isStrOf x v=true):strOf v=x:=by
 obtain⟨t,rfl⟩:=Value.isStrOf_shape h;rfl
theorem sorted_set{σ:List Str}(hh:A.handled=none)(hS:SetZ (PySem.strKind prog w) s.heap a σ (!byText w))(h64:σ.length<64)
  (hQ:∀ (p:Addr) (out:List Value) (ss:List Str) (e:Nat) (h':Heap) (d':Drawn) (tk:Nat),s.heap.objs.size<=p->h'.get? p=some (seqObj "list" out.toArray e)->StrsAre out ss->ss.Perm σ->sortedS ss=true ->
   (∀ b o,s.heap.get? b=some o->h'.get? b=some o)->Q (.ref p) { s with heap:=h',drawn:=d',toks:=tk }) :
  wpAny (model prog w) A (call (.builtin "sorted") [.ref a]) Q E s:=by
 obtain⟨o,es,ep,t,ho,hex,hd,hE,hmem,hb,hf,hsz,hnd,hled,hpl⟩:=hS;refine Calls.call_function_entry kind_sorted plain_sorted entry_sorted (args_sorted1 _) ?_;unfold Builtin.«sorted»;refine aaa (m:=checkCount "sorted" 1 1 _) (aae ?_);refine aaa (mm (by exists hh) ho hex hd hf hb hled hpl λ vs h' d' tk hperm hlt hk=>?_);have hlen:vs.length=σ.length:=by rw[hperm.length_eq,abK,abU];exact hsz
 refine aaa (wpAny_newList ?_ (hsz:=by rw[sizeLine_eq];nofun));show wpAny _ _ _ _ _ { s with heap:=h'.push (seqObj "list" vs.toArray 0),drawn:=d',toks:=tk };have hoL:(h'.push (seqObj "list" vs.toArray 0)).get? h'.objs.size=some (seqObj "list" vs.toArray 0):=Heap.get?_push_size _ rfl
 have hstr:∀ v∈vs,∃ x t,v=.str x t:=λ v hv=>by
  have hv':=hperm.mem_iff.mp hv;obtain⟨e,he,rfl⟩:=abR.mp hv';obtain⟨⟨k,hk,_⟩,_⟩:=hE e he;obtain⟨t,q⟩:=Value.isStrOf_shape hk;exact⟨k,t,q⟩
 have hSA:=strsAre_map vs hstr
 have hps:(vs.map strOf).Perm σ:=by
  refine hV σ _ hnd (λ k hk=>?_) (by rw[abK,hlen]);obtain⟨e,he,hke⟩:=(hmem k).mp hk;refine abR.mpr ⟨e.2,hperm.mem_iff.mpr (abR.mpr ⟨e,he,rfl⟩),wX hke⟩
 have hle:s.heap.objs.size<=h'.objs.size:=acb hlt;refine aaa (aaI (aaC slot_list_sort ⟨_,hoL,rfl⟩ entry_list_sort (list_sort_treeK strKind_oneLt hoL hSA.keysOf (λ v₁ v₂ rest e=>keyKind_strs (by rw[← e];exact hSA)) (by rw[hlen];exact h64) λ st' a1 a2=>⟨_,rfl,?_⟩) (args_list_sort _)));obtain⟨ss',b1,b2,b3⟩:=sorted_out_str hSA a1 a2;obtain⟨e',he'⟩:=sortedHeap_at (out:=(arrOf st').map (·.2)) hoL;refine aae ⟨_,rfl,hQ h'.objs.size ((arrOf st').map (·.2)).toList ss' e' _ d' tk hle (by rw[abl];exact he') b1 (b2.trans hps) b3 λ b ob hb=>?_⟩;have hbl:b<h'.objs.size:=aan (aah hb) hle;rw[sortedHeap_old (aak hbl) (by rw[size_push'];exact aaM hbl)];exact Heap.get?_push_of_some _ (hk b ob hb)
end KS
namespace L2
open PySem PySem.Spec PyProof.Rows
variable{ss zs:List Str}{X:Cx}{σ σ0:St}{H F F' H' Z F1:Hp}{s:Shared}{a p:Addr}{ty tv te ta tb:TE}{pos:Pos}{ixs T μ m:List Nat}{i n j no:Nat}{y z x b:Str}{wi:TI}{g:TG}{tc u:TT}{ys:List (Key×V)}{Q:VK}{v:V}{xs vs:List V}{A B:List Addr}{ks k:List Key}{t:TA}{gs:TGs}{w:World}{gV:Int->Int->V}
theorem dI{vs:List Value}(h:StrsAre vs ss):Vals (ss.map V.str) vs:=by
 induction h with
 |nil=>exact .nil
 |cons y t h ih=>exact .cons ⟨t,rfl⟩ ih
theorem dJ:∀ {ss:List Str} {vs:List Value},Vals (ss.map V.str) vs->StrsAre vs ss
 |[],_,.nil=>.nil
 |s::ss,_,.cons ⟨t,e⟩ r=>by subst e;exact .cons s t (dJ r)
theorem Av:∀ {vs:List Value} {ss:List Str} {i:Nat} {v:Value},StrsAre vs ss->vs[i]?=some v->∃ t,v=.str (ss.getD i "") t
 |_,_,_,_,.nil,e=>by simp at e
 |_,_,0,_,.cons y t h,e=>by simp at e;exact⟨t,by rw[← e];rfl⟩
 | _,_,i+1,v,.cons y t h,e=>by
  obtain⟨u,q⟩:=Av (i:=i) (v:=v) h (by exists e);exact⟨u,(by exists q)⟩
theorem StrsAre.len:∀ {vs:List Value} {ss:List Str},StrsAre vs ss->vs.length=ss.length
 |_,_,.nil=>rfl
 |_,_,.cons _ _ h=>by simp[StrsAre.len h]
def HW(P:Program)(w:World)(q:Addr)(σ:List Str):HO:=.ext λ h=>KS.SetZ (PySem.strKind P w) h q σ (!KS.byText w)
theorem Inv.laidD{pins:List (Addr×Obj)}{h':Heap}{o:HO}{t':Nat}{d':Drawn}(I:Inv X pins σ H s)(k:∀ b u,s.heap.get? b=some u->h'.get? b=some u)(hp:s.heap.objs.size<=a)(new:ObjOk X.prog X.w (upd H a o) h' a o) :
  Inv X pins σ (upd H a o) { s with heap:=h',drawn:=d',toks:=t' }:=
 I.call (ch:=[]) (g':=s.gens) (Un.laid k hp (I.hok.fresh hp)) (I.hok.laid k hp new) I.bare (λ _ z=>nomatch z)
def Lo(P:Program)(w:World)(K:Frag):List V->Hp->VK->Prop:=λ xs H Q=>∃ (p:Addr) (zs:List Str),xs=[.ref p]/\SqL K H p (zs.map .str)/\zs.length+1<scanBound /\
 ∀ q σ,H q=none->(∀ k,k∈σ↔k∈zs)->σ.Nodup->σ.length<=zs.length->Q (.ref q) (upd H q (HW P w q σ))
theorem r9(hc:X.calm=true):CallR X (.type "set") (Lo X.prog X.w X.K):=by
 intro pins s σ H xs us Q I r h;obtain⟨p,zs,rfl,hq,hz,q⟩:=h;obtain⟨u,rfl,rx⟩:=dF r;cases rx;obtain⟨its,r',pl,hz'⟩:=I.list hq;have hS:=dJ r';have hlen:=StrsAre.len hS;refine KS.set_of_list (knd:=PySem.strKind X.prog X.w) (I.ok.hd hc) pl.isList (λ i=>zs.getD i "") (λ i v e=>?_) (by simp only[List.size_toArray];nofun) λ h' tk hZ hk=>?_
 ·obtain⟨t,rfl⟩:=Av (i:=i) hS (by exists e);exact⟨kj _ t,rfl⟩
 ·have hmem:∀ k,k∈KS.metZ (λ i=>zs.getD i "") its.toArray.size↔k∈zs:=λ k=>by
   rw[KS.metZ_mem];simp only[List.size_toArray,hlen];constructor
   ·rintro⟨j,hj,rfl⟩;rw[List.getD,List.getElem?_eq_getElem hj];exact aaH hj
   ·intro hk;obtain⟨j,hj,e⟩:=abr hk;exact⟨j,hj,by rw[List.getD,List.getElem?_eq_getElem hj];exact e⟩
  have hZ':=id hZ;obtain⟨o,es,ep,t,ho,_,_,_,_,_,_,_,hnd,_,_⟩:=hZ';refine⟨.ref s.heap.objs.size,_,I.laid (t':=tk) (o:=HW X.prog X.w s.heap.objs.size (KS.metZ (λ i=>zs.getD i "") its.toArray.size)) (λ b o e=>hk b o (aah e) e) (aac _) ?_,rfl,q _ _ (I.hok.fresh (aac _)) hmem hnd ?_⟩
  ·exact⟨hZ,⟨o,ho⟩,λ h1 h2 z k=>KS.SetZ.at z k⟩
  ·exact aau (KS.metZ_len _ _) (by simp only[List.size_toArray];nofun)
def sd(P:Program)(w:World)(K:Frag):List V->Hp->VK->Prop:=λ xs H Q=>∃ (p:Addr) (σ:List Str),xs=[.ref p]/\(H p=some (HW P w p σ)∨SqL K H p (σ.map .str))/\σ.length<64 /\
 ∀ q ss,H q=none->ss.Perm σ->sortedS ss=true->Q (.ref q) (upd H q (.lst (ss.map .str)))
theorem kO(hc:X.calm=true):CallR X (.builtin "sorted") (sd X.prog X.w X.K):=by
 intro pins s σ H xs us Q I r h;obtain⟨p,τ,rfl,hq,hz,q⟩:=h;obtain⟨u,rfl,rx⟩:=dF r;cases rx;rcases hq with hq|hq
 ·obtain⟨hS,_,_⟩:=I.hok p _ hq;refine KS.sorted_set (I.ok.hd hc) hS hz λ q' out ss e h' d' tk hle hg hSA hp hs hk=>?_;have hl:ss.length<64:=by rw[hp.length_eq];exact hz
  refine⟨.ref q',_,I.laidD (t':=tk) (d':=d') (o:=.lst (ss.map .str)) hk hle ⟨?_,out,e,dI hSA,hg⟩,rfl,q q' ss (I.hok.fresh hle) hp hs⟩;rw[abK,sizeLine_eq];nofun
 ·obtain⟨its,r',pl,hz'⟩:=I.list hq;have hS:=dJ r';have hlen:=StrsAre.len hS;refine sorted_strs pl.isList hS (by nofun) λ out ss h1 h2 h3=>?_;obtain⟨e,he⟩:=sortedAll_at s.heap its out;have hl:ss.length<64:=by rw[h2.length_eq];exact hz
  refine⟨.ref (s.heap.objs.size+1),_,I.laid (t':=s.toks) (o:=.lst (ss.map .str)) (λ b o e=>sortedAll_old e) (aaX _) ⟨?_,out.toList,e,dI h1,by rw[abl];exact he⟩,rfl,q _ ss (I.hok.fresh (aaX _)) h2 h3⟩;rw[abK,sizeLine_eq];nofun
theorem pH(hc:X.calm=true):CallR X (.type "list") (λ xs H Q=>∃ p kvs,xs=[.ref p]/\Rd H p (.dK kvs)/\∀ l,H l=none->Q (.ref l) (upd H l (.lst (kvs.map λ kv=>kV kv.1)))):=by
 intro pins s σ H xs us Q I r h;obtain⟨p,kvs,rfl,hq,q⟩:=h;obtain⟨u,rfl,rx⟩:=dF r;cases rx;obtain⟨hz,hS,vs,rv,m⟩:kvs.length<=sizeLine/\(p==sysModules)=false/\∃ vs,KV kvs vs/\s.heap.DictOf (aq X.prog X.w) p vs:=hq.ok I.hok;obtain⟨ep,hat⟩:=m.dictAt;have hl:kvs.length=vs.length:=aa1 rv;refine PySem.W.kdl_call (PySem.W.kdl_dict (knd:=aq X.prog X.w) (kvs:=vs) (ep:=ep) hS) (I.ok.hd hc) hat (by rw[← hl];exact hz) λ h' tk acc' c' hk hD hacc=>?_
 have hv:Vals (kvs.map λ kv=>kV kv.1) acc'.toList:=by
  have hal:acc'.toList.length=kvs.length:=by rw[abU,hacc.1,hl]
  have hget:∀ j v,acc'.toList[j]?=some v->∃ k x,vs[j]?=some (k,x)/\jt k v=true:=λ j v e=>hacc.2 j v (by rw[← Array.getElem?_toList];exact e);clear hacc hD;generalize acc'.toList=us at hal hget;clear hat m hl hz q hq I
  induction rv generalizing us with
  |nil=>cases us with|nil=>exact .nil|cons a b=>simp at hal
  | cons h1 h2 ih=>
   cases us with
   |nil=>simp at hal
   | cons a b=>
    refine .cons ?_ (ih b (by exists hal) λ j v e=>by simpa using hget (j+1) v (by exists e));obtain⟨k,x,e1,e2⟩:=hget 0 a rfl;simp only[List.getElem?_cons_zero,Option.some.injEq] at e1;subst e1;have e3:_=k:=h1.1;show RelV (kV _) a;rw[e3];rcases aV e2 with ⟨i,t,rfl,rfl⟩|⟨z,t,rfl,rfl⟩
    ·exact⟨t,rfl⟩
    ·exact⟨t,rfl⟩
 exact⟨.ref s.heap.objs.size,_,I.laid (t':=tk) (o:=.lst (kvs.map λ kv=>kV kv.1)) hk (aac _) ⟨by rw[abK];exact hz,acc'.toList,c',hv,by rw[abl];exact hD⟩,rfl,q _ (I.hok.fresh (aac _))⟩
def se(K:Frag):List V->Hp->VK->Prop:=λ xs H Q=>(∃ p ys,xs=[.ref p]/\(SqL K H p ys∨SqT K H p ys)/\∀ l,H l=none->Q (.ref l) (upd H l (.lst ys)))∨∃ p kvs,xs=[.ref p]/\Rd H p (.dK kvs)/\∀ l,H l=none->Q (.ref l) (upd H l (.lst (kvs.map λ kv=>kV kv.1)))
def sg(K:Frag):List V->Hp->VK->Prop:=λ xs H Q=>∃ p ys,xs=[.ref p]/\((SqL K H p ys/\∀ l,H l=none->Q (.ref l) (upd H l (.tup ys)))∨(SqT K H p ys/\Q (.ref p) H))
theorem C9(K:Frag)(hc:X.calm=true)(h:X.K=K):BCall X (.type "list") (se K):=by subst h;exact⟨kD.or (pH hc)⟩
theorem wY(K:Frag)(h:X.K=K):BCall X (.type "tuple") (sg K):=by subst h;exact⟨jx⟩
theorem HX(P:Program)(w:World)(K:Frag)(hc:X.calm=true)(hP:X.prog=P)(hw:X.w=w)(h:X.K=K):BCall X (.type "set") (Lo P w K):=by subst h hP hw;exact⟨r9 hc⟩
theorem Da{o i value:Expr}{td:TE}{pos':Pos}(hu:X.A.units+1<cLine)(ho:BE X o td)(hi:BE X i ty)(hv:BE X value tv)(hs:swapsWith value (some (.Subscript o i pos')) pos.line X.env=pure false) :
  BS X (.Assign [.Subscript o i pos'] value pos) (wb td ty tv):=⟨Ce hu ho.h hi.h hv.h hs⟩
theorem Dc{T F:List Str}{scope:Scope}{elt tg iter:Expr}{ifs:List Expr}{py spos:Pos}(hc:X.calm=true)(S:CompScope X T F ixs scope)(hi:BI X tg iter wi)
  (hg:∀ C s H fp,BG (bC X (T++F) scope (aM X.env scope.names []) C s H fp) tg g) (ht:∀ C s H fp,BIf (bC X (T++F) scope (aM X.env scope.names []) C s H fp) ifs tc) (he:∀ C s H fp,BE (bC X (T++F) scope (aM X.env scope.names []) C s H fp) elt te)
  (hs:∀ x,foldedSetIterable iter X.env x=pure x) (hN:X.N.Nodup) (hix:X.N[i]?=some y) (hx:Loc X.env.scope y)
  (hsw:swapsWith (.ListComp elt [⟨tg,iter,ifs,0⟩] scope pos) (some (.Name y py)) spos.line X.env=pure true) (hf:X.fn y=true∨X.env.scope.names.lookup y=some .local) :
  BS X (.Assign [.Name y py] (.ListComp elt [⟨tg,iter,ifs,0⟩] scope pos) spos) (o5 (et T.length ixs wi g tc te) (eM i)):=
 ⟨Cn hc S hi.h (λ C s H fp=>(hg C s H fp).h) (λ C s H fp=>(ht C s H fp).h) (λ C s H fp=>(he C s H fp).h) hs hN hix hx hsw hf⟩
theorem Mj{α:Type}{x:α}{r:List α}:atI (x::r) (0:Int)=some x:=cF (j:=0) rfl
def HY(K:Frag)(mg:Str->Option Value)(x:Str)(xs:List V):Prop:=∃ a,mg x=some (.ref a)/\∀ H,SqT K H a xs
theorem sh{K:Frag}{ys:List V}(h:SqL K H p ys)(q:∀ l,H l=none->Q (.ref l) (upd H l (.lst ys))):se K [.ref p] H Q:=.inl ⟨p,ys,rfl,.inl h,q⟩
theorem si{K:Frag}{ys:List V}(h:SqT K H p ys)(q:∀ l,H l=none->Q (.ref l) (upd H l (.lst ys))):se K [.ref p] H Q:=.inl ⟨p,ys,rfl,.inr h,q⟩
theorem pJ{K:Frag}{kvs:List (Key×V)}(h:Rd H p (.dK kvs))(q:∀ l,H l=none->Q (.ref l) (upd H l (.lst (kvs.map λ kv=>kV kv.1)))):se K [.ref p] H Q:=.inr ⟨p,kvs,rfl,h,q⟩
theorem pK{K:Frag}{ys:List V}(h:SqL K H p ys)(q:∀ l,H l=none->Q (.ref l) (upd H l (.tup ys))):sg K [.ref p] H Q:=⟨p,ys,rfl,.inl ⟨h,q⟩⟩
theorem kP(h:zs.Nodup):(KS.dedup1 zs z).Nodup:=by
 unfold KS.dedup1;split
 ·exact h
 ·rename_i hz;exact KS.nodup_snoc h hz
theorem pL :y∈KS.dedup1 zs z↔y∈zs∨y=z:=by
 unfold KS.dedup1;split
 ·rename_i hz;exact⟨.inl,λ h=>h.elim id λ e=>e ▸ hz⟩
 ·simp
theorem pM(zs:List Str)(z:Str):zs.length<=(KS.dedup1 zs z).length/\(KS.dedup1 zs z).length<=zs.length+1/\1<=(KS.dedup1 zs z).length:=by
 unfold KS.dedup1;split
 ·rename_i hz;exact⟨aac _,aaX _,List.length_pos_of_mem hz⟩
 ·simp
inductive D where
 |non|bl (b:Bool)|int (i:Int)|str (x:Str)|lst (xs:List D)|tup (xs:List D)|dct (ks:List Key) (xs:List D)|ty (T:String)|opq (a:Addr) (n:Nat)|gt (xs:List D)|dt (ks:List (List Key)) (xs:List D)
variable{d e:D}{ds as:List D}{gD:Int->Int->D}
def plKV:Key×V->Bool
 |(.inr z,.int i)=>decide (z.length<=20)&&z.cps.toList.all (λ c=>decide (c<16 ^ 8))&&decide (i.natAbs.log2<20)&&decide ((PySem.PyData.shown (.int i)).length<=8)
 |_=>false
mutual
inductive Den(K:Frag)(F:Hp):V->D->Prop where
 |non:Den K F .non .non
 |bl (b:Bool):Den K F (.bl b) (.bl b)
 |int (i:Int):Den K F (.int i) (.int i)
 |str (x:Str):Den K F (.str x) (.str x)
 |ty (T:String):Den K F (.ty T) (.ty T)
 |lst {a:Addr} {xs:List V} {ds:List D}:SqL K F a xs->Dens K F xs ds->Den K F (.ref a) (.lst ds)
 |tup {a:Addr} {xs:List V} {ds:List D}:F a=some (.tup xs)->Dens K F xs ds->Den K F (.ref a) (.tup ds)
 |dct {a:Addr} {ys:List (Key×V)} {ks:List Key} {ds:List D}:Rd F a (.dK ys)->ys.map (·.1)=ks->Dens K F (ys.map (·.2)) ds->Den K F (.ref a) (.dct ks ds)
 |opq {a:Addr} {ys:List (Key×V)} {n:Nat}:Rd F a (.dK ys)->ys.length=n->ys.all plKV=true->Den K F (.ref a) (.opq a n)
 |gt {a:Addr} {xs:List V} {ds:List D}:SqT K F a xs->Dens K F xs ds->Den K F (.ref a) (.gt ds)
 |dt {a:Addr} {ys:List (List Key×V)} {ks:List (List Key)} {ds:List D}:Rd F a (.dT ys)->ys.map (·.1)=ks->Dens K F (ys.map (·.2)) ds->Den K F (.ref a) (.dt ks ds)
inductive Dens(K:Frag)(F:Hp):List V->List D->Prop where
 |nil:Dens K F [] []
 |cons {x:V} {d:D} {xs:List V} {ds:List D}:Den K F x d->Dens K F xs ds->Dens K F (x::xs) (d::ds)
end
theorem Same.rd{u:HO}(e:Same F F')(h:Rd F a u):Rd F' a u:=h.elim (λ h=>.inl (e _ _ h)) fun⟨o,h⟩=>.inr ⟨o,e _ _ h⟩
theorem Den.mono{K:Frag}(e:Same F F')(h:Den K F v d):Den K F' v d:=
 Den.rec (motive_1:=λ v d _=>Den K F' v d) (motive_2:=λ v d _=>Dens K F' v d) .non .bl .int .str .ty (λ h _ t=>.lst (e.seq h) t) (λ h _ t=>.tup (e _ _ h) t) (λ h k _ t=>.dct (e.rd h) k t) (λ h k p=>.opq (e.rd h) k p) (λ h _ t=>.gt (h.same e) t) (λ h k _ t=>.dt (e.rd h) k t) .nil (λ _ _ h t=>.cons h t) h
theorem Dens.mono{K:Frag}(e:Same F F'){v:List V}{d:List D}(h:Dens K F v d):Dens K F' v d:=
 Dens.rec (motive_1:=λ _ _ _=>True) (motive_2:=λ v d _=>Dens K F' v d) trivial (λ _=>trivial) (λ _=>trivial) (λ _=>trivial) (λ _=>trivial) (λ _ _ _=>trivial) (λ _ _ _=>trivial) (λ _ _ _ _=>trivial) (λ _ _ _=>trivial) (λ _ _ _=>trivial) (λ _ _ _ _=>trivial) .nil (λ h _ _ t=>.cons (h.mono e) t) h
section
variable {K:Frag} 
theorem Dens.length{xs:List V}{ds:List D}(h:Dens K F xs ds):xs.length=ds.length:=
 Dens.rec (motive_1:=λ _ _ _=>True) (motive_2:=λ xs ds _=>xs.length=ds.length) trivial (λ _=>trivial) (λ _=>trivial) (λ _=>trivial) (λ _=>trivial) (λ _ _ _=>trivial) (λ _ _ _=>trivial) (λ _ _ _ _=>trivial) (λ _ _ _=>trivial) (λ _ _ _=>trivial) (λ _ _ _ _=>trivial) rfl (λ _ _ _ t=>congrArg (·+1) t) h
theorem Dens.get:∀ {xs:List V} {ds:List D} {i:Nat} {d:D},Dens K F xs ds->ds[i]?=some d->∃ x,xs[i]?=some x/\Den K F x d
 |_,_,_,_,.nil,e=>by simp at e
 |_,_,0,_,.cons h _,e=>by simp at e;subst e;exact⟨_,rfl,h⟩
 | _,_,i+1,d,.cons h t,e=>by
  obtain⟨x,h1,h2⟩:=Dens.get (i:=i) (d:=d) t (by exists e);exact⟨x,(by exists h1),h2⟩
theorem Dens.get':∀ {xs:List V} {ds:List D} {i:Nat} {x:V},Dens K F xs ds->xs[i]?=some x->∃ d,ds[i]?=some d/\Den K F x d
 |_,_,_,_,.nil,e=>by simp at e
 |_,_,0,_,.cons h _,e=>by simp at e;subst e;exact⟨_,rfl,h⟩
 | _,_,i+1,d,.cons h t,e=>by
  obtain⟨x,h1,h2⟩:=Dens.get' (i:=i) (x:=d) t (by exists e);exact⟨x,(by exists h1),h2⟩
theorem Dens.append{ys:List V}{es:List D}(h:Dens K F xs ds)(s:Dens K F ys es):Dens K F (xs++ys) (ds++es):=
 Dens.rec (motive_1:=λ _ _ _=>True) (motive_2:=λ xs ds _=>Dens K F (xs++ys) (ds++es)) trivial (λ _=>trivial) (λ _=>trivial) (λ _=>trivial) (λ _=>trivial) (λ _ _ _=>trivial) (λ _ _ _=>trivial) (λ _ _ _ _=>trivial) (λ _ _ _=>trivial) (λ _ _ _=>trivial) (λ _ _ _ _=>trivial) s (λ h _ _ t=>.cons h t) h
theorem Dens.take:∀ {xs:List V} {ds:List D} (n:Nat),Dens K F xs ds->Dens K F (xs.take n) (ds.take n)
 |_,_,0,_=>.nil
 |_,_,_+1,.nil=>.nil
 |_,_,n+1,.cons r t=>.cons r (Dens.take n t)
theorem Dens.drop:∀ {xs:List V} {ds:List D} (n:Nat),Dens K F xs ds->Dens K F (xs.drop n) (ds.drop n)
 |_,_,0,r=>r
 |_,_,_+1,.nil=>.nil
 |_,_,n+1,.cons r t=>Dens.drop n t
theorem Dens.set{x:V}{d:D}(r:Den K F x d):∀ {xs:List V} {ds:List D} (i:Nat),Dens K F xs ds->Dens K F (xs.set i x) (ds.set i d)
 |_,_,_,.nil=>.nil
 |_,_,0,.cons _ t=>.cons r t
 |_,_,i+1,.cons q t=>.cons q (Dens.set r i t)
theorem Dens.snoc{x:V}(h:Dens K F xs ds)(q:Den K F x d):Dens K F (xs++[x]) (ds++[d]):=h.append (.cons q .nil)
theorem Dens.strs:∀ (zs:List Str),Dens K F (zs.map V.str) (zs.map D.str)
 |[]=>.nil
 |z::zs=>.cons (.str z) (Dens.strs zs)
theorem Dens.ints:∀ (zs:List Int),Dens K F (zs.map V.int) (zs.map D.int)
 |[]=>.nil
 |z::zs=>.cons (.int z) (Dens.ints zs)
theorem Den.str_eq(h:Den K F v (.str z)):v=.str z:=by cases h;rfl
theorem Den.int_eq{z:Int}(h:Den K F v (.int z)):v=.int z:=by cases h;rfl
theorem Den.bl_eq{z:Bool}(h:Den K F v (.bl z)):v=.bl z:=by cases h;rfl
theorem Den.non_eq(h:Den K F v .non):v=.non:=by cases h;rfl
theorem Dens.strs_eq:∀ {zs:List Str} {xs:List V},Dens K F xs (zs.map D.str)->xs=zs.map V.str
 |[],_,.nil=>rfl
 |z::zs,_,.cons h t=>by rw[h.str_eq,Dens.strs_eq t];rfl
theorem Dens.bls_eq:∀ {zs:List Bool} {xs:List V},Dens K F xs (zs.map D.bl)->xs=zs.map V.bl
 |[],_,.nil=>rfl
 |z::zs,_,.cons h t=>by rw[h.bl_eq,Dens.bls_eq t];rfl
end
mutual
def vG:D->DV
 |.non=>.non
 |.bl b=>.bl b
 |.int i=>.int i
 |.str x=>.str x
 |.lst xs=>.lst (toDVs xs)
 |.tup xs=>.tup (toDVs xs)
 |.dct _ _=>.non
 |.ty _=>.non
 |.opq _ _=>.non
 |.gt _=>.non
 |.dt _ _=>.non
def toDVs:List D->List DV
 |[]=>[]
 |d::ds=>vG d::toDVs ds
end
mutual
def okD:D->Bool
 |.lst xs=>okDs xs
 |.tup xs=>okDs xs
 |.dct _ _=>false
 |.ty _=>false
 |.opq _ _=>false
 |.gt _=>false
 |.dt _ _=>false
 |_=>true
def okDs:List D->Bool
 |[]=>true
 |d::ds=>okD d&&okDs ds
end
theorem Den.deep{K:Frag}(h:Den K H v d):okD d=true->Deep K H v (vG d):=
 Den.rec (motive_1:=λ v d _=>okD d=true->Deep K H v (vG d)) (motive_2:=λ v d _=>okDs d=true->Deeps K H v (toDVs d)) (λ _=>.non) (λ b _=>.bl b) (λ b _=>.int b) (λ b _=>.str b) (λ _ o=>nomatch o) (λ h _ t o=>.lst h (t o)) (λ h _ t o=>.tup (SqT.of h) (t o)) (λ _ _ _ _ o=>nomatch o) (λ _ _ _ o=>nomatch o) (λ _ _ _ o=>nomatch o) (λ _ _ _ _ o=>nomatch o) (λ _=>.nil) (λ _ _ h t o=>.cons (h (abW.mp o).1) (t (abW.mp o).2)) h
def dEq(d e:D):Bool:=deq (vG d) (vG e)
inductive FV where
 |fz (d:D)|fl (a:Addr) (ds:List D)|fd (a:Addr) (ks:List Key) (ds:List D)|ft (a:Addr) (ks:List (List Key)) (ds:List D)
def Dd:Nat->Str
 |0 => "Asking"
 |1 => "Reader"
 |_ => "Desk"
def cn:Nat->List Str
 |0=>["form", "name", "place", "at", "turn", "steps", "done", "length"]
 |_=>[]
structure Oo where
 a:Addr
 c:Nat
 ps:List FV
inductive OV where
 |fz (d:D)|fl (ds:List D)|fd (ks:List Key) (ds:List D)|ft (ks:List (List Key)) (ds:List D)|ot (ps:List FV)|ob (o:Oo)|obs (xs:List Oo)|obh (xs:List Oo) (a:Addr)
variable{o:OV}{P:OV->Prop}{f:D->D->(OV->Prop)->Prop}
inductive Fw(K:Frag)(F H:Hp):V->FV->List Addr->Prop where
 |fz {v:V} {d:D}:Den K F v d->Fw K F H v (.fz d) []
 |fl {a:Addr} {xs:List V} {ds:List D}:H a=some (.lst xs)->Dens K F xs ds->Fw K F H (.ref a) (.fl a ds) [a]
 |fd {a:Addr} {ys:List (Key×V)} {ks:List Key} {ds:List D}:H a=some (.dK ys)->ys.map (·.1)=ks->Dens K F (ys.map (·.2)) ds->Fw K F H (.ref a) (.fd a ks ds) [a]
 |ft {a:Addr} {ys:List (List Key×V)} {ks:List (List Key)} {ds:List D}:H a=some (.dT ys)->ys.map (·.1)=ks->Dens K F (ys.map (·.2)) ds->Fw K F H (.ref a) (.ft a ks ds) [a]
inductive Fws(K:Frag)(F H:Hp):List V->List FV->List Addr->Prop where
 |nil:Fws K F H [] [] []
 |cons {x:V} {o:FV} {xs:List V} {os:List FV} {A B:List Addr}:Fw K F H x o A->Fws K F H xs os B->Fws K F H (x::xs) (o::os) (A++B)
inductive Ob(K:Frag)(F H:Hp):V->Oo->List Addr->Prop where
 |mk {a C dx:Addr} {c:Nat} {fs:List (Str×V)} {ps:List FV} {A:List Addr}:H a=some (.ins C dx fs)->PySem.W.nsIn K mainGlobals (Dd c)=some (some (.ref C))->fs.map (·.1)=(cn c).take ps.length->ps.length<=(cn c).length->Fws K F H (fs.map (·.2)) ps A->Ob K F H (.ref a) ⟨a,c,ps⟩ (a::A)
inductive Obs(K:Frag)(F H:Hp):List V->List Oo->List Addr->Prop where
 |nil:Obs K F H [] [] []
 |cons {x:V} {o:Oo} {xs:List V} {os:List Oo} {A B:List Addr}:Ob K F H x o A->Obs K F H xs os B->Obs K F H (x::xs) (o::os) (A++B)
inductive Ow(K:Frag)(F H:Hp):V->OV->List Addr->Prop where
 |fz {v:V} {d:D}:Den K F v d->Ow K F H v (.fz d) []
 |fl {a:Addr} {xs:List V} {ds:List D}:H a=some (.lst xs)->Dens K F xs ds->Ow K F H (.ref a) (.fl ds) [a]
 |fd {a:Addr} {ys:List (Key×V)} {ks:List Key} {ds:List D}:H a=some (.dK ys)->ys.map (·.1)=ks->Dens K F (ys.map (·.2)) ds->Ow K F H (.ref a) (.fd ks ds) [a]
 |ft {a:Addr} {ys:List (List Key×V)} {ks:List (List Key)} {ds:List D}:H a=some (.dT ys)->ys.map (·.1)=ks->Dens K F (ys.map (·.2)) ds->Ow K F H (.ref a) (.ft ks ds) [a]
 |ot {a:Addr} {xs:List V} {ps:List FV} {A:List Addr}:F a=some (.tup xs)->Fws K F H xs ps A->Ow K F H (.ref a) (.ot ps) A
 |ob {v:V} {o:Oo} {A:List Addr}:Ob K F H v o A->Ow K F H v (.ob o) A
 |obs {a:Addr} {xs:List V} {os:List Oo} {A:List Addr}:H a=some (.lst xs.reverse)->Obs K F H xs os A->Ow K F H (.ref a) (.obs os) (a::A)
 |obh {a b:Addr} {xs:List V} {os:List Oo} {A:List Addr}:H a=some (.lst (.ref b::xs).reverse)->Obs K F H xs os A->Ow K F H (.ref a) (.obh os b) (a::A)
section
variable {K:Frag} 
theorem Fw.keep(e:Same F F'){o:FV}(h:Fw K F H v o A)(k:∀ a u,a∈A->H a=some u->H' a=some u):Fw K F' H' v o A:=by
 cases h with
 |fz h=>exact .fz (h.mono e)
 |fl h t=>exact .fl (k _ _ (aab ..) h) (t.mono e)
 |fd h q t=>exact .fd (k _ _ (aab ..) h) q (t.mono e)
 |ft h q t=>exact .ft (k _ _ (aab ..) h) q (t.mono e)
theorem Fws.keep(e:Same F F'){v:List V}{o:List FV}(h:Fws K F H v o A)(k:∀ a u,a∈A->H a=some u->H' a=some u):Fws K F' H' v o A:=by
 induction h with
 |nil=>exact .nil
 |cons h t ih=>exact .cons (h.keep e λ a u ha=>k a u (aam _ ha)) (ih λ a u ha=>k a u (aai _ ha))
theorem Ob.keep(e:Same F F'){o:Oo}(h:Ob K F H v o A)(k:∀ a u,a∈A->H a=some u->H' a=some u):Ob K F' H' v o A:=by
 cases h with
 |mk h c n l t=>exact .mk (k _ _ (aab ..) h) c n l (t.keep e λ a u ha=>k a u (aad _ ha))
theorem Obs.keep(e:Same F F'){v:List V}{o:List Oo}(h:Obs K F H v o A)(k:∀ a u,a∈A->H a=some u->H' a=some u):Obs K F' H' v o A:=by
 induction h with
 |nil=>exact .nil
 |cons h t ih=>exact .cons (h.keep e λ a u ha=>k a u (aam _ ha)) (ih λ a u ha=>k a u (aai _ ha))
theorem Fw.live{o:FV}(h:Fw K F H v o A):∀ a∈A,∃ u,H a=some u:=by
 cases h with
 |fz h=>exact λ _ z=>nomatch z
 |fl h t=>exact λ b z=>⟨_,abN.mp z ▸ h⟩
 |fd h q t=>exact λ b z=>⟨_,abN.mp z ▸ h⟩
 |ft h q t=>exact λ b z=>⟨_,abN.mp z ▸ h⟩
theorem Fws.live{v:List V}{o:List FV}(h:Fws K F H v o A):∀ a∈A,∃ u,H a=some u:=by
 induction h with
 |nil=>exact λ _ z=>nomatch z
 |cons h t ih=>exact λ b z=>(abL.mp z).elim (h.live b) (ih b)
theorem Ob.live{o:Oo}(h:Ob K F H v o A):∀ a∈A,∃ u,H a=some u:=by
 cases h with
 |mk h c n l t=>exact λ b z=>(abQ.mp z).elim (λ z=>⟨_,z ▸ h⟩) (t.live b)
theorem Obs.live{v:List V}{o:List Oo}(h:Obs K F H v o A):∀ a∈A,∃ u,H a=some u:=by
 induction h with
 |nil=>exact λ _ z=>nomatch z
 |cons h t ih=>exact λ b z=>(abL.mp z).elim (h.live b) (ih b)
end
inductive Ows(K:Frag)(F H:Hp):List V->List OV->List Addr->Prop where
 |nil:Ows K F H [] [] []
 |cons {x:V} {o:OV} {xs:List V} {os:List OV} {A B:List Addr}:Ow K F H x o A->Ows K F H xs os B->Ows K F H (x::xs) (o::os) (A++B)
theorem Ow.keep{K:Frag}(e:Same F F')(h:Ow K F H v o A)(k:∀ a u,a∈A->H a=some u->H' a=some u):Ow K F' H' v o A:=by
 cases h with
 |fz h=>exact .fz (h.mono e)
 |fl h t=>exact .fl (k _ _ (aab ..) h) (t.mono e)
 |fd h q t=>exact .fd (k _ _ (aab ..) h) q (t.mono e)
 |ft h q t=>exact .ft (k _ _ (aab ..) h) q (t.mono e)
 |ot h t=>exact .ot (e _ _ h) (t.keep e k)
 |ob h=>exact .ob (h.keep e k)
 |obs h t=>exact .obs (k _ _ (aab ..) h) (t.keep e λ a u ha=>k a u (aad _ ha))
 |obh h t=>exact .obh (k _ _ (aab ..) h) (t.keep e λ a u ha=>k a u (aad _ ha))
theorem Ows.keep{K:Frag}(e:Same F F'){v:List V}{o:List OV}(h:Ows K F H v o A)(k:∀ a u,a∈A->H a=some u->H' a=some u):Ows K F' H' v o A:=by
 induction h with
 |nil=>exact .nil
 |cons h t ih=>exact .cons (h.keep e λ a u ha=>k a u (aam _ ha)) (ih λ a u ha=>k a u (aai _ ha))
theorem Ow.live{K:Frag}(h:Ow K F H v o A):∀ a∈A,∃ u,H a=some u:=by
 cases h with
 |fz h=>exact λ _ z=>nomatch z
 |fl h t=>exact λ b z=>⟨_,abN.mp z ▸ h⟩
 |fd h q t=>exact λ b z=>⟨_,abN.mp z ▸ h⟩
 |ft h q t=>exact λ b z=>⟨_,abN.mp z ▸ h⟩
 |ot h t=>exact t.live
 |ob h=>exact h.live
 |obs h t=>exact λ b z=>(abQ.mp z).elim (λ z=>⟨_,z ▸ h⟩) (t.live b)
 |obh h t=>exact λ b z=>(abQ.mp z).elim (λ z=>⟨_,z ▸ h⟩) (t.live b)
theorem Ows.live{K:Frag}{v:List V}{o:List OV}(h:Ows K F H v o A):∀ a∈A,∃ u,H a=some u:=by
 induction h with
 |nil=>exact λ _ z=>nomatch z
 |cons h t ih=>exact λ b z=>(abL.mp z).elim (h.live b) (ih b)
def NT(H:Hp)(A:List Addr):Prop:=∀ a∈A,∀ xs,H a≠some (.tup xs)
theorem NT.nil :NT H []:=λ _ z=>nomatch z
theorem NT.one{o:HO}(h:H a=some o)(n:∀ xs,o≠.tup xs)(t:NT H A):NT H (a::A):=λ b hb xs z=>(abQ.mp hb).elim (λ y=>n xs (aaj (h.symm.trans (y ▸ z)))) (λ y=>t b y xs z)
theorem NT.app(s:NT H A)(t:NT H B):NT H (A++B):=λ b hb=>(abL.mp hb).elim (s b) (t b)
section
variable {K:Frag} 
theorem Fw.nt{o:FV}(h:Fw K F H v o A):NT H A:=by
 cases h with
 |fz h=>exact .nil
 |fl h t=>exact .one h (λ _ z=>nomatch z) .nil
 |fd h q t=>exact .one h (λ _ z=>nomatch z) .nil
 |ft h q t=>exact .one h (λ _ z=>nomatch z) .nil
theorem Fws.nt{v:List V}{o:List FV}(h:Fws K F H v o A):NT H A:=by
 induction h with
 |nil=>exact .nil
 |cons h t ih=>exact h.nt.app ih
theorem Ob.nt{o:Oo}(h:Ob K F H v o A):NT H A:=by
 cases h with
 |mk h c n l t=>exact .one h (λ _ z=>nomatch z) t.nt
theorem Obs.nt{v:List V}{o:List Oo}(h:Obs K F H v o A):NT H A:=by
 induction h with
 |nil=>exact .nil
 |cons h t ih=>exact h.nt.app ih
theorem Ow.nt(h:Ow K F H v o A):NT H A:=by
 cases h with
 |fz h=>exact .nil
 |fl h t=>exact .one h (λ _ z=>nomatch z) .nil
 |fd h q t=>exact .one h (λ _ z=>nomatch z) .nil
 |ft h q t=>exact .one h (λ _ z=>nomatch z) .nil
 |ot h t=>exact t.nt
 |ob h=>exact h.nt
 |obs h t=>exact .one h (λ _ z=>nomatch z) t.nt
 |obh h t=>exact .one h (λ _ z=>nomatch z) t.nt
end
def hX:FV->D
 |.fz d=>d
 |.fl _ ds=>.lst ds
 |.fd _ ks ds=>.dct ks ds
 |.ft _ ks ds=>.dt ks ds
def Gh:OV->Option D
 |.fz d=>some d
 |.fl ds=>some (.lst ds)
 |.fd ks ds=>some (.dct ks ds)
 |.ft ks ds=>some (.dt ks ds)
 |.ot ps=>some (.tup (ps.map hX))
 |_=>none
theorem Fw.freeze{K:Frag}(e:Same F F'){o:FV}(h:Fw K F H v o A)(k:∀ a u,a∈A->H a=some u->F' a=some u):Den K F' v (hX o):=by
 cases h with
 |fz h=>exact h.mono e
 |fl h t=>exact .lst (SqL.of (k _ _ (aab ..) h)) (t.mono e)
 |fd h q t=>exact .dct (.inl (k _ _ (aab ..) h)) q (t.mono e)
 |ft h q t=>exact .dt (.inl (k _ _ (aab ..) h)) q (t.mono e)
theorem Fws.freeze{K:Frag}(e:Same F F'){v:List V}{o:List FV}(h:Fws K F H v o A)(k:∀ a u,a∈A->H a=some u->F' a=some u):Dens K F' v (o.map hX):=by
 induction h with
 |nil=>exact .nil
 |cons h t ih=>exact .cons (h.freeze e λ a u ha=>k a u (aam _ ha)) (ih λ a u ha=>k a u (aai _ ha))
theorem Ow.freeze{K:Frag}(e:Same F F')(h:Ow K F H v o A)(k:∀ a u,a∈A->H a=some u->F' a=some u)(hd:Gh o=some d):Den K F' v d:=by
 cases h with
 |fz h=>cases hd;exact h.mono e
 |fl h t=>cases hd;exact .lst (SqL.of (k _ _ (aab ..) h)) (t.mono e)
 |fd h q t=>cases hd;exact .dct (.inl (k _ _ (aab ..) h)) q (t.mono e)
 |ft h q t=>cases hd;exact .dt (.inl (k _ _ (aab ..) h)) q (t.mono e)
 |ot h t=>cases hd;exact .tup (e _ _ h) (t.freeze e k)
 |_=>cases hd
def flat:OV->Option D
 |.fz d=>some d
 |.fl ds=>some (.lst ds)
 |.fd ks ds=>some (.dct ks ds)
 |.ft ks ds=>some (.dt ks ds)
 |_=>none
inductive Acc(K:Frag)(F H:Hp):V->D->Prop where
 |fz {v:V} {d:D}:Den K F v d->Acc K F H v d
 |lst {a:Addr} {xs:List V} {ds:List D}:H a=some (.lst xs)->Dens K F xs ds->Acc K F H (.ref a) (.lst ds)
 |dct {a:Addr} {ys:List (Key×V)} {ks:List Key} {ds:List D}:H a=some (.dK ys)->ys.map (·.1)=ks->Dens K F (ys.map (·.2)) ds->Acc K F H (.ref a) (.dct ks ds)
 |dt {a:Addr} {ys:List (List Key×V)} {ks:List (List Key)} {ds:List D}:H a=some (.dT ys)->ys.map (·.1)=ks->Dens K F (ys.map (·.2)) ds->Acc K F H (.ref a) (.dt ks ds)
section
variable {K:Frag} 
theorem Ow.acc(h:Ow K F H v o A)(e:flat o=some d):Acc K F H v d:=by
 cases h with
 |fz h=>simp only[flat,Option.some.injEq] at e;subst e;exact .fz h
 |fl h t=>simp only[flat,Option.some.injEq] at e;subst e;exact .lst h t
 |fd h q t=>simp only[flat,Option.some.injEq] at e;subst e;exact .dct h q t
 |ft h q t=>cases e;exact .dt h q t
 |_=>cases e
theorem Acc.den(e:Same F H)(h:Acc K F H v d):Den K H v d:=by
 cases h with
 |fz h=>exact h.mono e
 |lst h t=>exact .lst (SqL.of h) (t.mono e)
 |dct h k t=>exact .dct (.inl h) k (t.mono e)
 |dt h k t=>exact .dt (.inl h) k (t.mono e)
theorem Acc.asL(e:Same F H)(h:Acc K F H v (.lst ds)):∃ a xs,v=.ref a/\SqL K H a xs/\Dens K F xs ds:=by
 cases h with
 |fz h=>cases h with|lst h t=>exact⟨_,_,rfl,e.seq h,t⟩
 |lst h t=>exact⟨_,_,rfl,SqL.of h,t⟩
theorem Acc.asT(e:Same F H)(h:Acc K F H v (.tup ds)):∃ a xs,v=.ref a/\SqT K H a xs/\Dens K F xs ds:=by
 cases h with
 |fz h=>cases h with|tup h t=>exact⟨_,_,rfl,SqT.of (e _ _ h),t⟩
theorem Acc.asD(e:Same F H)(h:Acc K F H v (.dct ks ds)):∃ a ys,v=.ref a/\Rd H a (.dK ys)/\ys.map (·.1)=ks/\Dens K F (ys.map (·.2)) ds:=by
 cases h with
 |fz h=>cases h with|dct h k t=>exact⟨_,_,rfl,e.rd h,k,t⟩
 |dct h k t=>exact⟨_,_,rfl,.inl h,k,t⟩
theorem Acc.asTH(e:Same F H)(h:Acc K F H v (.tup ds)):∃ a xs,v=.ref a/\H a=some (.tup xs)/\Dens K F xs ds:=by
 cases h with
 |fz h=>cases h with|tup h t=>exact⟨_,_,rfl,e _ _ h,t⟩
theorem Acc.asG(e:Same F H)(h:Acc K F H v (.gt ds)):∃ a xs,v=.ref a/\SqT K H a xs/\Dens K F xs ds:=by
 cases h with
 |fz h=>cases h with|gt h t=>exact⟨_,_,rfl,h.same e,t⟩
theorem Acc.asDT{ks:List (List Key)}(e:Same F H)(h:Acc K F H v (.dt ks ds)):∃ a ys,v=.ref a/\Rd H a (.dT ys)/\ys.map (·.1)=ks/\Dens K F (ys.map (·.2)) ds:=by
 cases h with
 |fz h=>cases h with|dt h k t=>exact⟨_,_,rfl,e.rd h,k,t⟩
 |dt h k t=>exact⟨_,_,rfl,.inl h,k,t⟩
theorem Acc.str_eq(h:Acc K F H v (.str z)):v=.str z:=by cases h with|fz h=>exact h.str_eq
theorem Acc.int_eq{z:Int}(h:Acc K F H v (.int z)):v=.int z:=by cases h with|fz h=>exact h.int_eq
theorem Acc.bl_eq{z:Bool}(h:Acc K F H v (.bl z)):v=.bl z:=by cases h with|fz h=>exact h.bl_eq
theorem Acc.non_eq(h:Acc K F H v .non):v=.non:=by cases h with|fz h=>exact h.non_eq
theorem Acc.ty_eq{T:String}(h:Acc K F H v (.ty T)):v=.ty T:=by cases h with|fz h=>cases h;rfl
end
abbrev FSt:=List (Option OV)
variable{ρ:FSt}
inductive Slots(K:Frag)(F H:Hp):St->FSt->List Addr->Prop where
 |nil:Slots K F H [] [] []
 |skip {x:Option V} {σ:St} {ρ:FSt} {A:List Addr}:Slots K F H σ ρ A->Slots K F H (x::σ) (none::ρ) A
 |has {v:V} {o:OV} {σ:St} {ρ:FSt} {A B:List Addr}:Ow K F H v o A->Slots K F H σ ρ B->Slots K F H (some v::σ) (some o::ρ) (A++B)
section
variable {K:Frag} 
theorem Slots.keep(e:Same F F')(h:Slots K F H σ ρ A)(k:∀ a u,a∈A->H a=some u->H' a=some u):Slots K F' H' σ ρ A:=by
 induction h with
 |nil=>exact .nil
 |skip t ih=>exact .skip (ih k)
 |has h t ih=>exact .has (h.keep e λ a u ha=>k a u (aam _ ha)) (ih λ a u ha=>k a u (aai _ ha))
theorem Slots.live(h:Slots K F H σ ρ A):∀ a∈A,∃ u,H a=some u:=by
 induction h with
 |nil=>exact λ _ z=>nomatch z
 |skip t ih=>exact ih
 |has h t ih=>exact λ b z=>(abL.mp z).elim (h.live b) (ih b)
theorem Slots.nt(h:Slots K F H σ ρ A):NT H A:=by
 induction h with
 |nil=>exact .nil
 |skip _ ih=>exact ih
 |has h _ ih=>exact h.nt.app ih
theorem Slots.len(h:Slots K F H σ ρ A):σ.length=ρ.length:=by
 induction h with
 |nil=>rfl
 |skip t ih=>exact congrArg (·+1) ih
 |has _ t ih=>exact congrArg (·+1) ih
theorem Slots.take(h:Slots K F H σ ρ A)(e:ρ[i]?=some (some o)):∃ v B A',σ[i]?=some (some v)/\Ow K F H v o B/\A.Perm (B++A')/\Slots K F H σ (ρ.set i none) A':=by
 induction h generalizing i with
 |nil=>cases e
 | skip t ih=>
  cases i with
  |zero=>cases e
  | succ i=>
   obtain⟨v,B,A',h1,h2,h3,h4⟩:=ih (i:=i) e;exact⟨v,B,A',h1,h2,h3,.skip h4⟩
 | @has _ _ _ _ C _ h t ih=>
  cases i with
  |zero=>cases e;exact ⟨_,_,_,rfl,h,aaD _,.skip t⟩
  | succ i=>
   obtain⟨v,B,A',h1,h2,h3,h4⟩:=ih (i:=i) e;exact⟨v,B,C++A',h1,h2,(aaS C h3).trans (by rw[← aas,← aas];exact abd A' abh),.has h h4⟩
theorem Slots.drop(i:Nat)(x:Option V)(h:Slots K F H σ ρ A):∃ A' B,A.Perm (B++A')/\Slots K F H (σ.set i x) (ρ.set i none) A':=by
 induction h generalizing i with
 |nil=>exact⟨[],[],aaD _,.nil⟩
 | skip t ih=>
  cases i with
  |zero=>exact ⟨_,[],aaD _,.skip t⟩
  | succ i=>
   obtain⟨A',B,h1,h2⟩:=ih i;exact⟨A',B,h1,.skip h2⟩
 | @has _ _ _ _ C _ h t ih=>
  cases i with
  |zero=>exact ⟨_,_,aaD _,.skip t⟩
  | succ i=>
   obtain⟨A',B,h3,h4⟩:=ih i;exact⟨C++A',B,(aaS C h3).trans (by rw[← aas,← aas];exact abd A' abh),.has h h4⟩
theorem Slots.put(s:Slots K F H σ ρ A)(e:ρ[i]?=some none)(hv:σ[i]?=some (some v))(h:Ow K F H v o B):∃ A',A'.Perm (B++A)/\Slots K F H σ (ρ.set i (some o)) A':=by
 induction s generalizing i with
 |nil=>cases e
 | skip t ih=>
  cases i with
  |zero=>cases hv;exact ⟨_,aaD _,.has h t⟩
  | succ i=>
   obtain⟨A',h1,h2⟩:=ih (i:=i) e hv;exact⟨A',h1,.skip h2⟩
 | @has _ _ _ _ C _ h' t ih=>
  cases i with
  |zero=>cases e
  | succ i=>
   obtain⟨A',h1,h2⟩:=ih (i:=i) e hv;exact⟨C++A',(aaS C h1).trans (by rw[← aas,← aas];exact abd _ abh),.has h' h2⟩
end
inductive RV where
 |ov (o:OV)|br (i:Nat)
variable{r:RV}
structure SameN(Z H:Hp):Prop where
 s:Same Z H
 n:∀ a xs,Z a≠some (.tup xs)
theorem SameN.free(h:SameN Z H)(e:H a=none):Z a=none:=h.s.free e
theorem SameN.trans(h:SameN Z H)(e:Same H H'):SameN Z H':=⟨h.s.trans e,h.n⟩
theorem SameN.back{Z':Hp}(h:SameN Z' H)(e:Same Z Z'):SameN Z H:=⟨e.trans h.s,λ a xs z=>h.n a xs (e a _ z)⟩
theorem SameN.none :SameN (λ _=>.none) H:=⟨(λ _ _ z=>nomatch z),λ _ _ z=>nomatch z⟩
structure Rel(K:Frag)(F Z H:Hp)(σ:St)(ρ:FSt)(A:List Addr):Prop where
 sl:Slots K F H σ ρ A
 nd:A.Nodup
 fr:∀ a∈A,F a=none/\Z a=none
 fh:Same F H
 zh:SameN Z H
 dj:∀ a o,F a=some o->Z a=none
def RV1(K:Frag)(F H:Hp)(σ:St)(v:V):RV->List Addr->Prop
 |.ov o,B=>Ow K F H v o B
 |.br i,B=>σ[i]?=some (some v)/\B=[]
structure Fresh(F Z:Hp)(A B:List Addr):Prop where
 nd:B.Nodup
 fr:∀ b∈B,F b=none/\Z b=none/\b∉A
theorem Fresh.nil :Fresh F Z A []:=⟨aaB,λ _ z=>nomatch z⟩
inductive RVL(K:Frag)(F H:Hp)(σ:St):List V->List RV->List Addr->Prop where
 |nil:RVL K F H σ [] [] []
 |cons {v:V} {r:RV} {vs:List V} {rs:List RV} {A B:List Addr}:RV1 K F H σ v r A->RVL K F H σ vs rs B->RVL K F H σ (v::vs) (r::rs) (A++B)
section
variable {K:Frag}    
theorem RV1.keep(h:RV1 K F H σ v r B)(e:Same F F')(k:∀ a u,a∈B->H a=some u->H' a=some u):RV1 K F' H' σ v r B:=by
 cases r with
 |ov o=>exact Ow.keep e h k
 |br i=>exact h
theorem RV1.live(h:RV1 K F H σ v r B):∀ b∈B,∃ u,H b=some u:=by
 cases r with
 |ov o=>exact Ow.live h
 |br i=>intro b hb;rw[h.2] at hb;cases hb
theorem RV1.nt(h:RV1 K F H σ v r B):NT H B:=by
 cases r with
 |ov o=>exact Ow.nt h
 |br i=>intro b hb;rw[h.2] at hb;cases hb
theorem RVL.keep(e:Same F F'){v:List V}{r:List RV}(h:RVL K F H σ v r B)(k:∀ a u,a∈B->H a=some u->H' a=some u):RVL K F' H' σ v r B:=by
 induction h with
 |nil=>exact .nil
 |cons h t ih=>exact .cons (h.keep e λ a u ha=>k a u (aam _ ha)) (ih λ a u ha=>k a u (aai _ ha))
theorem mix(B:List Addr)(H Z:Hp):∃ G:Hp,(∀ b,b∈B->G b=H b)/\∀ b,b∉B->G b=Z b:=by
 classical
 exact⟨λ b=>if b∈B then H b else Z b,λ b hb=>if_pos hb,λ b hb=>if_neg hb⟩
theorem Rel.hold(R:Rel K F Z H σ ρ A)(live:∀ b∈B,∃ u,H b=some u)(nt:NT H B)(f:Fresh F Z A B):∃ Z',Same Z Z'/\Rel K F Z' H σ ρ A/\(∀ b∈B,∃ u,Z' b=some u) /\
  ∀ F2 H2 ρ2 A2,Same F F2->Rel K F2 Z' H2 σ ρ2 A2->Rel K F2 Z H2 σ ρ2 A2/\Fresh F2 Z A2 B/\∀ b u,b∈B->H b=some u->H2 b=some u:=by
 obtain⟨Z',hin,hout⟩:=mix B H Z;refine⟨Z',λ b o h=>?_,⟨R.sl,R.nd,λ a ha=>⟨(R.fr a ha).1,?_⟩,R.fh,⟨λ b o h=>?_,λ b xs h=>?_⟩,λ a o h=>?_⟩,λ b hb=>?_,λ F2 H2 ρ2 A2 e2 R2=>?_⟩
 ·rw[hout b λ hb=>by rw[(f.fr b hb).2.1] at h;cases h];exact h
 ·rw[hout a λ hb=>(f.fr a hb).2.2 ha];exact(R.fr a ha).2
 ·by_cases hb:b∈B
  ·rw[hin b hb] at h;exact h
  ·rw[hout b hb] at h;exact R.zh.s b o h
 ·by_cases hb:b∈B
  ·rw[hin b hb] at h;exact nt b hb xs h
  ·rw[hout b hb] at h;exact R.zh.n b xs h
 ·rw[hout a λ hb=>by rw[(f.fr a hb).1] at h;cases h];exact R.dj a o h
 ·obtain⟨u,hu⟩:=live b hb;exact⟨u,by rw[hin b hb];exact hu⟩
 ·have sz:Same Z Z':=λ b o h=>by
   rw[hout b λ hb=>by rw[(f.fr b hb).2.1] at h;cases h];exact h
  refine⟨⟨R2.sl,R2.nd,λ a ha=>⟨(R2.fr a ha).1,sz.free (R2.fr a ha).2⟩,R2.fh,R2.zh.back sz,λ a o h=>sz.free (R2.dj a o h)⟩,⟨f.nd,λ b hb=>?_⟩,λ b u hb hu=>?_⟩
  ·obtain⟨u,hu⟩:=live b hb;refine⟨?_,(f.fr b hb).2.1,λ h=>?_⟩
   ·cases q:F2 b with
    |none=>rfl
    | some w=>
     have:=R2.dj b w q;rw[hin b hb,hu] at this;cases this
   ·have:=(R2.fr b h).2;rw[hin b hb,hu] at this;cases this
  ·exact R2.zh.s b u (by rw[hin b hb];exact hu)
structure Pure(F H F' H':Hp):Prop where
 ff:Same F F'
 hh:Same H H'
 fh:Same F' H'
 nw:∀ a o,F' a=some o->F a=none->H a=none
theorem Pure.refl(e:Same F H):Pure F H F H:=⟨Same.refl _,Same.refl _,e,λ a o h n=>by rw[n] at h;cases h⟩
theorem Pure.new{o:HO}(e:Same F H)(hp:H p=none):Pure F H F (upd H p o):=⟨Same.refl _,bp hp,e.trans (bp hp),λ a o h n=>by rw[n] at h;cases h⟩
theorem Pure.frz{p:Addr}{o:HO}(e:Same F H)(hp:H p=none):Pure F H (upd F p o) (upd H p o):=by
 have hf:F p=none:=e.free hp;refine⟨bp hf,bp hp,λ b u h=>?_,λ a u h n=>?_⟩
 ·by_cases hb:b=p
  ·subst hb;rw[ae] at h ⊢;exact h
  ·rw[af hb] at h ⊢;exact e b u h
 ·by_cases hb:a=p
  ·subst hb;exact hp
  ·rw[af hb,n] at h;cases h
theorem Pure.trans{F2 H1 H2:Hp}(a:Pure F H F1 H1)(b:Pure F1 H1 F2 H2):Pure F H F2 H2:=⟨a.ff.trans b.ff,a.hh.trans b.hh,b.fh,λ c o h n=>by
 cases q:F1 c with
 |none=>exact a.hh.free (b.nw c o h q)
 |some u=>exact a.nw c u q n⟩
theorem Rel.step(R:Rel K F Z H σ ρ A)(p:Pure F H F' H'):Rel K F' Z H' σ ρ A:=by
 refine⟨R.sl.keep p.ff λ a u _ h=>p.hh a u h,R.nd,λ a ha=>⟨?_,(R.fr a ha).2⟩,p.fh,R.zh.trans p.hh,λ a o h=>?_⟩
 ·cases q:F' a with
  |none=>rfl
  | some o=>
   have:=p.nw a o q (R.fr a ha).1;obtain⟨u,hu⟩:=R.sl.live a ha;rw[hu] at this;cases this
 ·cases q:F a with
  |none=>exact R.zh.free (p.nw a o h q)
  |some u=>exact R.dj a u q
structure New(H F':Hp)(B:List Addr):Prop where
 nd:B.Nodup
 fr:∀ b∈B,H b=none/\F' b=none
theorem New.nil:New H F' []:=⟨aaB,λ _ z=>nomatch z⟩
theorem New.one(h:H p=none)(f:F' p=none):New H F' [p]:=⟨by simp,λ b hb=>by
 have:b=p:=(by exists hb);rw[this];exact⟨h,f⟩⟩
theorem Rel.fresh(R:Rel K F Z H σ ρ A)(n:New H F' B):Fresh F' Z A B:=⟨n.nd,λ b hb=>⟨(n.fr b hb).2,R.zh.free (n.fr b hb).1,λ ha=>by
 obtain⟨u,hu⟩:=R.sl.live b ha;rw[(n.fr b hb).1] at hu;cases hu⟩⟩
def Lp:RV->FSt->Option (D×FSt)
 | .ov o,ρ=>match Gh o with
  |some d=>some (d,ρ)
  |none=>none
 | .br i,ρ=>match ρ[i]? with
  | some (some o)=>match Gh o with
   |some d=>some (d,ρ.set i (some (.fz d)))
   |none=>none
  |_=>none
def fzR:RV->FSt->Option (D×FSt)
 |.ov (.fz d),ρ=>some (d,ρ)
 |.ov (.fl ds),ρ=>some (.lst ds,ρ)
 |.ov (.fd ks ds),ρ=>some (.dct ks ds,ρ)
 |.ov (.ft ks ds),ρ=>some (.dt ks ds,ρ)
 |.ov (.ot ps),ρ=>some (.tup (ps.map hX),ρ)
 |.ov _,_=>none
 | .br i,ρ=>match ρ[i]? with
  |some (some (.fz d))=>some (d,ρ)
  |some (some (.fl ds))=>some (.lst ds,ρ.set i (some (.fz (.lst ds))))
  |some (some (.fd ks ds))=>some (.dct ks ds,ρ.set i (some (.fz (.dct ks ds))))
  |some (some (.ft ks ds))=>some (.dt ks ds,ρ.set i (some (.fz (.dt ks ds))))
  |some (some (.ot ps))=>some (.tup (ps.map hX),ρ.set i (some (.fz (.tup (ps.map hX)))))
  |_=>none
theorem HZ{x:Option OV}(h:ρ[i]?=some x):ρ.set i x=ρ:=by
 apply List.ext_getElem?;intro j;by_cases hj:i=j
 ·subst hj;rw[h,List.getElem?_set_self (List.getElem?_eq_some_iff.mp h).1]
 ·rw[List.getElem?_set_ne hj]
theorem H0(r:RV)(ρ:FSt):fzR r ρ=Lp r ρ:=by
 cases r with
 |ov o=>cases o <;> rfl
 | br i=>
  simp only[fzR,Lp]
  cases e:ρ[i]? with
  |none=>rfl
  | some x=>
   cases x with
   |none=>rfl
   | some o=>
    cases o with
    |fz d=>simp only[Gh];rw[HZ e]
    |_=>rfl
def fzL:List RV->FSt->Option (List D×FSt)
 |[],ρ=>some ([],ρ)
 | r::rs,ρ=>match fzR r ρ with
  | some (d,ρ1)=>match fzL rs ρ1 with
   |some (ds,ρ2)=>some (d::ds,ρ2)
   |none=>none
  |none=>none
theorem Rel.grow(R:Rel K F Z H σ ρ A)(live:∀ b∈B,∃ u,H b=some u)(f:∀ b∈B,F b=none/\Z b=none/\b∉A):∃ F',Same F F'/\Rel K F' Z H σ ρ A/\(∀ a u,a∈B->H a=some u->F' a=some u)/\∀ a o,F' a=some o->F a=none->a∈B:=by
 obtain⟨G,hin,hout⟩:=mix B H F
 have s:Same F G:=λ b o h=>by
  rw[hout b λ hb=>by rw[(f b hb).1] at h;cases h];exact h
 refine⟨G,s,⟨R.sl.keep s λ _ _ _ h=>h,R.nd,λ a ha=>⟨?_,(R.fr a ha).2⟩,λ b o h=>?_,R.zh,λ a o h=>?_⟩,λ a u ha h=>?_,λ a o h n=>?_⟩
 ·rw[hout a λ hb=>(f a hb).2.2 ha];exact(R.fr a ha).1
 ·by_cases hb:b∈B
  ·rw[hin b hb] at h;exact h
  ·rw[hout b hb] at h;exact R.fh b o h
 ·by_cases hb:a∈B
  ·exact(f a hb).2.1
  ·rw[hout a hb] at h;exact R.dj a o h
 ·rw[hin a ha];exact h
 ·by_cases hb:a∈B
  ·exact hb
  ·rw[hout a hb,n] at h;cases h
theorem bh{C:List Addr}(h:A.Perm (B++C))(n:A.Nodup):B.Nodup/\C.Nodup/\(∀ b∈B,b∉C):=by
 have:=h.nodup_iff.mp n;rw[abV] at this;exact⟨this.1,this.2.1,λ b hb hc=>this.2.2 b hb b hc rfl⟩
theorem Rel.takeI(R:Rel K F Z H σ ρ A)(e:ρ[i]?=some (some o)):∃ v B A',σ[i]?=some (some v)/\Ow K F H v o B/\Rel K F Z H σ (ρ.set i none) A'/\Fresh F Z A' B/\A.Perm (B++A'):=by
 obtain⟨v,B,A',h1,h2,h3,h4⟩:=R.sl.take e;obtain⟨n1,n2,n3⟩:=bh h3 R.nd;have mA:∀ a∈A',a∈A:=λ a ha=>h3.mem_iff.mpr (abL.mpr (.inr ha));have mB:∀ a∈B,a∈A:=λ a ha=>h3.mem_iff.mpr (abL.mpr (.inl ha));exact⟨v,B,A',h1,h2,⟨h4,n2,λ a ha=>R.fr a (mA a ha),R.fh,R.zh,R.dj⟩,⟨n1,λ b hb=>⟨(R.fr b (mB b hb)).1,(R.fr b (mB b hb)).2,n3 b hb⟩⟩,h3⟩
theorem dX(e:ρ[i]?=some (some o)):(ρ.set i none)[i]?=some none:=by
 have hi:i<ρ.length:=(List.getElem?_eq_some_iff.mp e).1;simp[hi]
theorem Rel.putI(R:Rel K F Z H σ ρ A)(e:ρ[i]?=some none)(hv:σ[i]?=some (some v))(h:Ow K F H v o B)(f:Fresh F Z A B):∃ A',Rel K F Z H σ (ρ.set i (some o)) A'/\A'.Perm (B++A):=by
 obtain⟨A',h1,h2⟩:=R.sl.put e hv h;refine⟨A',⟨h2,h1.nodup_iff.mpr ?_,λ a ha=>?_,R.fh,R.zh,R.dj⟩,h1⟩
 ·exact abV.mpr ⟨f.nd,R.nd,λ a ha b hb z=>(f.fr a ha).2.2 (z ▸ hb)⟩
 ·rcases abL.mp (h1.mem_iff.mp ha) with q|q
  ·exact⟨(f.fr a q).1,(f.fr a q).2.1⟩
  ·exact R.fr a q
theorem Rel.frz{v:V}{r:RV}{B:List Addr}{d:D}{ρ':FSt}(R:Rel K F Z H σ ρ A)(h:RV1 K F H σ v r B)(f:Fresh F Z A B)(e:fzR r ρ=some (d,ρ')) :
  ∃ F' A',Same F F'/\Rel K F' Z H σ ρ' A'/\Den K F' v d/\(∀ a o,F' a=some o->F a=none->a∈A∨a∈B)/\∀ a∈A',a∈A:=by
 rw[H0] at e
 cases r with
 | ov o=>
  simp only[Lp] at e
  cases hs:Gh o with
  |none=>rw [hs] at e;cases e
  | some d'=>
   rw[hs] at e;cases e;obtain⟨F',s,R',k,n⟩:=R.grow (Ow.live h) f.fr;exact⟨F',A,s,R',Ow.freeze s h k hs,λ a o h1 h2=>.inr (n a o h1 h2),λ _ z=>z⟩
 | br i=>
  simp only[Lp] at e;split at e
  ·rename_i o ho
   cases hs:Gh o with
   |none=>rw[hs] at e;cases e
   | some d'=>
    rw[hs] at e;cases e;obtain⟨v',B',A',h1,h2,R',f',pm⟩:=R.takeI ho;have hv:v'=v:=aaj (aaj (h1.symm.trans h.1));subst hv;obtain⟨F',s,R2,k,n⟩:=R'.grow (Ow.live h2) f'.fr;have dn:=Ow.freeze s h2 k hs;obtain⟨A3,R3,p3⟩:=R2.putI (dX ho) h1 (.fz dn) Fresh.nil;rw[abA] at R3;refine⟨F',A3,s,R3,dn,λ a o h1 h2=>.inl (pm.mem_iff.mpr (abL.mpr (.inl (n a o h1 h2)))),λ a ha=>?_⟩;have:=p3.mem_iff.mp ha;exact pm.mem_iff.mpr (abL.mpr (.inr (by exists this)))
  ·cases e
theorem Rel.frzL:∀ {rs:List RV} {vs:List V} {B:List Addr} {ds:List D} {ρ ρ':FSt} {F:Hp} {A:List Addr},Rel K F Z H σ ρ A->RVL K F H σ vs rs B->Fresh F Z A B->fzL rs ρ=some (ds,ρ') ->
  ∃ F' A',Same F F'/\Rel K F' Z H σ ρ' A'/\Dens K F' vs ds:=by
 intro rs
 induction rs with
 | nil=>
  intro vs B ds ρ ρ' F A R h f e;simp only[fzL,Option.some.injEq,Prod.mk.injEq] at e;obtain⟨rfl,rfl⟩:=e;cases h;exact⟨F,A,Same.refl _,R,.nil⟩
 | cons r rs ih=>
  intro vs B ds ρ ρ' F A R h f e
  cases h with
  | @cons v _ vs _ B1 B2 h t=>
   simp only[fzL] at e;split at e
   ·rename_i d ρ1 e1;split at e
    ·rename_i ds' ρ2 e2;simp only[Option.some.injEq,Prod.mk.injEq] at e;obtain⟨rfl,rfl⟩:=e;obtain⟨n1,n2,n3⟩:=bh (aaD (B1++B2)) f.nd;obtain⟨F1,A1,s1,R1,d1,w1,m1⟩:=R.frz h ⟨n1,λ b hb=>f.fr b (abL.mpr (.inl hb))⟩ e1
     obtain⟨F2,A2,s2,R2,d2⟩:=ih R1 (t.keep s1 λ _ _ _ z=>z) ⟨n2,λ b hb=>by
      have fb:=f.fr b (abL.mpr (.inr hb));refine⟨?_,fb.2.1,λ z=>fb.2.2 (m1 b z)⟩
      cases q:F1 b with
      |none=>rfl
      | some u=>
       rcases w1 b u q fb.1 with z|z
       ·exact absurd z fb.2.2
       ·exact absurd hb (n3 b z)⟩ e2
     exact⟨F2,A2,s1.trans s2,R2,.cons (d1.mono s2) d2⟩
    ·cases e
   ·cases e
def look(ρ:FSt):RV->Option OV
 |.ov o=>some o
 | .br i=>match ρ[i]? with
  |some (some o)=>some o
  |_=>none
def iR(ρ:FSt):RV->Option D
 |.ov o=>flat o
 | .br i=>match ρ[i]? with
  |some (some o)=>flat o
  |_=>none
def i9(ρ:FSt):List RV->Option (List D)
 |[]=>some []
 | r::rs=>match iR ρ r with
  | some d=>match i9 ρ rs with
   |some ds=>some (d::ds)
   |none=>none
  |none=>none
theorem Rel.acc(R:Rel K F Z H σ ρ A)(h:RV1 K F H σ v r B)(e:iR ρ r=some d):Acc K F H v d:=by
 cases r with
 |ov o=>exact Ow.acc h e
 | br i=>
  simp only[iR] at e;split at e
  ·rename_i o ho;obtain⟨v',B',A',h1,h2,_⟩:=R.takeI ho;have hv:v'=v:=aaj (aaj (h1.symm.trans h.1));subst hv;exact h2.acc e
  ·cases e
inductive Accs(K:Frag)(F H:Hp):List V->List D->Prop where
 |nil:Accs K F H [] []
 |cons {v:V} {d:D} {vs:List V} {ds:List D}:Acc K F H v d->Accs K F H vs ds->Accs K F H (v::vs) (d::ds)
theorem Rel.accs{rs:List RV}(R:Rel K F Z H σ ρ A)(h:RVL K F H σ vs rs B)(e:i9 ρ rs=some ds):Accs K F H vs ds:=by
 induction h generalizing ds with
 |nil=>cases e;exact .nil
 | @cons v r vs rs A B h t ih=>
  unfold i9 at e
  cases e1:iR ρ r with
  |none=>rw [e1] at e;cases e
  | some d=>
   cases e2:i9 ρ rs with
   |none=>rw[e1,e2] at e;cases e
   | some ds'=>
    rw[e1,e2] at e;cases e;exact .cons (R.acc h e1) (ih e2)
end
abbrev FE:=FSt->(RV->FSt->Prop)->Prop
variable{fa fe fk:FE}
abbrev FT:=FSt->(Bool->FSt->Prop)->Prop
variable{fc ft:FT}
abbrev FA:=FSt->(List RV->FSt->Prop)->Prop
abbrev FO:=FSt->(Option Int->FSt->Prop)->Prop
def View(μ:List Nat)(τ σ:St):Prop:=∀ j i:Nat,μ[j]?=some i->τ[j]?=σ[i]?/\j<τ.length/\i<σ.length
theorem View.id(hn:σ.length=n):View (List.range n) σ σ:=λ j i h=>by
 rw[List.getElem?_eq_some_iff] at h;obtain⟨h1,h2⟩:=h;rw[List.getElem_range] at h2;rw[ab4] at h1;subst h2;exact⟨rfl,by nofun,by nofun⟩
structure EF(K:Frag)(μ:List Nat)(t:TE)(f:FE):Prop where
 h:∀ {F Z H:Hp} {τ σ:St} {ρ:FSt} {A:List Addr} {Q:VK} {P:RV->FSt->Prop},View μ τ σ->Rel K F Z H σ ρ A->f ρ P ->
  (∀ r ρ' v F' H' A' B,P r ρ'->Same F F'->Rel K F' Z H' σ ρ' A'->RV1 K F' H' σ v r B->Fresh F' Z A' B->Q v H')->t τ H Q
structure TF(K:Frag)(μ:List Nat)(t:TT)(f:FT):Prop where
 h:∀ {F Z H:Hp} {τ σ:St} {ρ:FSt} {A:List Addr} {Q:Bool->Hp->Prop} {P:Bool->FSt->Prop},View μ τ σ->Rel K F Z H σ ρ A->f ρ P ->
  (∀ b ρ' F' H' A',P b ρ'->Same F F'->Rel K F' Z H' σ ρ' A'->Q b H')->t τ H Q
structure AF(K:Frag)(μ:List Nat)(t:TA)(f:FA):Prop where
 h:∀ {F Z H:Hp} {τ σ:St} {ρ:FSt} {A:List Addr} {Q:List V->Hp->Prop} {P:List RV->FSt->Prop},View μ τ σ->Rel K F Z H σ ρ A->f ρ P ->
  (∀ rs ρ' vs F' H' A' B,P rs ρ'->Same F F'->Rel K F' Z H' σ ρ' A'->RVL K F' H' σ vs rs B->Fresh F' Z A' B->Q vs H')->t τ H Q
structure OF(K:Frag)(μ:List Nat)(t:TO)(f:FO):Prop where
 h:∀ {F Z H:Hp} {τ σ:St} {ρ:FSt} {A:List Addr} {Q:Option Int->Hp->Prop} {P:Option Int->FSt->Prop},View μ τ σ->Rel K F Z H σ ρ A->f ρ P ->
  (∀ x ρ' F' H' A',P x ρ'->Same F F'->Rel K F' Z H' σ ρ' A'->Q x H')->t τ H Q
def De(K:Frag)(F H:Hp)(P:OV->Prop)(Q:VK):Prop:=∀ o v F' H' B,P o->Pure F H F' H'->Ow K F' H' v o B->New H F' B->Q v H'
structure OpF(K:Frag)(r:R2)(f:D->D->(OV->Prop)->Prop):Prop where
 h:∀ {F H:Hp} {x y:V} {d e:D} {Q:VK} {P:OV->Prop},Same F H->Acc K F H x d->Acc K F H y e->f d e P->De K F H P Q->r x y H Q
structure CallF(K:Frag)(r:List V->Hp->VK->Prop)(f:List D->(OV->Prop)->Prop):Prop where
 h:∀ {F H:Hp} {xs:List V} {ds:List D} {Q:VK} {P:OV->Prop},Same F H->Accs K F H xs ds->f ds P->De K F H P Q->r xs H Q
structure SlF(K:Frag)(r:V->Option Int->Option Int->Hp->VK->Prop)(f:D->Option Int->Option Int->(OV->Prop)->Prop):Prop where
 h:∀ {F H:Hp} {x:V} {d:D} {lo hi:Option Int} {Q:VK} {P:OV->Prop},Same F H->Acc K F H x d->f d lo hi P->De K F H P Q->r x lo hi H Q
@[irreducible] def br(b:Bool)(A B:Prop):Prop:=if b=true then A else B
theorem cU{A B:Prop}(h:A):br true A B:=by unfold br;exact h
theorem cY{A B:Prop}(h:B):br false A B:=by unfold br;exact h
theorem vH{A B:Prop}(h:br true A B):A:=by unfold br at h;exact h
theorem vI{A B:Prop}(h:br false A B):B:=by unfold br at h;exact h
theorem aw{b:Bool}{A B:Prop}(c:Prop)(e:b=true↔c)(h1:c->A)(h2:¬ c->B):br b A B:=by
 cases b with
 |true=>exact cU (h1 (e.mp rfl))
 |false=>exact cY (h2 λ z=>nomatch e.mpr z)
def ab(i:Nat):FE:=λ ρ Q=>match ρ[i]? with
 |some (some (.fz d))=>Q (.ov (.fz d)) ρ
 |some (some _)=>Q (.br i) ρ
 |_=>False
def fC(d:D):FE:=λ ρ Q=>Q (.ov (.fz d)) ρ
def on2(ρ:FSt)(r s:RV)(k:D->D->Prop):Prop:=match iR ρ r with
 | some d=>match iR ρ s with
  |some e=>k d e
  |none=>False
 |none=>False
def on1(ρ:FSt)(r:RV)(k:D->Prop):Prop:=match iR ρ r with
 |some d=>k d
 |none=>False
def onL(ρ:FSt)(rs:List RV)(k:List D->Prop):Prop:=match i9 ρ rs with
 |some d=>k d
 |none=>False
def onB(d:D)(k:Bool->Prop):Prop:=match d with
 |.bl b=>k b
 |_=>False
def fOp(f:D->D->(OV->Prop)->Prop)(fa fb:FE):FE:=λ ρ Q=>fa ρ λ r ρ1=>fb ρ1 λ s ρ2=>on2 ρ2 r s λ d e=>f d e λ o=>Q (.ov o) ρ2
def ia(fa fb:FE):FE:=λ ρ Q=>fa ρ λ r ρ1=>on1 ρ1 r λ d=>onB d λ c=>br c (fb ρ1 Q) (Q (.ov (.fz (.bl false))) ρ1)
def Dg(fa:FE):FE:=λ ρ Q=>fa ρ λ r ρ1=>on1 ρ1 r λ d=>onB d λ c=>Q (.ov (.fz (.bl (!c)))) ρ1
def Lq(fc:FT)(fa fb:FE):FE:=λ ρ Q=>fc ρ λ b ρ1=>br b (fa ρ1 Q) (fb ρ1 Q)
def ja(f f':D->D->(OV->Prop)->Prop)(fa fb fc:FE):FE:=λ ρ Q=>fa ρ λ r ρ1=>fb ρ1 λ s ρ2=>on2 ρ2 r s λ d e=>f d e λ o=>match o with
 |.fz (.bl k)=>br k (fc ρ2 λ t ρ3=>on2 ρ3 s t λ d' e'=>f' d' e' λ o=>Q (.ov o) ρ3) (Q (.ov (.fz (.bl false))) ρ2)
 |_=>False
def aH(fa:FE):FT:=λ ρ Q=>fa ρ λ r ρ1=>on1 ρ1 r λ d=>onB d λ c=>Q c ρ1
def kQ(ft:FT):FT:=λ ρ Q=>ft ρ λ c ρ1=>Q (!c) ρ1
def Gi(fa fb:FT):FT:=λ ρ Q=>fa ρ λ c ρ1=>br c (fb ρ1 Q) (Q false ρ1)
def fOr(fa fb:FT):FT:=λ ρ Q=>fa ρ λ c ρ1=>br c (Q true ρ1) (fb ρ1 Q)
def vJ:D->Option Bool
 |.non=>some false
 |.bl b=>some b
 |.int i=>some (i != 0)
 |.str y=>if y.length<=sizeLine then some ((y.length:Int) != 0) else none
 |.lst xs=>some (!xs.isEmpty)
 |.tup xs=>some (!xs.isEmpty)
 |.dct _ _=>none
 |.ty _=>none
 |.opq _ _=>none
 |.gt _=>none
 |.dt _ _=>none
def Dh(fa:FE):FT:=λ ρ Q=>fa ρ λ r ρ1=>on1 ρ1 r λ d=>match vJ d with
 |some k=>Q k ρ1
 |none=>False
def kS:FT:=λ ρ Q=>Q true ρ
def ag:FA:=λ ρ Q=>Q [] ρ
def aa(fa:FE)(fr:FA):FA:=λ ρ Q=>fa ρ λ r ρ1=>fr ρ1 λ rs ρ2=>Q (r::rs) ρ2
def fCB(f:List D->(OV->Prop)->Prop)(fa:FA):FE:=λ ρ Q=>fa ρ λ rs ρ1=>onL ρ1 rs λ ds=>f ds λ o=>Q (.ov o) ρ1
def jD(fa:FA):FE:=λ ρ Q=>fa ρ λ rs ρ1=>match fzL rs ρ1 with
 |some (ds,ρ2)=>ds.length<=sizeLine/\Q (.ov (.fl ds)) ρ2
 |none=>False
def ib(fa:FA):FE:=λ ρ Q=>fa ρ λ rs ρ1=>match fzL rs ρ1 with
 |some (ds,ρ2)=>ds.length<=sizeLine/\Q (.ov (.fz (.tup ds))) ρ2
 |none=>False
def eO:FO:=λ ρ Q=>Q none ρ
def mo(fa:FE):FO:=λ ρ Q=>fa ρ λ r ρ1=>on1 ρ1 r λ d=>match d with
 |.int i=>Q (some i) ρ1
 |_=>False
def fSl(f:D->Option Int->Option Int->(OV->Prop)->Prop)(fe:FE)(fl fh:FO):FE:=λ ρ Q=>fe ρ λ r ρ1=>fl ρ1 λ lo ρ2=>fh ρ2 λ hi ρ3=>on1 ρ3 r λ d=>f d lo hi λ o=>Q (.ov o) ρ3
def wZ:FE:=λ ρ Q=>Q (.ov (.fd [] [])) ρ
section
variable {K:Frag} 
theorem bP{k:D->Prop}(h:on1 ρ r k):∃ d,iR ρ r=some d/\k d:=by
 unfold on1 at h;split at h
 ·exact⟨_,by assumption,h⟩
 ·exact h.elim
theorem nk{s:RV}{k:D->D->Prop}(h:on2 ρ r s k):∃ d e,iR ρ r=some d/\iR ρ s=some e/\k d e:=by
 unfold on2 at h;split at h
 ·split at h
  ·exact⟨_,_,by assumption,by assumption,h⟩
  ·exact h.elim
 ·exact h.elim
theorem sj{r:List RV}{k:List D->Prop}(h:onL ρ r k):∃ d,i9 ρ r=some d/\k d:=by
 unfold onL at h;split at h
 ·exact⟨_,by assumption,h⟩
 ·exact h.elim
theorem sk{k:Bool->Prop}(h:onB d k):∃ b,d=.bl b/\k b:=by
 unfold onB at h;split at h
 ·exact⟨_,rfl,h⟩
 ·exact h.elim
theorem so(hj:μ[j]?=some i):EF K μ (db j) (ab i):=⟨by
 intro F Z H τ σ ρ A Q P vw R h q;unfold ab at h;generalize e:ρ[i]?=o at h
 cases o with
 |none=>exact False.elim h
 | some o=>
  cases o with
  |none=>exact False.elim h
  | some o=>
   obtain⟨v,B,A',h1,h2,h3,h4,h5⟩:=R.takeI e;refine⟨v,(vw j i hj).1.trans h1,?_⟩
   cases o with
   | fz d=>
    cases h2 with
    |fz dn=>exact q _ _ v F H A [] h (Same.refl _) R (.fz dn) Fresh.nil
   |_=>exact q _ _ v F H A [] h (Same.refl _) R ⟨h1,rfl⟩ Fresh.nil⟩
theorem Ia(hd:∀ F,Den K F v d):EF K μ (tC v) (fC d):=⟨fun {F Z H τ σ ρ A Q P} vw R h q=>q _ _ v F H A [] h (Same.refl _) R (.fz (hd F)) Fresh.nil⟩
theorem Ib{i:Int}:EF K μ (tC (.int i)) (fC (.int i)):=Ia λ _=>.int i
theorem Ic{i:Str}:EF K μ (tC (.str i)) (fC (.str i)):=Ia λ _=>.str i
theorem Ml{i:Bool}:EF K μ (tC (.bl i)) (fC (.bl i)):=Ia λ _=>.bl i
theorem Ie:EF K μ (tC .non) (fC .non):=Ia λ _=>.non
theorem Mm{T:String}:EF K μ (tC (.ty T)) (fC (.ty T)):=Ia λ _=>.ty T
theorem Rel.after(R:Rel K F Z H σ ρ A)(q:∀ o v F' H' B,P o->Same F F'->Rel K F' Z H' σ ρ A->Ow K F' H' v o B->Fresh F' Z A B->Q v H'):De K F H P Q:=
 λ o v F' H' B p pu ow nw=>q o v F' H' B p pu.ff (R.step pu) ow (R.fresh nw)
theorem Mn{r:R2}{fb:FE}(ho:OpF K r f)(ha:EF K μ ta fa)(hb:EF K μ tb fb):EF K μ (tOp r ta tb) (fOp f fa fb):=⟨by
 intro F Z H τ σ ρ A Q P vw R h q;refine ha.h vw R h λ r1 ρ1 x F1 H1 A1 B1 h1 s1 R1 v1 f1=>?_;obtain⟨Z',sz,R1',zl,back⟩:=R1.hold v1.live v1.nt f1;refine hb.h vw R1' h1 λ r2 ρ2 y F2 H2 A2 B2 h2 s2 R2 v2 f2=>?_;obtain⟨R2',f1',k1⟩:=back _ _ _ _ s2 R2;obtain⟨d,e,e1,e2,h3⟩:=nk h2;refine ho.h R2'.fh (R2'.acc (v1.keep s2 k1) e1) (R2'.acc v2 e2) h3 (R2'.after λ o v F3 H3 B p s3 R3 ow fr=>q _ _ _ _ _ _ _ p ((s1.trans s2).trans s3) R3 ow fr)⟩
theorem Di{fb:FE}(ha:EF K μ ta fa)(hb:EF K μ tb fb):EF K μ (Bq ta tb) (ia fa fb):=⟨by
 intro F Z H τ σ ρ A Q P vw R h q;refine ha.h vw R h λ r1 ρ1 x F1 H1 A1 B1 h1 s1 R1 v1 f1=>?_;obtain⟨d,e1,h2⟩:=bP h1;obtain⟨c,rfl,h3⟩:=sk h2;refine⟨c,(R1.acc v1 e1).bl_eq,?_⟩
 cases c with
 |true=>exact hb.h vw R1 (vH h3) λ r2 ρ2 y F2 H2 A2 B2 h2 s2=>q _ _ _ _ _ _ _ h2 (s1.trans s2)
 |false=>exact q _ _ _ _ _ _ _ (vI h3) s1 R1 (.fz (.bl false)) Fresh.nil⟩
theorem Dj(ha:EF K μ ta fa):EF K μ (Br ta) (Dg fa):=⟨by
 intro F Z H τ σ ρ A Q P vw R h q;refine ha.h vw R h λ r1 ρ1 x F1 H1 A1 B1 h1 s1 R1 v1 f1=>?_;obtain⟨d,e1,h2⟩:=bP h1;obtain⟨c,rfl,h3⟩:=sk h2;exact⟨c,(R1.acc v1 e1).bl_eq,q _ _ _ _ _ _ _ h3 s1 R1 (.fz (.bl _)) Fresh.nil⟩⟩
theorem Mo{fb:FE}(hc:TF K μ tc fc)(ha:EF K μ ta fa)(hb:EF K μ tb fb):EF K μ (tIf tc ta tb) (Lq fc fa fb):=⟨by
 intro F Z H τ σ ρ A Q P vw R h q;refine hc.h vw R h λ b ρ1 F1 H1 A1 h1 s1 R1=>?_
 cases b with
 |true=>exact ha.h vw R1 (vH h1) λ r2 ρ2 y F2 H2 A2 B2 h2 s2=>q _ _ _ _ _ _ _ h2 (s1.trans s2)
 |false=>exact hb.h vw R1 (vI h1) λ r2 ρ2 y F2 H2 A2 B2 h2 s2=>q _ _ _ _ _ _ _ h2 (s1.trans s2)⟩
theorem w8{r r':R2}{f':D->D->(OV->Prop)->Prop}{tc:TE}{fb fc:FE}(ho:OpF K r f)(ho':OpF K r' f')(ha:EF K μ ta fa)(hb:EF K μ tb fb)(hc:EF K μ tc fc):EF K μ (ko r r' ta tb tc) (ja f f' fa fb fc):=⟨by
 intro F Z H τ σ ρ A Q P vw R h q;refine ha.h vw R h λ r1 ρ1 x F1 H1 A1 B1 h1 s1 R1 v1 f1=>?_;obtain⟨Z',sz,R1',zl,back⟩:=R1.hold v1.live v1.nt f1;refine hb.h vw R1' h1 λ r2 ρ2 y F2 H2 A2 B2 h2 s2 R2 v2 f2=>?_;obtain⟨R2',f1',k1⟩:=back _ _ _ _ s2 R2;obtain⟨d,e,e1,e2,h3⟩:=nk h2;have f2':Fresh F2 Z A2 B2:=⟨f2.nd,λ b hb=>⟨(f2.fr b hb).1,sz.free (f2.fr b hb).2.1,(f2.fr b hb).2.2⟩⟩;refine ho.h R2'.fh (R2'.acc (v1.keep s2 k1) e1) (R2'.acc v2 e2) h3 λ o v F3 H3 B p pu ow nw=>?_;have R3:=R2'.step pu
 have f3:Fresh F3 Z A2 B2:=⟨f2'.nd,λ b hb=>⟨(by
  cases z:F3 b with
  |none=>rfl
  | some u=>
   obtain⟨w,hw⟩:=v2.live b hb;rw[pu.nw b u z (f2'.fr b hb).1] at hw;exact nomatch hw),(f2'.fr b hb).2⟩⟩
 have v3:=v2.keep pu.ff λ a u _ z=>pu.hh a u z;split at p
 ·rename_i k
  cases ow with
  | fz dn=>
   refine⟨k,dn.bl_eq,?_⟩
   cases k with
   |false=>exact q _ _ _ _ _ _ _ (vI p) ((s1.trans s2).trans pu.ff) R3 (.fz (.bl false)) Fresh.nil
   | true=>
    obtain⟨Z2,sz2,R3',zl2,back2⟩:=R3.hold v3.live v3.nt f3;refine hc.h vw R3' (vH p) λ r4 ρ4 w F4 H4 A4 B4 h4 s4 R4 v4 f4=>?_;obtain⟨R4',f4',k4⟩:=back2 _ _ _ _ s4 R4;obtain⟨d',e',e1',e2',h5⟩:=nk h4;exact ho'.h R4'.fh (R4'.acc (v3.keep s4 k4) e1') (R4'.acc v4 e2') h5 (R4'.after λ o v F5 H5 B p s5 R5 ow fr=>q _ _ _ _ _ _ _ p ((((s1.trans s2).trans pu.ff).trans s4).trans s5) R5 ow fr)
 ·exact p.elim⟩
theorem sq(ha:EF K μ ta fa):TF K μ (qL ta) (aH fa):=⟨by
 intro F Z H τ σ ρ A Q P vw R h q;refine ha.h vw R h λ r1 ρ1 x F1 H1 A1 B1 h1 s1 R1 v1 f1=>?_;obtain⟨d,e1,h2⟩:=bP h1;obtain⟨c,rfl,h3⟩:=sk h2;exact⟨c,(R1.acc v1 e1).bl_eq,q _ _ _ _ _ h3 s1 R1⟩⟩
theorem Ig{t:TT}{f:FT}(h:TF K μ t f):TF K μ (LB t) (kQ f):=⟨fun {F Z H τ σ ρ A Q P} vw R p q=>h.h vw R p λ b ρ1 F1 H1 A1 h1=>q _ _ _ _ _ h1⟩
theorem Ih{t:TT}{f g:FT}(h:TF K μ t f)(h':TF K μ u g):TF K μ (LA t u) (Gi f g):=⟨fun {F Z H τ σ ρ A Q P} vw R p q=>h.h vw R p λ b ρ1 F1 H1 A1 h1 s1 R1=>by
 cases b with
 |true=>exact h'.h vw R1 (vH h1) λ b ρ2 F2 H2 A2 h2 s2=>q _ _ _ _ _ h2 (s1.trans s2)
 |false=>exact q _ _ _ _ _ (vI h1) s1 R1⟩
theorem Mp{t:TT}{f g:FT}(h:TF K μ t f)(h':TF K μ u g):TF K μ (tOr t u) (fOr f g):=⟨fun {F Z H τ σ ρ A Q P} vw R p q=>h.h vw R p λ b ρ1 F1 H1 A1 h1 s1 R1=>by
 cases b with
 |false=>exact h'.h vw R1 (vI h1) λ b ρ2 F2 H2 A2 h2 s2=>q _ _ _ _ _ h2 (s1.trans s2)
 |true=>exact q _ _ _ _ _ (vH h1) s1 R1⟩
theorem Ii:TF K μ L7 kS:=⟨fun {F Z H τ σ ρ A Q P} vw R p q=>q _ _ _ _ _ p (Same.refl _) R⟩
theorem Dk{x:V}{k:Bool}(e:Same F H)(h:Acc K F H x d)(hk:vJ d=some k):Le K x H k:=by
 cases d with
 |non=>rw[h.non_eq];exact(aaj hk).symm
 |bl b=>rw[h.bl_eq];exact(aaj hk).symm
 |int i=>rw[h.int_eq];exact(aaj hk).symm
 | str y=>
  rw[h.str_eq];simp only[vJ] at hk;split at hk
  ·exact⟨by assumption,by simpa using hk.symm⟩
  ·cases hk
 | lst ds=>
  obtain⟨a,xs,rfl,h1,h2⟩:=h.asL e;have:=h2.length;refine .inl ⟨xs,h1,?_⟩;simp only[vJ,Option.some.injEq] at hk;rw[← hk];cases xs <;> cases ds <;> simp at this ⊢
 | tup ds=>
  obtain⟨a,xs,rfl,h1,h2⟩:=h.asT e;have:=h2.length;refine .inr (.inl ⟨xs,h1,?_⟩);simp only[vJ,Option.some.injEq] at hk;rw[← hk];cases xs <;> cases ds <;> simp at this ⊢
 | dct ks ds=>
  simp[vJ] at hk
 |ty T=>simp[vJ] at hk
 |opq a n=>simp[vJ] at hk
 |gt xs=>simp[vJ] at hk
 |dt ks xs=>simp[vJ] at hk
theorem Ij(ha:EF K μ ta fa):TF K μ (Mh K ta) (Dh fa):=⟨by
 intro F Z H τ σ ρ A Q P vw R h q;refine ha.h vw R h λ r1 ρ1 x F1 H1 A1 B1 h1 s1 R1 v1 f1=>?_;obtain⟨d,e1,h2⟩:=bP h1;split at h2
 ·rename_i k hk;exact⟨k,Dk R1.fh (R1.acc v1 e1) hk,q _ _ _ _ _ h2 s1 R1⟩
 ·exact h2.elim⟩
theorem Ik:AF K μ iN ag:=⟨fun {F Z H τ σ ρ A Q P} vw R p q=>q _ _ _ _ _ _ _ p (Same.refl _) R .nil Fresh.nil⟩
theorem sr{tr:TA}{fr:FA}(ha:EF K μ ta fa)(hr:AF K μ tr fr):AF K μ (cZ ta tr) (aa fa fr):=⟨by
 intro F Z H τ σ ρ A Q P vw R h q;refine ha.h vw R h λ r1 ρ1 x F1 H1 A1 B1 h1 s1 R1 v1 f1=>?_;obtain⟨Z',sz,R1',zl,back⟩:=R1.hold v1.live v1.nt f1;refine hr.h vw R1' h1 λ r2 ρ2 y F2 H2 A2 B2 h2 s2 R2 v2 f2=>?_;obtain⟨R2',f1',k1⟩:=back _ _ _ _ s2 R2;refine q _ _ _ _ _ _ _ h2 (s1.trans s2) R2' (.cons (v1.keep s2 k1) v2) ⟨abV.mpr ⟨f1'.nd,f2.nd,λ a ha b hb z=>?_⟩,λ b hb=>?_⟩
 ·obtain⟨u,hu⟩:=zl a ha;rw[z,(f2.fr b hb).2.1] at hu;cases hu
 ·rcases abL.mp hb with z|z
  ·exact f1'.fr b z
  ·exact⟨(f2.fr b z).1,sz.free (f2.fr b z).2.1,(f2.fr b z).2.2⟩⟩
theorem Mq{r:List V->Hp->VK->Prop}{f:List D->(OV->Prop)->Prop}{fa:FA}(hc:CallF K r f)(ha:AF K μ t fa):EF K μ (tCB r t) (fCB f fa):=⟨by
 intro F Z H τ σ ρ A Q P vw R h q;refine ha.h vw R h λ rs ρ1 xs F1 H1 A1 B1 h1 s1 R1 v1 f1=>?_;obtain⟨ds,e1,h2⟩:=sj h1;exact hc.h R1.fh (R1.accs v1 e1) h2 (R1.after λ o v F3 H3 B p s3 R3 ow fr=>q _ _ _ _ _ _ _ p (s1.trans s3) R3 ow fr)⟩
theorem Il{fa:FA}(ha:AF K μ t fa):EF K μ (Li t) (jD fa):=⟨by
 intro F Z H τ σ ρ A Q P vw R h q;refine ha.h vw R h λ rs ρ1 xs F1 H1 A1 B1 h1 s1 R1 v1 f1=>?_;split at h1
 ·rename_i ds ρ2 e;obtain⟨F2,A2,s2,R2,dn⟩:=R1.frzL v1 f1 e;refine⟨by rw[dn.length];exact h1.1,λ p hp=>?_⟩;have hf:F2 p=none:=R2.fh.free hp;exact R2.after (P:=λ o=>P (.ov o) ρ2) (λ o v F3 H3 B p s3 R3 ow fr=>q _ _ _ _ _ _ _ p ((s1.trans s2).trans s3) R3 ow fr) _ _ F2 _ [p] h1.2 (Pure.new R2.fh hp) (.fl ae dn) (New.one hp hf)
 ·exact h1.elim⟩
theorem Im{fa:FA}(ha:AF K μ t fa):EF K μ (Lg t) (ib fa):=⟨by
 intro F Z H τ σ ρ A Q P vw R h q;refine ha.h vw R h λ rs ρ1 xs F1 H1 A1 B1 h1 s1 R1 v1 f1=>?_;split at h1
 ·rename_i ds ρ2 e;obtain⟨F2,A2,s2,R2,dn⟩:=R1.frzL v1 f1 e;refine⟨by rw[dn.length];exact h1.1,λ p hp=>?_⟩;have hf:F2 p=none:=R2.fh.free hp;refine R2.after (P:=λ o=>P (.ov o) ρ2) (λ o v F3 H3 B p s3 R3 ow fr=>q _ _ _ _ _ _ _ p ((s1.trans s2).trans s3) R3 ow fr) _ _ (upd F2 p (.tup xs)) _ [] h1.2 (Pure.frz R2.fh hp) (.fz (.tup ae (dn.mono (bp hf)))) New.nil
 ·exact h1.elim⟩
theorem Dl:EF K μ ra wZ:=⟨by
 intro F Z H τ σ ρ A Q P vw R h q p hp;have hf:F p=none:=R.fh.free hp;exact R.after (P:=λ o=>P (.ov o) ρ) (λ o v F3 H3 B p s3 R3 ow fr=>q _ _ _ _ _ _ _ p s3 R3 ow fr) _ _ F _ [p] h (Pure.new R.fh hp) (.fd ae rfl .nil) (New.one hp hf)⟩
theorem Dm:OF K μ l9 eO:=⟨fun {F Z H τ σ ρ A Q P} vw R p q=>q _ _ _ _ _ p (Same.refl _) R⟩
theorem Dn(ha:EF K μ ta fa):OF K μ (BZ ta) (mo fa):=⟨by
 intro F Z H τ σ ρ A Q P vw R h q;refine ha.h vw R h λ r1 ρ1 x F1 H1 A1 B1 h1 s1 R1 v1 f1=>?_;obtain⟨d,e1,h2⟩:=bP h1;split at h2
 ·rename_i i;exact⟨i,(R1.acc v1 e1).int_eq,q _ _ _ _ _ h2 s1 R1⟩
 ·exact h2.elim⟩
theorem Mr{r:V->Option Int->Option Int->Hp->VK->Prop}{f:D->Option Int->Option Int->(OV->Prop)->Prop}{tl th:TO}{fl fh:FO}(hr:SlF K r f)(he:EF K μ te fe)(hl:OF K μ tl fl)(hh:OF K μ th fh):EF K μ (tSl r te tl th) (fSl f fe fl fh):=⟨by
 intro F Z H τ σ ρ A Q P vw R h q;refine he.h vw R h λ r1 ρ1 x F1 H1 A1 B1 h1 s1 R1 v1 f1=>?_;obtain⟨Z',sz,R1',zl,back⟩:=R1.hold v1.live v1.nt f1;refine hl.h vw R1' h1 λ lo ρ2 F2 H2 A2 h2 s2 R2=>?_;refine hh.h vw R2 h2 λ hi ρ3 F3 H3 A3 h3 s3 R3=>?_;obtain⟨R3',f1',k1⟩:=back _ _ _ _ (s2.trans s3) R3;obtain⟨d,e1,h4⟩:=bP h3;exact hr.h R3'.fh (R3'.acc (v1.keep (s2.trans s3) k1) e1) h4 (R3'.after λ o v F5 H5 B p s5 R5 ow fr=>q _ _ _ _ _ _ _ p (((s1.trans s2).trans s3).trans s5) R5 ow fr)⟩
end
abbrev Ct:=List OV->(OV->List OV->Prop)->Prop
variable{c:Ct}
def takeR:RV->FSt->Option (OV×FSt)
 |.ov o,ρ=>some (o,ρ)
 | .br i,ρ=>match ρ[i]? with
  |some (some o)=>some (o,ρ.set i none)
  |_=>none
def takeL:List RV->FSt->Option (List OV×FSt)
 |[],ρ=>some ([],ρ)
 | r::rs,ρ=>match takeR r ρ with
  | some (o,ρ1)=>match takeL rs ρ1 with
   |some (os,ρ2)=>some (o::os,ρ2)
   |none=>none
  |none=>none
def putL:List RV->List OV->FSt->FSt
 |.br i::rs,o::os,ρ=>putL rs os (ρ.set i (some o))
 |.ov _::rs,_::os,ρ=>putL rs os ρ
 |_,_,ρ=>ρ
def spM(K:Frag)(c:Ct):Sp:=λ vs H Q _=>∃ (F Z:Hp) (os:List OV) (C:List Addr) (P:OV->List OV->Prop),Same F H/\SameN Z H/\(∀ a o,F a=some o->Z a=none)/\Ows K F H vs os C/\C.Nodup/\(∀ a∈C,F a=none/\Z a=none)/\c os P /\
 ∀ o os' v F' H' C' B,P o os'->Same F F'->Same F' H'->Same Z H'->(∀ a o,F' a=some o->Z a=none)->Ows K F' H' vs os' C'->Ow K F' H' v o B->(C'++B).Nodup->(∀ a∈C'++B,F' a=none/\Z a=none)->Q v H'
def am(c:Ct)(fa:FA):FE:=λ ρ Q=>fa ρ λ rs ρ1=>match takeL rs ρ1 with
 |some (os,ρ2)=>c os λ o os'=>Q (.ov o) (putL rs os' ρ2)
 |none=>False
def fFz(fe:FE):FE:=λ ρ Q=>fe ρ λ r ρ1=>match fzR r ρ1 with
 |some (d,ρ2)=>Q (.ov (.fz d)) ρ2
 |none=>False
section
variable {K:Frag}     
theorem Rel.takeR{ρ':FSt}(R:Rel K F Z H σ ρ A)(h:RV1 K F H σ v r B)(f:Fresh F Z A B)(e:L2.takeR r ρ=some (o,ρ')) :
  ∃ C A',Rel K F Z H σ ρ' A'/\Ow K F H v o C/\Fresh F Z A' C/\(∀ a∈A',a∈A)/\∀ a∈C,a∈A∨a∈B:=by
 cases r with
 | ov o'=>
  simp only[L2.takeR,Option.some.injEq,Prod.mk.injEq] at e;obtain⟨rfl,rfl⟩:=e;exact⟨B,A,R,h,f,λ _ z=>z,λ _ z=>.inr z⟩
 | br i=>
  simp only[L2.takeR] at e;split at e
  ·rename_i o' ho;simp only[Option.some.injEq,Prod.mk.injEq] at e;obtain⟨rfl,rfl⟩:=e;obtain⟨v',B',A',h1,h2,R',f',pm⟩:=R.takeI ho;have hv:v'=v:=aaj (aaj (h1.symm.trans h.1));subst hv;exact⟨B',A',R',h2,f',λ a ha=>pm.mem_iff.mpr (abL.mpr (.inr ha)),λ a ha=>.inl (pm.mem_iff.mpr (abL.mpr (.inl ha)))⟩
  ·cases e
theorem Rel.takeL:∀ {rs:List RV} {vs:List V} {B:List Addr} {os:List OV} {ρ ρ':FSt} {A:List Addr},Rel K F Z H σ ρ A->RVL K F H σ vs rs B->Fresh F Z A B->L2.takeL rs ρ=some (os,ρ') ->
  ∃ C A',Rel K F Z H σ ρ' A'/\Ows K F H vs os C/\Fresh F Z A' C/\(∀ a∈A',a∈A)/\∀ a∈C,a∈A∨a∈B:=by
 intro rs
 induction rs with
 | nil=>
  intro vs B os ρ ρ' A R h f e;simp only[L2.takeL,Option.some.injEq,Prod.mk.injEq] at e;obtain⟨rfl,rfl⟩:=e;cases h;exact⟨[],A,R,.nil,f,λ _ z=>z,λ _ z=>nomatch z⟩
 | cons r rs ih=>
  intro vs B os ρ ρ' A R h f e
  cases h with
  | @cons v _ vs _ B1 B2 h t=>
   simp only[L2.takeL] at e;split at e
   ·rename_i o ρ1 e1;split at e
    ·rename_i os' ρ2 e2;simp only[Option.some.injEq,Prod.mk.injEq] at e;obtain⟨rfl,rfl⟩:=e;obtain⟨n1,n2,n3⟩:=bh (aaD (B1++B2)) f.nd;obtain⟨C1,A1,R1,o1,f1,m1,c1⟩:=R.takeR h ⟨n1,λ b hb=>f.fr b (abL.mpr (.inl hb))⟩ e1
     obtain⟨C2,A2,R2,o2,f2,m2,c2⟩:=ih R1 t ⟨n2,λ b hb=>by
      have fb:=f.fr b (abL.mpr (.inr hb));exact⟨fb.1,fb.2.1,λ z=>fb.2.2 (m1 b z)⟩⟩ e2
     refine⟨C1++C2,A2,R2,.cons o1 o2,⟨abV.mpr ⟨f1.nd,f2.nd,λ a ha b hb z=>?_⟩,λ b hb=>?_⟩,λ a ha=>m1 a (m2 a ha),λ a ha=>?_⟩
     ·subst z;rcases c2 a hb with z|z
      ·exact(f1.fr a ha).2.2 z
      ·rcases c1 a ha with y|y
       ·exact(f.fr a (abL.mpr (.inr z))).2.2 y
       ·exact n3 a y z
     ·rcases abL.mp hb with z|z
      ·exact⟨(f1.fr b z).1,(f1.fr b z).2.1,λ y=>(f1.fr b z).2.2 (m2 b y)⟩
      ·exact f2.fr b z
     ·rcases abL.mp ha with z|z
      ·rcases c1 a z with y|y
       ·exact .inl y
       ·exact .inr (abL.mpr (.inl y))
      ·rcases c2 a z with y|y
       ·exact .inl (m1 a y)
       ·exact .inr (abL.mpr (.inr y))
    ·cases e
   ·cases e
theorem Rel.assign(R:Rel K F Z H σ ρ A)(h:Ow K F H v o B)(f:Fresh F Z A B):∃ A',Rel K F Z H (σ.set i (some v)) (ρ.set i (some o)) A'/\∀ a∈A',a∈A∨a∈B:=by
 obtain⟨A1,C,pm,s1⟩:=R.sl.drop i (some v);obtain⟨n1,n2,n3⟩:=bh pm R.nd;have mA:∀ a∈A1,a∈A:=λ a ha=>pm.mem_iff.mpr (abL.mpr (.inr ha));have R1:Rel K F Z H (σ.set i (some v)) (ρ.set i none) A1:=⟨s1,n2,λ a ha=>R.fr a (mA a ha),R.fh,R.zh,R.dj⟩;by_cases hi:i<ρ.length
 ·have hl:=R.sl.len;obtain⟨A2,R2,p2⟩:=R1.putI (i:=i) (v:=v) (o:=o) (B:=B) (by simp[hi]) (by simp[hl,hi]) h ⟨f.nd,λ b hb=>⟨(f.fr b hb).1,(f.fr b hb).2.1,λ z=>(f.fr b hb).2.2 (mA b z)⟩⟩;rw[abA] at R2;refine⟨A2,R2,λ a ha=>?_⟩;rcases abL.mp (p2.mem_iff.mp ha) with z|z
  ·exact .inr z
  ·exact .inl (mA a z)
 ·have hl:=R.sl.len;rw[List.set_eq_of_length_le (by nofun)] at R1 ⊢;rw[List.set_eq_of_length_le (by nofun)] at R1 ⊢;exact⟨A1,R1,λ a ha=>.inl (mA a ha)⟩
theorem Io(h:σ[i]?=some (some v)):σ.set i (some v)=σ:=by
 apply List.ext_getElem?;intro j;by_cases hj:i=j
 ·subst hj;have:=(List.getElem?_eq_some_iff.mp h).1;rw[h,List.getElem?_set_self this]
 ·rw[List.getElem?_set_ne hj]
theorem Rel.putL:∀ {rs:List RV} {vs:List V} {os:List OV} {B C:List Addr} {ρ:FSt} {A:List Addr},Rel K F Z H σ ρ A->RVL K F' H' σ vs rs B->Ows K F H vs os C->Fresh F Z A C ->
  ∃ A',Rel K F Z H σ (L2.putL rs os ρ) A'/\∀ a∈A',a∈A∨a∈C:=by
 intro rs
 induction rs with
 | nil=>
  intro vs os B C ρ A R h hO f;exact⟨A,R,λ _ z=>.inl z⟩
 | cons r rs ih=>
  intro vs os B C ρ A R h hO f
  cases h with
  | @cons v _ vs _ B1 B2 h t=>
   cases hO with
   | @cons _ o _ os C1 C2 h1 t1=>
    obtain⟨n1,n2,n3⟩:=bh (aaD (C1++C2)) f.nd;have f1:Fresh F Z A C1:=⟨n1,λ b hb=>f.fr b (abL.mpr (.inl hb))⟩;have f2:Fresh F Z A C2:=⟨n2,λ b hb=>f.fr b (abL.mpr (.inr hb))⟩
    cases r with
    | ov o'=>
     obtain⟨A',R',m⟩:=ih R t t1 f2;refine⟨A',R',λ a ha=>(m a ha).elim .inl λ z=>.inr (abL.mpr (.inr z))⟩
    | br i=>
     obtain⟨A1,R1,m1⟩:=R.assign (i:=i) h1 f1;rw[Io h.1] at R1;obtain⟨A',R',m⟩:=ih R1 t t1 ⟨n2,λ b hb=>⟨(f2.fr b hb).1,(f2.fr b hb).2.1,λ z=>(m1 b z).elim (f2.fr b hb).2.2 λ y=>n3 b y hb⟩⟩;refine⟨A',R',λ a ha=>?_⟩;rcases m a ha with z|z
     ·exact(m1 a z).elim .inl λ y=>.inr (abL.mpr (.inl y))
     ·exact .inr (abL.mpr (.inr z))
theorem su{fa:FA}{E:XK}(ha:AF K μ t fa):EF K μ (ph (spM K c) [] E t) (am c fa):=⟨by
 intro F Z H τ σ ρ A Q P vw R h q;refine ha.h vw R h λ rs ρ1 vs F1 H1 A1 B1 h1 s1 R1 v1 f1=>?_;rw[aay];split at h1
 ·rename_i os ρ2 e;obtain⟨C,A2,R2,o2,f2,m2,c2⟩:=R1.takeL v1 f1 e
  -- what is not handed over is held
  obtain⟨Z',hin,hout⟩:=mix A2 H1 Z;have hz:∀ a,a∈A2->Z a=none:=λ a ha=>(R2.fr a ha).2;have sz:Same Z Z':=λ a o z=>by rw[hout a λ y=>by rw[hz a y] at z;cases z];exact z
  refine⟨F1,Z',os,C,_,R2.fh,⟨λ a o z=>?_,λ a xs z=>?_⟩,λ a o z=>?_,o2,f2.nd,λ a ha=>⟨(f2.fr a ha).1,by rw[hout a (f2.fr a ha).2.2];exact(f2.fr a ha).2.1⟩,h1,λ o os' v F3 H3 C3 B p s3 fh zh dj w3 w4 nd fr=>?_⟩
  ·by_cases y:a∈A2
   ·rw[hin a y] at z;exact z
   ·rw[hout a y] at z;exact R2.zh.s a o z
  ·by_cases y:a∈A2
   ·rw[hin a y] at z;exact R2.sl.nt a y xs z
   ·rw[hout a y] at z;exact R2.zh.n a xs z
  ·rw[hout a λ y=>by rw[(R2.fr a y).1] at z;cases z];exact R2.dj a o z
  ·have nA:∀ a∈A2,∃ u,Z' a=some u:=λ a ha=>by
    obtain⟨u,hu⟩:=R2.sl.live a ha;exact⟨u,by rw[hin a ha];exact hu⟩
   have R3:Rel K F3 Z H3 σ ρ2 A2:=⟨R2.sl.keep s3 λ a u ha hu=>zh a u (by rw[hin a ha];exact hu),R2.nd,λ a ha=>⟨(by
    cases z:F3 a with
    |none=>rfl
    | some u=>
     have:=dj a u z;obtain⟨w,hw⟩:=nA a ha;rw[hw] at this;exact nomatch this),(R2.fr a ha).2⟩,fh,⟨sz.trans zh,R2.zh.n⟩,λ a o z=>sz.free (dj a o z)⟩
   have nC:∀ a∈C3++B,a∉A2:=λ a ha y=>by
    obtain⟨w,hw⟩:=nA a y;rw[(fr a ha).2] at hw;cases hw
   obtain⟨n1,n2,n3⟩:=bh (aaD (C3++B)) nd
   have fC:Fresh F3 Z A2 C3:=⟨n1,λ b hb=>by
    have:=fr b (abL.mpr (.inl hb));exact⟨this.1,sz.free this.2,nC b (abL.mpr (.inl hb))⟩⟩
   obtain⟨A4,R4,m4⟩:=R3.putL v1 w3 fC;refine q _ _ _ _ _ _ _ p (s1.trans s3) R4 w4 ⟨n2,λ b hb=>?_⟩;have:=fr b (abL.mpr (.inr hb));exact⟨this.1,sz.free this.2,λ z=>(m4 b z).elim (nC b (abL.mpr (.inr hb))) λ y=>n3 b y hb⟩
 ·exact h1.elim⟩
theorem Ms(he:EF K μ te fe):EF K μ te (fFz fe):=⟨by
 intro F Z H τ σ ρ A Q P vw R h q;refine he.h vw R h λ r ρ1 v F1 H1 A1 B1 h1 s1 R1 v1 f1=>?_;split at h1
 ·rename_i d ρ2 e;obtain⟨F2,A2,s2,R2,dn,_,_⟩:=R1.frz v1 f1 e;exact q _ _ _ _ _ _ _ h1 (s1.trans s2) R2 (.fz dn) Fresh.nil
 ·exact h1.elim⟩
end
theorem nq:∀ {l:List Nat} {j k i:Nat},l.Nodup->l[j]?=some i->l[k]?=some i->j=k
 |[],_,_,_,_,h,_=>by simp at h
 |a::l,0,0,_,_,_,_=>rfl
 | a::l,0,k+1,i,n,h,h'=>by
  simp at h h';subst h;exact absurd (List.mem_of_getElem? h') (abS.mp n).1
 | a::l,j+1,0,i,n,h,h'=>by
  simp at h h';subst h';exact absurd (List.mem_of_getElem? h) (abS.mp n).1
 | a::l,j+1,k+1,i,n,h,h'=>by
  simp at h h';rw[nq (List.nodup_cons.mp n).2 h h']
abbrev FG:=D->FSt->(FSt->Prop)->Prop
variable{fg:FG}
abbrev FGs:=List D->FSt->(FSt->Prop)->Prop
structure GF(K:Frag)(μ:List Nat)(T:List Nat)(g:TG)(f:FG):Prop where
 h:∀ {F Z H:Hp} {τ σ:St} {ρ:FSt} {A:List Addr} {v:V} {d:D} {Q:St->Hp->Prop} {P:FSt->Prop},View μ τ σ->Rel K F Z H σ ρ A->Den K F v d->f d ρ P ->
  (∀ τ' σ' ρ' A',P ρ'->View μ τ' σ'->Rel K F Z H σ' ρ' A'->(∀ i,i∉T->σ'[i]?=σ[i]?)->σ'.length=σ.length->((∀ j i:Nat,μ[j]?=some i->i=j)->τ=σ->τ'=σ')->(∀ a∈A',a∈A)->Q τ' H)->g v τ H Q
structure GsF(K:Frag)(μ:List Nat)(T:List Nat)(g:TGs)(f:FGs):Prop where
 h:∀ {F Z H:Hp} {τ σ:St} {ρ:FSt} {A:List Addr} {v:List V} {d:List D} {Q:St->Hp->Prop} {P:FSt->Prop},View μ τ σ->Rel K F Z H σ ρ A->Dens K F v d->f d ρ P ->
  (∀ τ' σ' ρ' A',P ρ'->View μ τ' σ'->Rel K F Z H σ' ρ' A'->(∀ i,i∉T->σ'[i]?=σ[i]?)->σ'.length=σ.length->((∀ j i:Nat,μ[j]?=some i->i=j)->τ=σ->τ'=σ')->(∀ a∈A',a∈A)->Q τ' H)->g v τ H Q
def ac(i:Nat):FG:=λ d ρ P=>P (ρ.set i (some (.fz d)))
def jE:FGs:=λ ds ρ P=>match ds with
 |[]=>P ρ
 |_=>False
def bG(f:FG)(fs:FGs):FGs:=λ ds ρ P=>match ds with
 |d::ds=>f d ρ λ ρ1=>fs ds ρ1 P
 |_=>False
def jF(n:Nat)(f:FGs):FG:=λ d ρ P=>match d with
 |.tup ds=>ds.length=n/\f ds ρ P
 |_=>False
section
variable {K:Frag} 
theorem sv(hj:μ[j]?=some i)(hn:μ.Nodup):GF K μ [i] (eM j) (ac i):=⟨by
 intro F Z H τ σ ρ A v d Q P vw R dn h q;obtain⟨A',R',m⟩:=R.assign (i:=i) (.fz dn) Fresh.nil;refine q _ (σ.set i (some v)) _ _ h (λ j' i' h'=>⟨?_,by rw[aaN];exact(vw j' i' h').2.1,by rw[aaN];exact(vw j' i' h').2.2⟩) R' (λ i' hi'=>?_) (aaN ..) (λ hid e=>?_) λ a ha=>(m a ha).elim id λ z=>nomatch z
 ·by_cases hjj:j=j'
  ·subst hjj;rw[hj] at h';cases h';have:=vw j i hj;rw[List.getElem?_set_self this.2.1,List.getElem?_set_self this.2.2]
  ·have hii:i≠i':=λ z=>by
    subst z;exact hjj (nq hn hj h')
   rw[List.getElem?_set_ne hjj,List.getElem?_set_ne hii];exact(vw j' i' h').1
 ·rw[List.getElem?_set_ne λ z=>hi' (by simp[z])]
 ·rw[hid j i hj,e]⟩
theorem Do:GsF K μ [] Lb jE:=⟨by
 intro F Z H τ σ ρ A v d Q P vw R dn h q
 cases dn with
 |nil=>exact⟨rfl,q _ _ _ _ h vw R (λ _ _=>rfl) rfl (λ _ e=>e) λ _ z=>z⟩
 |cons _ _=>exact h.elim⟩
theorem w9{T':List Nat}{f:FG}{fs:FGs}(h1:GF K μ T g f)(h2:GsF K μ T' gs fs):GsF K μ (T++T') (qA g gs) (bG f fs):=⟨by
 intro F Z H τ σ ρ A v d Q P vw R dn h q
 cases dn with
 |nil=>exact h.elim
 | cons d1 d2=>
  refine⟨_,_,rfl,h1.h vw R d1 h fun τ' σ' ρ' A' p vw' R' k kl id' m=>h2.h vw' R' d2 p fun τ2 σ2 ρ2 A2 p2 vw2 R2 k2 kl2 id2 m2=>q _ _ _ _ p2 vw2 R2 (λ i hi=>?_) (kl2.trans kl) (λ a b=>id2 a (id' a b)) λ a ha=>m a (m2 a ha)⟩;rw[abL,not_or] at hi;rw[k2 i hi.2,k i hi.1]⟩
theorem Ip{fs:FGs}(h2:GsF K μ T gs fs):GF K μ T (GC K n gs) (jF n fs):=⟨by
 intro F Z H τ σ ρ A v d Q P vw R dn h q
 cases dn with
 |tup hs t=>exact⟨_,_,rfl,SqT.of (R.fh _ _ hs),t.length.trans h.1,h2.h vw R t h.2 q⟩
 |_=>exact h.elim⟩
end
structure Walk(K:Frag)(F:Hp)(J:It)(ds:List D):Prop where
 go:∀ H i,Same F H->i<ds.length->J.go i H
 yld:∀ H i x H',Same F H->i<ds.length->J.yld i H x H'->H'=H/\∃ d,ds[i]?=some d/\Den K F x d
 stop:∀ H,Same F H->J.stop ds.length H
abbrev FI:=FSt->(List D->FSt->Prop)->Prop
variable{fi:FI}
structure ITF(K:Frag)(μ:List Nat)(t:TI)(f:FI):Prop where
 h:∀ {F Z H:Hp} {τ σ:St} {ρ:FSt} {A:List Addr} {Q:It->Hp->Prop} {P:List D->FSt->Prop},View μ τ σ->Rel K F Z H σ ρ A->f ρ P ->
  (∀ ds ρ' J F' H' A',P ds ρ'->Same F F'->Rel K F' Z H' σ ρ' A'->Walk K F' J ds->Q J H')->t τ H Q
def cD(fe:FE):FI:=λ ρ Q=>fe ρ λ r ρ1=>match fzR r ρ1 with
 |some (.lst ds,ρ2)=>Q ds ρ2
 |_=>False
def Iq(fe:FE):FI:=λ ρ Q=>fe ρ λ r ρ1=>match fzR r ρ1 with
 |some (.tup ds,ρ2)=>Q ds ρ2
 |_=>False
def gm(z:Str):List D:=z.cps.toList.map λ c=>.str ⟨#[c]⟩
def Dp(fe:FE):FI:=λ ρ Q=>fe ρ λ r ρ1=>match fzR r ρ1 with
 |some (.str z,ρ2)=>Q (gm z) ρ2
 |_=>False
def dA(lo:Int)(n:Nat):List D:=(List.range n).map λ (k:Nat)=>.int (lo+(k:Int))
def eB(fa:FA):FI:=λ ρ Q=>fa ρ λ rs ρ1=>onL ρ1 rs λ ds=>match ds with
 |[.int j]=>(-(2 ^ 62)<=j/\j<2 ^ 62)/\Q (dA 0 j.toNat) ρ1
 |_=>False
def sx(fa:FA):FI:=λ ρ Q=>fa ρ λ rs ρ1=>onL ρ1 rs λ ds=>match ds with
 |[.int i,.int j]=>(-(2 ^ 62)<=i/\i<2 ^ 62/\-(2 ^ 62)<=j/\j<2 ^ 62)/\Q (dA i (j - i).toNat) ρ1
 |_=>False
section
variable {K:Frag}  
theorem sy(h:SqL K F a xs)(t:Dens K F xs ds):Walk K F (Itl K a) ds:=
 ⟨λ H i s hi=>by
  obtain⟨x,h1,h2⟩:=t.get (List.getElem?_eq_getElem hi);exact⟨xs,x,s.seq h,h1⟩,λ H i x H' s hi y=>by
  obtain⟨rfl,y⟩:=y;obtain⟨d,h1,h2⟩:=t.get' (y xs (s.seq h));exact⟨rfl,d,h1,h2⟩,λ H s=>⟨xs,s.seq h,by rw[t.length];exact aac _⟩⟩
theorem xa(h:SqT K F a xs)(t:Dens K F xs ds):Walk K F (Itt K a) ds:=
 ⟨λ H i s hi=>by
  obtain⟨x,h1,h2⟩:=t.get (List.getElem?_eq_getElem hi);exact⟨xs,x,h.same s,h1⟩,λ H i x H' s hi y=>by
  obtain⟨rfl,y⟩:=y;obtain⟨d,h1,h2⟩:=t.get' (y xs (h.same s));exact⟨rfl,d,h1,h2⟩,λ H s=>⟨xs,h.same s,by rw[t.length];exact aac _⟩⟩
theorem xb :Walk K F (Its z) (gm z):=
 ⟨λ H i s hi=>by (have hi:i<z.cps.size:=by simpa [gm] using hi);exact hi,λ H i x H' s hi y=>by
  obtain⟨rfl,c,h1,rfl⟩:=y;exact⟨rfl,.str ⟨#[c]⟩,by rw[gm,List.getElem?_map,h1];rfl,.str _⟩,λ H s=>by
  show (gm z).length=z.cps.size;simp[gm]⟩
theorem nr{lo:Int}:Walk K F (Itr lo n) (dA lo n):=
 ⟨λ H i s hi=>by (have hi:i<n:=by simpa [dA] using hi);exact hi,λ H i x H' s hi y=>by
  obtain⟨rfl,rfl⟩:=y;have hi:i<n:=by simpa [dA] using hi
  exact⟨rfl,.int (lo+i),by simp[dA,hi],.int _⟩,λ H s=>by
  show n<=(dA lo n).length;simp[dA]⟩
theorem xc(he:EF K μ te fe):ITF K μ (l7 K te) (cD fe):=⟨by
 intro F Z H τ σ ρ A Q P vw R h q;refine he.h vw R h λ r ρ1 v F1 H1 A1 B1 h1 s1 R1 v1 f1=>?_;generalize e:fzR r ρ1=o at h1;obtain _|⟨d,ρ2⟩:=o
 ·exact False.elim h1
 cases d
 case lst ds=>
  obtain⟨F2,A2,s2,R2,dn,_,_⟩:=R1.frz v1 f1 e
  cases dn with
  |lst hs t=>exact ⟨_,rfl,⟨_,R2.fh.seq hs⟩,q _ _ _ _ _ _ h1 (s1.trans s2) R2 (sy hs t)⟩
 all_goals exact False.elim h1⟩
theorem Dq(he:EF K μ te fe):ITF K μ (Lc K te) (Iq fe):=⟨by
 intro F Z H τ σ ρ A Q P vw R h q;refine he.h vw R h λ r ρ1 v F1 H1 A1 B1 h1 s1 R1 v1 f1=>?_;generalize e:fzR r ρ1=o at h1;obtain _|⟨d,ρ2⟩:=o
 ·exact False.elim h1
 cases d
 case tup ds=>
  obtain⟨F2,A2,s2,R2,dn,_,_⟩:=R1.frz v1 f1 e
  cases dn with
  |tup hs t=>exact ⟨_,rfl,⟨_,SqT.of (R2.fh _ _ hs)⟩,q _ _ _ _ _ _ h1 (s1.trans s2) R2 (xa (SqT.of hs) t)⟩
 all_goals exact False.elim h1⟩
theorem Dr(he:EF K μ te fe):ITF K μ (L8 te) (Dp fe):=⟨by
 intro F Z H τ σ ρ A Q P vw R h q;refine he.h vw R h λ r ρ1 v F1 H1 A1 B1 h1 s1 R1 v1 f1=>?_;split at h1
 ·rename_i z ρ2 e;obtain⟨F2,A2,s2,R2,dn,_,_⟩:=R1.frz v1 f1 e;exact⟨z,dn.str_eq,q _ _ _ _ _ _ h1 (s1.trans s2) R2 xb⟩
 ·exact h1.elim⟩
theorem b8(h:Accs K F H xs [d]):∃ x,xs=[x]/\Acc K F H x d:=by
 cases h with|cons a t=>cases t;exact⟨_,rfl,a⟩
theorem nu(h:Accs K F H xs [d,e]):∃ x y,xs=[x,y]/\Acc K F H x d/\Acc K F H y e:=by
 cases h with|cons a t=>obtain⟨y,rfl,b⟩:=b8 t;exact⟨_,_,rfl,a,b⟩
theorem xf{fa:FA}(ha:AF K μ t fa):ITF K μ (BD t) (eB fa):=⟨by
 intro F Z H τ σ ρ A Q P vw R h q;refine ha.h vw R h λ rs ρ1 xs F1 H1 A1 B1 h1 s1 R1 v1 f1=>?_;obtain⟨ds,e1,h2⟩:=sj h1;obtain _|⟨d,r⟩:=ds
 ·exact False.elim h2
 cases d
 case int j=>
  cases r with
  |cons=>exact False.elim h2
  | nil=>
   obtain⟨x,rfl,a⟩:=b8 (R1.accs v1 e1);exact⟨j,by rw[a.int_eq],h2.1.1,h2.1.2,q _ _ _ _ _ _ h2.2 s1 R1 nr⟩
 all_goals exact False.elim h2⟩
theorem xg{fa:FA}(ha:AF K μ t fa):ITF K μ (BF t) (sx fa):=⟨by
 intro F Z H τ σ ρ A Q P vw R h q;refine ha.h vw R h λ rs ρ1 xs F1 H1 A1 B1 h1 s1 R1 v1 f1=>?_;obtain⟨ds,e1,h2⟩:=sj h1;split at h2
 ·rename_i i j;obtain⟨x,y,rfl,a,b⟩:=nu (R1.accs v1 e1);exact⟨i,j,by rw[a.int_eq,b.int_eq],h2.1,q _ _ _ _ _ _ h2.2 s1 R1 nr⟩
 ·exact h2.elim⟩
end
structure FEnds where
 nx:FSt->Prop
 rt:OV->FSt->Prop
 bk:FSt->Prop:=λ _=>False
 ct:FSt->Prop:=λ _=>False
variable{E:FEnds}
abbrev FS:=FEnds->FSt->Prop
variable{fb:FS}
def Pin(n:Nat)(m:List Nat)(σ0 σ:St):Prop:=σ.length=n/\∀ i∈m,σ[i]?=σ0[i]?
structure EndsOk(K:Frag)(n:Nat)(m:List Nat)(F Z:Hp)(σ0:St)(D:Ends)(fD:FEnds):Prop where
 nx:∀ F' H' σ' ρ' A',Same F F'->Rel K F' Z H' σ' ρ' A'->Pin n m σ0 σ'->fD.nx ρ'->D.nx σ' H'
 rt:∀ F' H' σ' ρ' A' v o B,Same F F'->Rel K F' Z H' σ' ρ' A'->Pin n m σ0 σ'->Ow K F' H' v o B->Fresh F' Z A' B->fD.rt o ρ'->D.rt v H'
 bk:∀ F' H' σ' ρ' A',Same F F'->Rel K F' Z H' σ' ρ' A'->Pin n m σ0 σ'->fD.bk ρ'->D.bk σ' H'
 ct:∀ F' H' σ' ρ' A',Same F F'->Rel K F' Z H' σ' ρ' A'->Pin n m σ0 σ'->fD.ct ρ'->D.ct σ' H'
theorem EndsOk.mono{K:Frag}{D:Ends}{fD:FEnds}(E:EndsOk K n m F Z σ0 D fD)(e:Same F F1):EndsOk K n m F1 Z σ0 D fD:=
 ⟨λ F' H' σ' ρ' A' s=>E.nx F' H' σ' ρ' A' (e.trans s),λ F' H' σ' ρ' A' v o B s=>E.rt F' H' σ' ρ' A' v o B (e.trans s),λ F' H' σ' ρ' A' s=>E.bk F' H' σ' ρ' A' (e.trans s),λ F' H' σ' ρ' A' s=>E.ct F' H' σ' ρ' A' (e.trans s)⟩
structure SF(K:Frag)(n:Nat)(m:List Nat)(t:TS)(f:FS):Prop where
 h:∀ {F Z H:Hp} {σ0 σ:St} {ρ:FSt} {A:List Addr} {D:Ends} {fD:FEnds},Rel K F Z H σ ρ A->Pin n m σ0 σ->EndsOk K n m F Z σ0 D fD->f fD ρ->t D σ H
def bc:FS:=λ D ρ=>D.nx ρ
def Aw:FS:=λ D ρ=>D.bk ρ
def Ir:FS:=λ D ρ=>D.ct ρ
def jG:FSt->(FSt->Prop)->Prop
 |[],k=>k []
 |a::l,k=>jG l λ l'=>k (a::l')
theorem dY:∀ (ρ:FSt) (k:FSt->Prop),jG ρ k↔k ρ
 |[],k=>Iff.rfl
 |a::l,k=>by rw[jG,dY l]
def ao(f g:FS):FS:=λ D ρ=>f { D with nx:=λ ρ'=>jG ρ' (g D) } ρ
@[irreducible] def fIf(c:FT)(f g:FS)(E:FEnds)(ρ:FSt):Prop:=c ρ λ b ρ1=>br b (f E ρ1) (g E ρ1)
theorem aB{c:FT}{f g:FS}(h:c ρ λ b ρ1=>br b (f E ρ1) (g E ρ1)):fIf c f g E ρ:=by unfold fIf;exact h
def bE(fe:FE):FS:=λ D ρ=>fe ρ λ r ρ1=>match takeR r ρ1 with
 |some (o,ρ2)=>D.rt o ρ2
 |none=>False
def Iu:FS:=λ D ρ=>D.rt (.fz .non) ρ
def b5(fe:FE):FS:=λ D ρ=>fe ρ λ _ ρ1=>D.nx ρ1
def cg(fe:FE)(fg:FG):FS:=λ D ρ=>fe ρ λ r ρ1=>match fzR r ρ1 with
 |some (d,ρ2)=>fg d ρ2 D.nx
 |none=>False
def cL(i:Nat)(fe:FE):FS:=λ D ρ=>fe ρ λ r ρ1=>match r with
 |.ov o=>D.nx (ρ1.set i (some o))
 |.br _=>False
def nv(fg:FG)(fb:FS)(E:FEnds):List D->FSt->Prop
 |[],ρ=>E.nx ρ
 |d::ds,ρ=>fg d ρ λ ρ1=>fb { nx:=nv fg fb E ds,ct:=nv fg fb E ds,bk:=E.nx,rt:=E.rt } ρ1
@[irreducible] def di(fg:FG)(fb:FS)(E:FEnds)(ds:List D)(ρ:FSt):Prop:=nv fg fb E ds ρ
theorem jH(fg:FG)(fb:FS)(E:FEnds)(ds:List D):di fg fb E ds=nv fg fb E ds:=by funext ρ;unfold di;rfl
theorem kT(fg:FG)(fb:FS)(E:FEnds)(ρ:FSt):di fg fb E [] ρ=E.nx ρ:=by rw[jH];rfl
theorem kU(fg:FG)(fb:FS)(E:FEnds)(d:D)(ds:List D)(ρ:FSt):di fg fb E (d::ds) ρ=fg d ρ λ ρ1=>fb { nx:=di fg fb E ds,ct:=di fg fb E ds,bk:=E.nx,rt:=E.rt } ρ1:=by rw[jH,jH];rfl
def pN(fi:FI)(fg:FG)(fb:FS):FS:=λ D ρ=>fi ρ λ ds ρ1=>jG ρ1 (di fg fb D ds)
def jI(fc:FT)(fb:FS)(E:FEnds):Nat->FSt->Prop
 |0,_=>False
 |n+1,ρ=>fc ρ λ b ρ1=>br b (fb { nx:=jI fc fb E n,ct:=jI fc fb E n,bk:=E.nx,rt:=E.rt } ρ1) (E.nx ρ1)
@[irreducible] def cp(fc:FT)(fb:FS)(E:FEnds)(n:Nat)(ρ:FSt):Prop:=jI fc fb E n ρ
theorem ic(fc:FT)(fb:FS)(E:FEnds)(n:Nat):cp fc fb E n=jI fc fb E n:=by funext ρ;unfold cp;rfl
theorem pO(fc:FT)(fb:FS)(E:FEnds)(ρ:FSt):cp fc fb E 0 ρ=False:=by rw[ic];rfl
theorem jb(fc:FT)(fb:FS)(E:FEnds)(n:Nat)(ρ:FSt):cp fc fb E (n+1) ρ=fc ρ λ b ρ1=>br b (fb { nx:=cp fc fb E n,ct:=cp fc fb E n,bk:=E.nx,rt:=E.rt } ρ1) (E.nx ρ1):=by rw[ic,ic];rfl
theorem sA(h:E.nx ρ):di fg fb E [] ρ:=by rw[kT];exact h
theorem pP(h:fg d ρ λ ρ1=>fb { nx:=di fg fb E ds,ct:=di fg fb E ds,bk:=E.nx,rt:=E.rt } ρ1):di fg fb E (d::ds) ρ:=by rw[kU];exact h
theorem mq(h:fc ρ λ b ρ1=>br b (fb { nx:=cp fc fb E n,ct:=cp fc fb E n,bk:=E.nx,rt:=E.rt } ρ1) (E.nx ρ1)):cp fc fb E (n+1) ρ:=by rw[jb];exact h
def ie(fc:FT)(fb:FS):FS:=λ D ρ=>∃ n,cp fc fb D n ρ
section
variable {K:Frag}  
theorem Pin.refl{σ:St}(h:σ.length=n):Pin n m σ σ:=⟨h,λ _ _=>rfl⟩
theorem Pin.set{x:Option V}(p:Pin n m σ0 σ)(hi:i∉m):Pin n m σ0 (σ.set i x):=⟨by rw[aaN];exact p.1,λ j hj=>by
 rw[List.getElem?_set_ne λ z=>hi (by rw[z];exact hj)];exact p.2 j hj⟩
theorem Ds:SF K n m Bs bc:=⟨fun {F Z H σ0 σ ρ A D fD} R p E h=>E.nx _ _ _ _ _ (Same.refl _) R p h⟩
theorem xh:SF K n m qy Aw:=⟨fun {F Z H σ0 σ ρ A D fD} R p E h=>E.bk _ _ _ _ _ (Same.refl _) R p h⟩
theorem Dt:SF K n m Bv Ir:=⟨fun {F Z H σ0 σ ρ A D fD} R p E h=>E.ct _ _ _ _ _ (Same.refl _) R p h⟩
theorem Iv{t u:TS}{f g:FS}(h1:SF K n m t f)(h2:SF K n m u g):SF K n m (LD t u) (ao f g):=⟨fun {F Z H σ0 σ ρ A D fD} R p E h=>
 h1.h (fD:={ fD with nx:=λ ρ'=>jG ρ' (g fD) }) R p ⟨λ F' H' σ' ρ' A' s R' p' q=>h2.h R' p' (E.mono s) ((dY ρ' (g fD)).mp q),E.rt,E.bk,E.ct⟩ h⟩
theorem Mt{c:TT}{t u:TS}{f g:FS}(hc:TF K (List.range n) c fc)(h1:SF K n m t f)(h2:SF K n m u g):SF K n m (LG c t u) (fIf fc f g):=⟨fun {F Z H σ0 σ ρ A D fD} R p E h=>
 hc.h (P:=λ b ρ1=>br b (f fD ρ1) (g fD ρ1)) (View.id p.1) R (by unfold fIf at h;exact h) λ b ρ1 F1 H1 A1 q s R1=>by
  cases b with
  |true=>exact h1.h R1 p (E.mono s) (vH q)
  |false=>exact h2.h R1 p (E.mono s) (vI q)⟩
theorem Iw(he:EF K (List.range n) te fe):SF K n m (LF te) (bE fe):=⟨by
 intro F Z H σ0 σ ρ A D fD R p E h;refine he.h (View.id p.1) R h λ r ρ1 v F1 H1 A1 B1 h1 s1 R1 v1 f1=>?_;split at h1
 ·rename_i o ρ2 e;obtain⟨C,A2,R2,o2,f2,_,_⟩:=R1.takeR v1 f1 e;exact E.rt _ _ _ _ _ _ _ _ s1 R2 p o2 f2 h1
 ·exact h1.elim⟩
theorem Du:SF K n m Bx Iu:=⟨fun {F Z H σ0 σ ρ A D fD} R p E h=>E.rt _ _ _ _ _ _ _ _ (Same.refl _) R p (.fz .non) Fresh.nil h⟩
theorem Dv(he:EF K (List.range n) te fe):SF K n m (vQ te) (b5 fe):=⟨fun {F Z H σ0 σ ρ A D fD} R p E h=>
 he.h (View.id p.1) R h λ r ρ1 v F1 H1 A1 B1 h1 s1 R1 v1 f1=>E.nx _ _ _ _ _ s1 R1 p h1⟩
theorem jJ(n:Nat):∀ j i:Nat,(List.range n)[j]?=some i->i=j:=λ j i h=>by
 obtain⟨h1,h2⟩:=List.getElem?_eq_some_iff.mp h;rw[List.getElem_range] at h2;exact h2.symm
theorem Iy(he:EF K (List.range n) te fe)(hg:GF K (List.range n) T g fg)(hT:∀ i∈m,i∉T):SF K n m (o5 te g) (cg fe fg):=⟨by
 intro F Z H σ0 σ ρ A D fD R p E h;refine he.h (View.id p.1) R h λ r ρ1 v F1 H1 A1 B1 h1 s1 R1 v1 f1=>?_;split at h1
 ·rename_i d ρ2 e;obtain⟨F2,A2,s2,R2,dn,_,_⟩:=R1.frz v1 f1 e;refine hg.h (View.id p.1) R2 dn h1 fun τ' σ' ρ' A' q _ R' k kl id' _=>?_;rw[id' (jJ n) rfl];exact E.nx _ _ _ _ _ (s1.trans s2) R' ⟨kl.trans p.1,λ i hi=>by rw[k i (hT i hi)];exact p.2 i hi⟩ q
 ·exact h1.elim⟩
theorem Dw(he:EF K (List.range n) te fe)(hi:i∉m):SF K n m (o5 te (eM i)) (cL i fe):=⟨by
 intro F Z H σ0 σ ρ A D fD R p E h;refine he.h (View.id p.1) R h λ r ρ1 v F1 H1 A1 B1 h1 s1 R1 v1 f1=>?_
 cases r with
 | ov o=>
  obtain⟨A2,R2,_⟩:=R1.assign (i:=i) v1 f1;exact E.nx _ _ _ _ _ s1 R2 (p.set hi) h1
 |br j=>exact h1.elim⟩
theorem Iz{tb:TS}(hi:ITF K (List.range n) wi fi)(hg:GF K (List.range n) T g fg)(hT:∀ i∈m,i∉T)(hb:SF K n m tb fb):SF K n m (LK wi g tb) (pN fi fg fb):=⟨by
 intro F Z H σ0 σ ρ A D fD R p E h;refine hi.h (View.id p.1) R h λ ds ρ1 J F1 H1 A1 h1 s1 R1 wk=>?_;rw[dY] at h1;refine⟨λ i k σ' H'=>k=ds.length - i/\i<=ds.length/\∃ F' ρ' A',Same F1 F'/\Rel K F' Z H' σ' ρ' A'/\Pin n m σ0 σ'/\di fg fb fD (ds.drop i) ρ',⟨_,rfl,aaq _,F1,ρ1,A1,Same.refl _,R1,p,by rw[aa4];exact h1⟩,?_⟩;rintro i k σ' H' ⟨rfl,hle,F',ρ',A',s',R',p',h'⟩;by_cases hlt:i<ds.length
 ·rw[aaw hlt,kU] at h';refine .inr ⟨wk.go H' i (s'.trans R'.fh) hlt,λ σ2 H2=>∃ F2 ρ2 A2,Same F1 F2/\Rel K F2 Z H2 σ2 ρ2 A2/\Pin n m σ0 σ2/\di fg fb fD (ds.drop (i+1)) ρ2,λ σ2 H2 q=>⟨_,by nofun,rfl,hlt,q⟩,λ x H2 y=>?_⟩;obtain⟨rfl,d,hd,dn⟩:=wk.yld H' i x H2 (s'.trans R'.fh) hlt y;rw[List.getElem?_eq_getElem hlt] at hd;cases hd;refine hg.h (View.id p'.1) R' (dn.mono s') h' fun τ' σ2 ρ2 A2 q _ R2 k kl id' _=>?_;rw[id' (jJ n) rfl]
  have nxt:∀ F3 H3 σ3 ρ3 A3,Same F' F3->Rel K F3 Z H3 σ3 ρ3 A3->Pin n m σ0 σ3->di fg fb fD (ds.drop (i+1)) ρ3->∃ F2 ρ2 A2,Same F1 F2/\Rel K F2 Z H3 σ3 ρ2 A2/\Pin n m σ0 σ3/\di fg fb fD (ds.drop (i+1)) ρ2:=
   λ F3 H3 σ3 ρ3 A3 s3 R3 p3 q3=>⟨F3,ρ3,A3,s'.trans s3,R3,p3,q3⟩
  refine hb.h (fD:={ nx:=di fg fb fD (ds.drop (i+1)),ct:=di fg fb fD (ds.drop (i+1)),bk:=fD.nx,rt:=fD.rt }) R2 ⟨kl.trans p'.1,λ i hi=>by rw[k i (hT i hi)];exact p'.2 i hi⟩ ⟨nxt,λ F3 H3 σ3 ρ3 A3 v o B s3=>E.rt F3 H3 σ3 ρ3 A3 v o B (s1.trans (s'.trans s3)),λ F3 H3 σ3 ρ3 A3 s3=>E.nx F3 H3 σ3 ρ3 A3 (s1.trans (s'.trans s3)),nxt⟩ q
 ·have e:i=ds.length:=by nofun
  subst e;rw[abb,kT] at h';exact .inl ⟨wk.stop H' (s'.trans R'.fh),E.nx _ _ _ _ _ (s1.trans s') R' p' h'⟩⟩
theorem xi{c:TT}{tb:TS}(hc:TF K (List.range n) c fc)(hb:SF K n m tb fb):SF K n m (qB c tb) (ie fc fb):=⟨by
 intro F Z H σ0 σ ρ A D fD R p E h;obtain⟨N,h⟩:=h;refine⟨λ k σ' H'=>∃ F' ρ' A',Same F F'/\Rel K F' Z H' σ' ρ' A'/\Pin n m σ0 σ'/\cp fc fb fD k ρ',⟨N,F,ρ,A,Same.refl _,R,p,h⟩,?_⟩;rintro k σ' H' ⟨F',ρ',A',s',R',p',h'⟩
 cases k with
 |zero=>rw[pO] at h';exact h'.elim
 | succ k=>
  rw[jb] at h';refine hc.h (View.id p'.1) R' h' λ b ρ1 F1 H1 A1 q s1 R1=>?_
  cases b with
  |false=>exact E.nx _ _ _ _ _ (s'.trans s1) R1 p' (vI q)
  | true=>
   replace q:=vH q;rw[if_pos rfl]
   have nxt:∀ F3 H3 σ3 ρ3 A3,Same F1 F3->Rel K F3 Z H3 σ3 ρ3 A3->Pin n m σ0 σ3->cp fc fb fD k ρ3->∃ F2 ρ2 A2,Same F F2/\Rel K F2 Z H3 σ3 ρ2 A2/\Pin n m σ0 σ3/\cp fc fb fD k ρ2:=
    λ F3 H3 σ3 ρ3 A3 s3 R3 p3 q3=>⟨F3,ρ3,A3,(s'.trans s1).trans s3,R3,p3,q3⟩
   exact⟨λ σ2 H2=>∃ F2 ρ2 A2,Same F F2/\Rel K F2 Z H2 σ2 ρ2 A2/\Pin n m σ0 σ2/\cp fc fb fD k ρ2,λ σ2 H2 q=>⟨k,aaE k,q⟩,
    hb.h (fD:={ nx:=cp fc fb fD k,ct:=cp fc fb fD k,bk:=fD.nx,rt:=fD.rt }) R1 p' ⟨nxt,λ F3 H3 σ3 ρ3 A3 v o B s3=>E.rt F3 H3 σ3 ρ3 A3 v o B ((s'.trans s1).trans s3),λ F3 H3 σ3 ρ3 A3 s3=>E.nx F3 H3 σ3 ρ3 A3 ((s'.trans s1).trans s3),nxt⟩ q⟩⟩
end
def ny(fg:FG)(ft:FT)(fe:FE)(P:List D->FSt->Prop):List D->List D->FSt->Prop
 |[],as,ρ=>P as ρ
 | d::ds,as,ρ=>fg d ρ λ ρ1=>ft ρ1 λ b ρ2=>br b (fe ρ2 λ r ρ3=>match fzR r ρ3 with
  |some (y,ρ4)=>as.length<sizeLine/\ny fg ft fe P ds (as++[y]) ρ4
  |none=>False) (ny fg ft fe P ds as ρ2)
@[irreducible] def dL(fg:FG)(ft:FT)(fe:FE)(P:List D->FSt->Prop)(ds as:List D)(ρ:FSt):Prop:=ny fg ft fe P ds as ρ
theorem jK(fg:FG)(ft:FT)(fe:FE)(P:List D->FSt->Prop)(ds:List D):dL fg ft fe P ds=ny fg ft fe P ds:=by funext as ρ;unfold dL;rfl
theorem ig(fg:FG)(ft:FT)(fe:FE)(P:List D->FSt->Prop)(as:List D)(ρ:FSt):dL fg ft fe P [] as ρ=P as ρ:=by rw[jK];rfl
theorem ii(fg:FG)(ft:FT)(fe:FE)(P:List D->FSt->Prop)(d:D)(ds as:List D)(ρ:FSt):dL fg ft fe P (d::ds) as ρ=(fg d ρ λ ρ1=>ft ρ1 λ b ρ2=>br b (fe ρ2 λ r ρ3=>match fzR r ρ3 with
  |some (y,ρ4)=>as.length<sizeLine/\dL fg ft fe P ds (as++[y]) ρ4
  |none=>False) (dL fg ft fe P ds as ρ2)):=by rw [jK,jK];rfl
theorem sB{P:List D->FSt->Prop}(h:P as ρ):dL fg ft fe P [] as ρ:=by rw[ig];exact h
theorem pQ{P:List D->FSt->Prop}(h:fg d ρ λ ρ1=>ft ρ1 λ b ρ2=>br b (fe ρ2 λ r ρ3=>match fzR r ρ3 with
  |some (y,ρ4)=>as.length<sizeLine/\dL fg ft fe P ds (as++[y]) ρ4
  |none=>False) (dL fg ft fe P ds as ρ2)):dL fg ft fe P (d::ds) as ρ:=by rw [ii];exact h
def IA(no:Nat)(fi:FI)(fg:FG)(ft:FT)(fe:FE):FE:=λ ρ Q=>fi ρ λ ds ρ1=>jG (List.replicate no none++ρ1) (dL fg ft fe (λ as ρ'=>Q (.ov (.fl as)) (ρ'.drop no)) ds [])
def muC(no:Nat)(ixs μ:List Nat):List Nat:=List.range no++ixs.map λ j=>no+μ.getD j 0
section
variable {K:Frag}     
theorem Slots.none_app{K:Frag}{F H:Hp}{σ:St}{ρ:FSt}{A:List Addr}(h:Slots K F H σ ρ A):∀ n,Slots K F H (List.replicate n none++σ) (List.replicate n none++ρ) A
 |0=>h
 |n+1=>.skip (Slots.none_app h n)
theorem Slots.dropN{K:Frag}(n:Nat)(h:Slots K F H σ ρ A):∃ A' B,A=B++A'/\Slots K F H (σ.drop n) (ρ.drop n) A':=by
 induction h generalizing n with
 |nil=>cases n <;> exact⟨[],[],rfl,.nil⟩
 | skip t ih=>
  cases n with
  |zero=>exact ⟨_,[],rfl,.skip t⟩
  |succ n=>exact ih n
 | @has _ _ _ _ C _ h t ih=>
  cases n with
  |zero=>exact ⟨_,[],rfl,.has h t⟩
  | succ n=>
   obtain⟨A',B,rfl,h2⟩:=ih n;exact⟨A',C++B,by rw[aas],h2⟩
theorem Rel.write{o:HO}(R:Rel K F Z H σ ρ A)(hA:a∉A)(hF:F a=none)(hZ:Z a=none):Rel K F Z (upd H a o) σ ρ A:=by
 have e:∀ b u,b≠a->H b=some u->upd H a o b=some u:=λ b u h q=>by rw[af h];exact q
 exact⟨R.sl.keep (Same.refl _) λ b u hb q=>e b u (λ z=>hA (z ▸ hb)) q,R.nd,R.fr,λ b u q=>e b u (λ z=>by rw[z,hF] at q;cases q) (R.fh b u q),⟨λ b u q=>e b u (λ z=>by rw[z,hZ] at q;cases q) (R.zh.s b u q),R.zh.n⟩,R.dj⟩
theorem ij{τ:St}(vw:View μ τ σ)(hix:∀ j∈ixs,j<μ.length):View (muC no ixs μ) (List.replicate no none++kJ τ ixs) (List.replicate no none++σ):=by
 intro j i h;unfold muC at h;by_cases hj:j<no
 ·rw[List.getElem?_append_left (by exists hj)] at h;have:=jJ no j i h;subst this;rw[List.getElem?_append_left (by exists hj),List.getElem?_append_left (by exists hj)];refine⟨rfl,?_,?_⟩ <;> simp <;> nofun
 ·rw[List.getElem?_append_right (by exists hj)] at h;rw[ab4,List.getElem?_map,aap] at h;obtain⟨j0,h1,h2⟩:=h;have hj0:=hix j0 (List.mem_of_getElem? h1);obtain⟨v1,v2,v3⟩:=vw j0 (μ.getD j0 0) (by rw[List.getD_eq_getElem?_getD,List.getElem?_eq_getElem hj0];rfl);have hk:j - no<ixs.length:=(List.getElem?_eq_some_iff.mp h1).1;refine⟨?_,?_,?_⟩
  ·rw[List.getElem?_append_right (by exists hj),aaF,← h2,List.getElem?_append_right (by simp),aaF,aa8,← v1];unfold kJ;rw[List.getElem?_map,h1];show some ((τ[j0]?).getD none)=τ[j0]?;rw[List.getElem?_eq_getElem v2];rfl
  ·unfold kJ;simp;nofun
  ·simp;nofun
abbrev IB(K:Frag)(fg:FG)(fc:FT)(fe:FE)(P:RV->FSt->Prop)(no:Nat)(m:List Nat)(F1 Z:Hp)(σ:St)(a:Addr)(rest:List D)(acc:List V)(τ':St)(H':Hp):Prop:=
 ∃ F' ρ' A' σ' as,Same F1 F'/\Rel K F' Z H' σ' ρ' A'/\View m τ' σ'/\(∀ i,no<=i->σ'[i]?=(List.replicate no none++σ)[i]?)/\H' a=some (.lst acc)/\F' a=none/\a∉A'/\Dens K F' acc as /\
   dL fg fc fe (λ as ρ'=>P (.ov (.fl as)) (ρ'.drop no)) rest as ρ'
theorem Dx(hi:ITF K μ wi fi)(hix:∀ j∈ixs,j<μ.length)(hg:GF K (muC no ixs μ) T g fg)(hT:∀ i∈T,i<no)
  (hc:TF K (muC no ixs μ) tc fc) (he:EF K (muC no ixs μ) te fe):EF K μ (et no ixs wi g tc te) (IA no fi fg fc fe):=⟨by
 intro F Z H τ σ ρ A Q P vw R h q;refine hi.h vw R h λ ds ρ1 J F1 H1 A1 h1 s1 R1 wk=>?_;rw[dY] at h1;intro a ha;have hF1:F1 a=none:=R1.fh.free ha;have hZ1:Z a=none:=R1.zh.free ha
 have hA1:a∉A1:=λ z=>by
  obtain⟨u,hu⟩:=R1.sl.live a z;rw[ha] at hu;cases hu
 have R1':Rel K F1 Z (upd H1 a (.lst [])) (List.replicate no none++σ) (List.replicate no none++ρ1) A1:=by
  have:=R1.write (o:=.lst []) hA1 hF1 hZ1;exact⟨this.sl.none_app no,this.nd,this.fr,this.fh,this.zh,this.dj⟩
 have hfin:∀ F' H' σ' ρ' A' acc as,Same F1 F'->Rel K F' Z H' σ' ρ' A'->(∀ i,no<=i->σ'[i]?=(List.replicate no none++σ)[i]?)->H' a=some (.lst acc)->F' a=none->a∉A'->Dens K F' acc as->P (.ov (.fl as)) (ρ'.drop no)->Q (.ref a) H':=by
  intro F' H' σ' ρ' A' acc as s' R' k ha' hF' hA' dn p;obtain⟨A2,B2,e2,sl2⟩:=R'.sl.dropN no
  have es:σ'.drop no=σ:=by
   apply List.ext_getElem?;intro i;rw[List.getElem?_drop,k (no+i) (by omega),List.getElem?_append_right (by simp),aaF,aa8]
  rw[es] at sl2;have m2:∀ b∈A2,b∈A':=λ b hb=>by rw[e2];exact abL.mpr (.inr hb)
  have R2:Rel K F' Z H' σ (ρ'.drop no) A2:=⟨sl2,by have:=R'.nd;rw[e2,abV] at this;exact this.2.1,λ b hb=>R'.fr b (m2 b hb),R'.fh,R'.zh,R'.dj⟩
  exact q _ _ _ _ _ _ [a] p (s1.trans s') R2 (.fl ha' dn) ⟨by simp,λ b hb=>by
   have:b=a:=(by exists hb);subst this;exact⟨hF',hZ1,λ z=>hA' (m2 _ z)⟩⟩
 refine⟨λ i k acc τ' H'=>k=ds.length - i/\i<=ds.length/\IB K fg fc fe P no (muC no ixs μ) F1 Z σ a (ds.drop i) acc τ' H',
  ⟨_,rfl,aaq _,F1,_,A1,_,[],Same.refl _,R1',ij vw hix,λ _ _=>rfl,ae,hF1,hA1,.nil,by rw[aa4];exact h1⟩,?_⟩
 rintro i k acc τ' H' ⟨rfl,hle,F',ρ',A',σ',as,s',R',vw',kp,hD,hFD,hAD,dn,h'⟩;by_cases hlt:i<ds.length
 ·rw[aaw hlt,ii] at h';refine .inr ⟨wk.go H' i (s'.trans R'.fh) hlt,λ acc τ' H'=>IB K fg fc fe P no (muC no ixs μ) F1 Z σ a (ds.drop (i+1)) acc τ' H',λ acc' σ2 H2 z=>⟨_,by omega,rfl,hlt,z⟩,λ x H2 y=>?_⟩;obtain⟨rfl,d,hd,dx⟩:=wk.yld H' i x H2 (s'.trans R'.fh) hlt y;rw[List.getElem?_eq_getElem hlt] at hd;cases hd;refine hg.h vw' R' (dx.mono s') h' fun τ2 σ2 ρ2 A2 p2 vw2 R2 k2 kl2 _ m2=>?_
  have kp2:∀ i,no<=i->σ2[i]?=(List.replicate no none++σ)[i]?:=λ i hi=>by
   rw[k2 i λ z=>by have:=hT i z;omega];exact kp i hi
  have fD:Fresh F' Z A2 [a]:=⟨by simp,λ b hb=>by
   have:b=a:=(by exists hb);subst this;exact⟨hFD,hZ1,λ z=>hAD (m2 _ z)⟩⟩
  obtain⟨Z',sz,R2',zl,back⟩:=R2.hold (B:=[a]) (λ b hb=>by
   have:b=a:=(by exists hb);subst this;exact⟨_,hD⟩) (.one hD (λ _ z=>nomatch z) .nil) fD
  refine hc.h vw2 R2' p2 λ b ρ3 F3 H3 A3 p3 s3 R3=>?_
  cases b with
  | false=>
   replace p3:=vI p3;rw[if_neg abP];obtain⟨R3',f3,k3⟩:=back _ _ _ _ s3 R3;have fa:=f3.fr a (by simp);exact⟨F3,ρ3,A3,σ2,as,s'.trans s3,R3',vw2,kp2,k3 a _ (by simp) hD,fa.1,fa.2.2,dn.mono s3,p3⟩
  | true=>
   replace p3:=vH p3;rw[if_pos rfl];refine he.h vw2 R3 p3 λ r ρ4 v F4 H4 A4 B4 p4 s4 R4 v4 f4=>?_;split at p4
   ·rename_i y ρ5 e5;obtain⟨F5,A5,s5,R5,dy,_,_⟩:=R4.frz v4 f4 e5;obtain⟨R5',f5,k5⟩:=back _ _ _ _ ((s3.trans s4).trans s5) R5;have fa:=f5.fr a (by simp);refine⟨k5 a _ (by simp) hD,by rw[dn.length];exact p4.1,F5,ρ5,A5,σ2,as++[y],((s'.trans s3).trans s4).trans s5,R5'.write fa.2.2 fa.1 hZ1,vw2,kp2,ae,fa.1,fa.2.2,(dn.mono ((s3.trans s4).trans s5)).snoc dy,p4.2⟩
   ·exact p4.elim
 ·have e:i=ds.length:=by omega
  subst e;rw[abb,ig] at h';exact .inl ⟨wk.stop H' (s'.trans R'.fh),hfin _ _ _ _ _ _ _ s' R' kp hD hFD hAD dn h'⟩⟩
def unL(ρ:FSt)(i:Nat):Option (List D):=match ρ[i]? with
 |some (some (.fl ds))=>some ds
 |_=>none
def unD(ρ:FSt)(i:Nat):Option (List Key×List D):=match ρ[i]? with
 |some (some (.fd ks ds))=>some (ks,ds)
 |_=>none
theorem IC(h:unL ρ i=some ds):ρ[i]?=some (some (.fl ds)):=by
 unfold unL at h;split at h
 ·rename_i os e;cases h;exact e
 ·cases h
theorem kW(h:unD ρ i=some (ks,ds)):ρ[i]?=some (some (.fd ks ds)):=by
 unfold unD at h;split at h
 ·rename_i ks' os e;cases h;exact e
 ·cases h
theorem Rel.mutL(R:Rel K F Z H σ ρ A)(h:unL ρ i=some ds):∃ a xs,σ[i]?=some (some (.ref a))/\H a=some (.lst xs)/\Dens K F xs ds /\
  ∀ xs' ds',Dens K F xs' ds'->∃ A',Rel K F Z (upd H a (.lst xs')) σ (ρ.set i (some (.fl ds'))) A':=by
 have e:=IC h;obtain⟨v,B,A',h1,h2,R',f',pm⟩:=R.takeI e
 cases h2 with
 | @fl a xs os hl dn=>
  have fa:=f'.fr a (by simp);refine⟨a,xs,h1,hl,dn,λ xs' ds' dn'=>?_⟩;have R2:=R'.write (o:=.lst xs') fa.2.2 fa.1 fa.2.1;obtain⟨A3,R3,_⟩:=R2.putI (dX e) h1 (.fl ae dn') f';rw[abA] at R3;exact⟨A3,R3⟩
theorem Rel.mutD(R:Rel K F Z H σ ρ A)(h:unD ρ i=some (ks,ds)):∃ a ys,σ[i]?=some (some (.ref a))/\H a=some (.dK ys)/\ys.map (·.1)=ks/\Dens K F (ys.map (·.2)) ds /\
  ∀ ys' ks' ds',ys'.map (·.1)=ks'->Dens K F (ys'.map (·.2)) ds'->∃ A',Rel K F Z (upd H a (.dK ys')) σ (ρ.set i (some (.fd ks' ds'))) A':=by
 have e:=kW h;obtain⟨v,B,A',h1,h2,R',f',pm⟩:=R.takeI e
 cases h2 with
 | @fd a ys ks os hl hk dn=>
  have fa:=f'.fr a (by simp);refine⟨a,ys,h1,hl,hk,dn,λ ys' ks' ds' hk' dn'=>?_⟩;have R2:=R'.write (o:=.dK ys') fa.2.2 fa.1 fa.2.1;obtain⟨A3,R3,_⟩:=R2.putI (dX e) h1 (.fd ae hk' dn') f';rw[abA] at R3;exact⟨A3,R3⟩
def xj(i:Nat)(fe:FE):FE:=λ ρ Q=>(unL ρ i).isSome=true/\fe ρ λ r ρ1=>match fzR r ρ1 with
 | some (d,ρ2)=>(match unL ρ2 i with
  |some ds=>ds.length<sizeLine/\Q (.ov (.fz .non)) (ρ2.set i (some (.fl (ds++[d]))))
  |none=>False)
 |none=>False
theorem ID(hj:μ[j]?=some i)(he:EF K μ te fe):EF K μ (tBM K "list" dG (db j) (cZ te iN)) (xj i fe):=⟨by
 intro F Z H τ σ ρ A Q P vw R h q;obtain⟨h0,h⟩:=h;obtain⟨ds0,e0⟩:=abZ.mp h0;obtain⟨a,xs,h1,h2,h3,_⟩:=R.mutL e0;refine⟨.ref a,(vw j i hj).1.trans h1,.inl ⟨rfl,xs,SqL.of h2⟩,?_⟩;refine he.h vw R h λ r ρ1 v F1 H1 A1 B1 p1 s1 R1 v1 f1=>?_;split at p1
 ·rename_i d ρ2 e2;obtain⟨F2,A2,s2,R2,dy,_,_⟩:=R1.frz v1 f1 e2;split at p1
  ·rename_i ds e3;obtain⟨a',xs',h1',h2',h3',mt⟩:=R2.mutL e3;rw[h1] at h1';cases h1';obtain⟨A3,R3⟩:=mt (xs'++[v]) (ds++[d]) (h3'.snoc dy);exact⟨a,xs',v,rfl,rfl,h2',by rw[h3'.length];exact p1.1,q _ _ _ _ _ _ _ p1.2 (s1.trans s2) R3 (.fz .non) Fresh.nil⟩
  ·exact p1.elim
 ·exact p1.elim⟩
def nB(i:Nat)(fe fk:FE):FS:=λ E ρ=>fe ρ λ r ρ1=>match fzR r ρ1 with
 | some (d,ρ2)=>(unL ρ2 i).isSome=true/\fk ρ2 λ s ρ3=>on1 ρ3 s λ dk=>(match dk,unL ρ3 i with
  | .int k,some ds=>(match ixN ds.length k with
   |some x=>E.nx (ρ3.set i (some (.fl (ds.set x d))))
   |none=>False)
  |_,_=>False)
 |none=>False
def lW:D->Option Key
 |.int i=>some (.inl i)
 |.str z=>some (.inr z)
 |_=>none
def fL(ks:List Key)(ds:List D)(k:Key)(d:D):List Key×List D:=
 if (ks.any λ x=>decide (x=k))=true then (ks,(ks.zip ds).map λ kd=>if kd.1=k then d else kd.2) else (ks++[k],ds++[d])
def mr(i:Nat)(fe fk:FE):FS:=λ E ρ=>fe ρ λ r ρ1=>match fzR r ρ1 with
 | some (d,ρ2)=>(unD ρ2 i).isSome=true/\fk ρ2 λ s ρ3=>on1 ρ3 s λ dk=>(match lW dk,unD ρ3 i with
  |some k,some (ks,ds)=>ks.length<sizeLine/\E.nx (ρ3.set i (some (.fd (fL ks ds k d).1 (fL ks ds k d).2)))
  |_,_=>False)
 |none=>False
theorem dM{k:Key}(h:Acc K F H v d)(e:lW d=some k):v=kV k:=by
 cases d with
 |int i=>simp only[lW,Option.some.injEq] at e;subst e;exact h.int_eq
 |str z=>simp only[lW,Option.some.injEq] at e;subst e;exact h.str_eq
 |_=>simp[lW] at e
theorem nE{k:Key}(hk:ys.map (·.1)=ks)(dn:Dens K F (ys.map (·.2)) ds)(dv:Den K F v d):(gR ys k v).map (·.1)=(fL ks ds k d).1/\Dens K F ((gR ys k v).map (·.2)) (fL ks ds k d).2:=by
 have hl:ys.length=ds.length:=by have:=dn.length;simpa using this
 unfold fL gR;have hq:(ks.any λ x=>decide (x=k))=(ys.any λ kv=>decide (kv.1=k)):=by rw[← hk,acd];rfl
 by_cases hm:(ks.any λ x=>decide (x=k))=true
 ·have hany:(ys.any λ kv=>decide (kv.1=k))=true:=hq ▸ hm;rw[if_pos hany,if_pos hm];constructor
  ·rw[aav,← hk];refine aa9 λ kv _=>?_;show (if kv.1=k then (kv.1,v) else kv).1=kv.1;split <;> rfl
  ·subst hk;clear hm hany hl hq
   induction ys generalizing ds with
   |nil=>cases dn;exact .nil
   | cons y ys ih=>
    cases dn with
    | cons d1 d2=>
     refine .cons ?_ (ih d2);show Den K F (if y.1=k then (y.1,v) else y).2 (if y.1=k then d else _);split
     ·exact dv
     ·exact d1
 ·have hany:¬ (ys.any λ kv=>decide (kv.1=k))=true:=hq ▸ hm;rw[if_neg hany,if_neg hm];refine⟨by rw[aaf,hk];rfl,?_⟩;rw[aaf];exact dn.snoc dv
theorem xk{ti:TE}(hin:i<n)(he:EF K (List.range n) te fe)(hk:EF K (List.range n) ti fk):SF K n m (o5 te (LJ (db i) ti Cb)) (nB i fe fk):=⟨by
 intro F Z H σ0 σ ρ A D fD R p E h;refine he.h (View.id p.1) R h λ r ρ1 v F1 H1 A1 B1 p1 s1 R1 v1 f1=>?_;split at p1
 ·rename_i d ρ2 e2;obtain⟨F2,A2,s2,R2,dy,_,_⟩:=R1.frz v1 f1 e2;obtain⟨h0,p1⟩:=p1;obtain⟨ds0,e0⟩:=abZ.mp h0;obtain⟨a,xs,h1,h2,h3,_⟩:=R2.mutL e0;refine⟨.ref a,h1,?_⟩;refine hk.h (View.id p.1) R2 p1 λ s ρ3 w F3 H3 A3 B3 p3 s3 R3 v3 f3=>?_;obtain⟨dk,ek,p4⟩:=bP p3;split at p4
  ·rename_i k ds e3;split at p4
   ·rename_i x ex;obtain⟨a',xs',h1',h2',h3',mt⟩:=R3.mutL e3;rw[h1] at h1';cases h1';obtain⟨A4,R4⟩:=mt (xs'.set x v) (ds.set x d) (h3'.set (dy.mono s3) x);exact⟨a,xs',k,x,rfl,(R3.acc v3 ek).int_eq,h2',by rw[h3'.length];exact ex,E.nx _ _ _ _ _ ((s1.trans s2).trans s3) R4 p p4⟩
   ·exact p4.elim
  ·exact p4.elim
 ·exact p1.elim⟩
theorem Dy(he:EF K (List.range n) tv fe)(hk:EF K (List.range n) ty fk):SF K n m (wb (db i) ty tv) (mr i fe fk):=⟨by
 intro F Z H σ0 σ ρ A D fD R p E h;refine he.h (View.id p.1) R h λ r ρ1 v F1 H1 A1 B1 p1 s1 R1 v1 f1=>?_;generalize e2:fzR r ρ1=o at p1;obtain _|⟨d,ρ2⟩:=o
 ·exact False.elim p1
 ·obtain⟨F2,A2,s2,R2,dy,_,_⟩:=R1.frz v1 f1 e2;obtain⟨h0,p1⟩:=p1;obtain⟨⟨ks0,ds0⟩,e0⟩:=abZ.mp h0;obtain⟨a,xs,h1,h2,h3,_⟩:=R2.mutD e0;refine⟨.ref a,h1,?_⟩;refine hk.h (View.id p.1) R2 p1 λ s ρ3 w F3 H3 A3 B3 p3 s3 R3 v3 f3=>?_;obtain⟨dk,ek,p4⟩:=bP p3;generalize e4:lW dk=o at p4;generalize e3:unD ρ3 i=o' at p4;obtain _|k:=o
  ·exact False.elim p4
  obtain _|⟨ks,ds⟩:=o'
  ·exact False.elim p4
  ·obtain⟨a',ys,h1',h2',hk',h3',mt⟩:=R3.mutD e3;rw[h1] at h1';cases h1';obtain⟨q1,q2⟩:=nE (k:=k) hk' h3' (dy.mono s3);obtain⟨A4,R4⟩:=mt (gR ys k v) _ _ q1 q2;have hl:ys.length=ks.length:=by rw[← hk',abK]
   exact⟨a,_,rfl,.inl ⟨ys,k,h2',dM (R3.acc v3 ek) e4,by rw[hl];exact p4.1,rfl⟩,E.nx _ _ _ _ _ ((s1.trans s2).trans s3) R4 p p4.2⟩⟩
end
def outs(m:List Nat):Nat->List OV->FSt->Option (List OV)
 |_,[],_=>some []
 | i,o::os,ρ=>if m.contains i=true then (match ρ[i]? with
   |some (some o')=>(outs m (i+1) os (ρ.set i none)).map (o'::·)
   |_=>none) else (outs m (i+1) os ρ).map (o::·)
def sC:OV->Bool
 |.fz _=>true
 |_=>false
def fin(m:List Nat)(os:List OV)(P:OV->List OV->Prop)(o:OV)(ρ:FSt):Prop:=match outs m 0 os ρ with
 |some os'=>P o os'
 |none=>False
def aj(n:Nat)(os:List OV):FSt:=os.map some++List.replicate (n - os.length) none
section
variable {K:Frag}
theorem Ows.length{F H:Hp}{vs:List V}{os:List OV}{A:List Addr}(h:Ows K F H vs os A):vs.length=os.length:=by
 induction h with
 |nil=>rfl
 |cons _ t ih=>exact congrArg (·+1) ih
theorem Slots.nones(k:Nat):Slots K F H (List.replicate k none) (List.replicate k none) []:=by
 induction k with
 |zero=>exact .nil
 |succ k ih=>exact .skip ih
theorem Slots.of_ows(k:Nat){os:List OV}(h:Ows K F H vs os A):Slots K F H (vs.map some++List.replicate k none) (os.map some++List.replicate k none) A:=by
 induction h with
 |nil=>exact Slots.nones k
 |cons h t ih=>exact .has h ih
theorem Rel.outs :∀ {vs:List V} {os:List OV} {C:List Addr} {i:Nat} {ρ:FSt} {A:List Addr} {os':List OV},Ows K F H vs os C->Same F F'->(∀ j o,os[j]?=some o->i+j∉m->sC o=true) ->
  (∀ j v,vs[j]?=some v->i+j∈m->σ[i+j]?=some (some v))->Rel K F' Z H' σ ρ A->L2.outs m i os ρ=some os'->∃ C' A':List Addr,Ows K F' H' vs os' C'/\Rel K F' Z H' σ ρ A/\C'.Nodup/\(∀ a,a∈C'->a∈A/\a∉A')/\(∀ a,a∈A'->a∈A):=by
 intro vs
 induction vs with
 | nil=>
  intro os C i ρ A os' h s hz hp R e;cases h;simp only[L2.outs,Option.some.injEq] at e;subst e;exact⟨[],A,.nil,R,aaB,λ _ z=>(nomatch z),λ _ z=>z⟩
 | cons v vs ih=>
  intro os C i ρ A os' h s hz hp R e
  cases h with
  | @cons _ o _ os C1 C2 h t=>
   simp only[L2.outs] at e;have hz':∀ j o,os[j]?=some o->i+1+j∉m->sC o=true:=λ j o q n=>hz (j+1) o (by exists q) (by rw[show i+(j+1)=i+1+j by nofun];exact n)
   have hp':∀ j v,vs[j]?=some v->i+1+j∈m->σ[i+1+j]?=some (some v):=λ j v q n=>by
    have:=hp (j+1) v (by exists q) (by rw[show i+(j+1)=i+1+j by nofun];exact n);rw[show i+1+j=i+(j+1) by nofun];exact this
   split at e
   ·rename_i hm;have hm:i∈m:=(by exists hm);split at e
    ·rename_i o' ho;rw[aap] at e;obtain⟨os2,e2,rfl⟩:=e;obtain⟨v',B',A',h1,h2,R',f',pm⟩:=R.takeI ho;have hv:=hp 0 v rfl (by exists hm);rw[Nat.add_zero] at hv;have:v'=v:=by rw[hv] at h1;simpa using h1.symm
     subst this;obtain⟨C',A2,w1,_,n1,m1,m2⟩:=ih t s hz' hp' R' e2;refine⟨B'++C',A2,.cons h2 w1,R,abV.mpr ⟨f'.nd,n1,λ a ha b hb z=>(f'.fr a ha).2.2 (by rw[z];exact(m1 b hb).1)⟩,λ a ha=>?_,λ a ha=>pm.mem_iff.mpr (abL.mpr (.inr (m2 a ha)))⟩;rcases abL.mp ha with z|z
     ·exact⟨pm.mem_iff.mpr (abL.mpr (.inl z)),λ y=>(f'.fr a z).2.2 (m2 a y)⟩
     ·exact⟨pm.mem_iff.mpr (abL.mpr (.inr (m1 a z).1)),(m1 a z).2⟩
    ·cases e
   ·rename_i hm;rw[aap] at e;obtain⟨os2,e2,rfl⟩:=e;have hm:i∉m:=(by exists hm);have hf:=hz 0 o rfl (by exists hm);obtain⟨C',A2,w1,_,n1,m1,m2⟩:=ih t s hz' hp' R e2
    cases h with
    |fz dn=>exact⟨C',A2,.cons (.fz (dn.mono s)) w1,R,n1,m1,m2⟩
    |_=>simp[sC] at hf
theorem Fun.okF{P:Program}{mg:Str->Option Value}{base:Heap}{qual:Str}{st:Stmt}{f:Addr}{fd:FuncData}{N ps:List Str}{k:Nat}{fs:FS}(F:Fun K x qual st f fd)(S:FnScope N ps (au st))
  (hN:ps.length<=N.length) (hlen:∀ os P,c os P->os.length=ps.length/\∀ j o,os[j]?=some o->j∉m->sC o=true) (hm:∀ i∈m,i<ps.length)
  (hbody:∀ (cdv:Value) (A:Around) (outer:List Env) (s:Shared) (H:Hp) (E:XK),Room k (A.deeper (envOfC qual (au st) s.heap.objs.size f cdv)) ->
   ∃ t,BSs (qT CX0 P w K mg base N qual (au st) f cdv A outer s H E).nox (bF st) t/\SF K N.length m t fs)
  (hc:∀ os P,c os P->fs { nx:=fin m os P (.fz .non),rt:=fin m os P } (aj N.length os)):FnOk P w K mg base CX0 (k+1) f fd ps (spM K c):=by
 refine F.okB S (λ vs H Q E h=>?_) (λ cdv A outer s H vs Q E hr h=>?_)
 ·obtain⟨F1,Z,os,C,Pq,_,_,_,ho,_,_,hcc,_⟩:=h;rw[ho.length];exact(hlen os Pq hcc).1
 ·obtain⟨F1,Z,os,C,Pq,sf,sz,dj,ho,nd,fr,hcc,q⟩:=h;obtain⟨t,ht,hs⟩:=hbody cdv A outer s H E hr;refine⟨t,ht,?_⟩;have hl:=(hlen os Pq hcc).1;have hvl:=ho.length
  have R:Rel K F1 Z H (start N vs) (aj N.length os) C:=by
   refine⟨?_,nd,fr,sf,sz,dj⟩;unfold start aj;rw[hvl];exact Slots.of_ows _ ho
  have hn:(start N vs).length=N.length:=by unfold start;simp;nofun
  have fin_ok:∀ F' H' σ' ρ' A' v o B,Same F1 F'->Rel K F' Z H' σ' ρ' A'->Pin N.length m (start N vs) σ'->Ow K F' H' v o B->Fresh F' Z A' B->fin m os Pq o ρ'->Q v H':=by
   intro F' H' σ' ρ' A' v o B s' R' p' ow f' h';unfold fin at h';split at h'
   ·rename_i os' e
    obtain⟨C',A2,w1,_,n1,m1,m2⟩:=Rel.outs (i:=0) ho s' (λ j o q n=>(hlen os Pq hcc).2 j o q (by exists n)) (λ j v q n=>by
     have hj:j<vs.length:=(List.getElem?_eq_some_iff.mp q).1;rw[Nat.zero_add] at n ⊢;rw[p'.2 j n];unfold start;rw[List.getElem?_append_left (by exists hj),List.getElem?_map,q];rfl) R' e
    refine q o os' v F' H' C' B h' s' R'.fh R'.zh.s R'.dj w1 ow (abV.mpr ⟨n1,f'.nd,λ a ha b hb z=>(f'.fr b hb).2.2 (by rw[← z];exact(m1 a ha).1)⟩) λ a ha=>?_;rcases abL.mp ha with z|z
    ·exact R'.fr a (m1 a z).1
    ·exact⟨(f'.fr a z).1,(f'.fr a z).2.1⟩
   ·exact h'.elim
  exact hs.h (fD:={ nx:=fin m os Pq (.fz .non),rt:=fin m os Pq }) R (Pin.refl hn) ⟨λ F' H' σ' ρ' A' s' R' p' h'=>fin_ok F' H' σ' ρ' A' .non (.fz .non) [] s' R' p' (.fz .non) Fresh.nil h',
   fin_ok,λ _ _ _ _ _ _ _ _ z=>z.elim,λ _ _ _ _ _ _ _ _ z=>z.elim⟩ (hc os Pq hcc)
end
def NE:R2:=λ x y H Q=>∃ a v,x=.ref a/\DGet H a y (some v)/\Q v H
theorem Dz(hu:X.A.units+1<cLine):IxR X NE:=by
 intro value slice pins s σ H x y v u Q I rx ry h hs;obtain⟨a,z,rfl,g,q⟩:=h;cases rx;exact tail_any (md I g) PySem.F.slot_dict_getitem.lookup (qZ hu I g ry λ w' s3 I3 rw'=>⟨z,H,I3,rw',q⟩) hs
def Lr(K:Frag):R2:=λ x y H Q=>rIx K x y H Q∨NE x y H Q
def NF:R2:=λ x y H Q=>∃ a o,y=.ref a/\DGet H a x o/\Q (.bl o.isSome) H
def sD:R2:=λ x y H Q=>∃ a o,y=.ref a/\DGet H a x o/\Q (.bl (!o.isSome)) H
theorem IE(hu:X.A.units+1<cLine):OpR X (compareOp .In) NF:=by
 intro pins s σ H x y v u Q I rx ry h;obtain⟨a,o,rfl,g,q⟩:=h;cases ry;exact d_in hu I g rx λ s3 I3=>⟨.bl o.isSome,H,I3,rfl,q⟩
theorem sE(hu:X.A.units+1<cLine):OpR X (compareOp .NotIn) sD:=by
 intro pins s σ H x y v u Q I rx ry h;obtain⟨a,o,rfl,g,q⟩:=h;cases ry;exact Cd hu I g rx λ s3 I3=>⟨.bl (!o.isSome),H,I3,rfl,q⟩
def Mu(K:Frag):R2:=λ x y H Q=>NA K x y H Q∨NF x y H Q
def sG(K:Frag):R2:=λ x y H Q=>rG K x y H Q∨sD x y H Q
theorem DA(K:Frag)(hu:X.A.units+64<cLine)(h:X.K=K):BOp X (compareOp .In) (Mu K):=by subst h;exact⟨OpR.or Hi (IE (by nofun))⟩
theorem pR(K:Frag)(hu:X.A.units+64<cLine)(h:X.K=K):BOp X (compareOp .NotIn) (sG K):=by subst h;exact⟨OpR.or rH (sE (by nofun))⟩
theorem IF{a b:Expr}(K:Frag)(hu:X.A.units+64<cLine)(ha:BE X a ta)(hb:BE X b tb)(hs:∀ o i,subscripted b false o i=operate [o,i] (getItem o i))(hK:X.K=K):BE X (.Subscript a b pos) (tOp (Lr K) ta tb):=by
 subst hK;exact⟨LX (IxR.or G2 (Dz (by nofun))) ha.h hb.h hs⟩
def IG(pI:Int->Int->Bool)(pS:Str->Str->Bool):R2:=λ x y H Q=>(∃ i j,x=.int i/\y=.int j/\Q (.bl (pI i j)) H)∨∃ i j,x=.str i/\y=.str j/\Q (.bl (pS i j)) H
def bd(x y:Str):Bool:=decide (x.cps.toList<y.cps.toList)
theorem IH:OpR X (compareOp .Lt) (λ x y H Q=>∃ i j,x=.str i/\y=.str j/\Q (.bl (bd i j)) H):=by
 intro pins s σ H x y v u Q I rx ry h;obtain⟨i,j,rfl,rfl,q⟩:=h;obtain⟨t,rfl⟩:=rx;obtain⟨t',rfl⟩:=ry;exact PyProof.Rows.lt_str ⟨.bl _,H,I,rfl,q⟩
theorem II:OpR X (compareOp .LtE) (λ x y H Q=>∃ i j,x=.str i/\y=.str j/\Q (.bl (!bd j i)) H):=by
 intro pins s σ H x y v u Q I rx ry h;obtain⟨i,j,rfl,rfl,q⟩:=h;obtain⟨t,rfl⟩:=rx;obtain⟨t',rfl⟩:=ry;refine PySem.P.le_str ⟨.bl _,H,I,rfl,?_⟩;have e:decide (¬ (j.cps.toList<i.cps.toList))=!bd j i:=by unfold bd;rw[decide_not]
 first|exact q|(rw[← e] at q;exact q)|(simpa [bd] using q)
theorem IJ:OpR X (compareOp .Gt) (λ x y H Q=>∃ i j,x=.str i/\y=.str j/\Q (.bl (bd j i)) H):=by
 intro pins s σ H x y v u Q I rx ry h;obtain⟨i,j,rfl,rfl,q⟩:=h;obtain⟨t,rfl⟩:=rx;obtain⟨t',rfl⟩:=ry;exact PySem.P.gt_str ⟨.bl _,H,I,rfl,q⟩
theorem IK:OpR X (compareOp .GtE) (λ x y H Q=>∃ i j,x=.str i/\y=.str j/\Q (.bl (!bd i j)) H):=by
 intro pins s σ H x y v u Q I rx ry h;obtain⟨i,j,rfl,rfl,q⟩:=h;obtain⟨t,rfl⟩:=rx;obtain⟨t',rfl⟩:=ry;refine PySem.P.ge_str ⟨.bl _,H,I,rfl,?_⟩;have e:decide (¬ (i.cps.toList<j.cps.toList))=!bd i j:=by unfold bd;rw[decide_not]
 first|exact q|(rw[← e] at q;exact q)|(simpa [bd] using q)
theorem DB:BOp X (compareOp .Lt) (IG (λ i j=>decide (i<j)) bd):=⟨OpR.or LQ IH⟩
theorem DC:BOp X (compareOp .LtE) (IG (λ i j=>decide (i<=j)) λ i j=>!bd j i):=⟨OpR.or LR II⟩
theorem DD:BOp X (compareOp .Gt) (IG (λ i j=>decide (j<i)) λ i j=>bd j i):=⟨OpR.or LS IJ⟩
theorem DE:BOp X (compareOp .GtE) (IG (λ i j=>decide (j<=i)) λ i j=>!bd i j):=⟨OpR.or LU IK⟩
def tyD:D->String
 |.non => "NoneType"
 |.bl _ => "bool"
 |.int _ => "int"
 |.str _ => "str"
 |.lst _ => "list"
 |.tup _ => "tuple"
 |.dct _ _ => "dict"
 |.ty _ => "type"
 |.opq _ _ => "dict"
 |.gt _ => "tuple"
 |.dt _ _ => "dict"
def DF(T:String):Bool:=T == "str" || T == "int" || T == "bool" || T == "list" || T == "tuple" || T == "dict" || T == "NoneType"
theorem sH{T:String}(h:DF T=true):okT T:=by
 simp only[DF,Bool.or_eq_true,beq_iff_eq] at h;unfold okT;rcases h with (((((h|h)|h)|h)|h)|h)|h <;> simp[h]
def Mv(K:Frag):List V->Hp->VK->Prop:=λ xs H Q=>∃ x d T,xs=[x,.ty T]/\Den K H x d/\DF (tyD d)=true/\DF T=true/\Q (.bl (isT (tyD d) T)) H
theorem xl:CallR X (.builtin "isinstance") (Mv X.K):=by
 intro pins s σ H xs us Q I r h;obtain⟨x,d,T,rfl,dn,o1,o2,q⟩:=h;obtain⟨u,u',rfl,ru,ru'⟩:=vW r;cases (show u'=Value.type T from ru');have e:=Hb (K:=X.K) (sH o1) (sH o2);have fin:∀ tk,EP X pins σ Q (.bool (isT (tyD d) T)) { s with toks:=tk }:=λ tk=>⟨.bl _,H,I.tok tk,rfl,q⟩
 cases dn with
 |non=>exact eZ I ru .non e fin
 |bl b=>exact eZ I ru (.bl b) e fin
 |int i=>exact eZ I ru (.int i) e fin
 |str z=>exact eZ I ru (.str z) e fin
 |ty T'=>simp[tyD,DF] at o1
 | @lst a ys ds hs t=>
  cases (show u=Value.ref a from ru);obtain⟨its,_,⟨o,n,h1,h2,_⟩,_⟩:=I.list hs;exact aax PySem.W.kitx_list I.kIn ⟨_,h1,h2⟩ e (λ z=>nomatch z) fin
 | @tup a ys ds hs t=>
  cases (show u=Value.ref a from ru);obtain⟨its,_,⟨o,h1,h2,_⟩,_⟩:=I.tuple (SqT.of hs);exact aax PySem.W.kitx_tuple I.kIn ⟨o,h1,h2⟩ e (λ z=>nomatch z) fin
 | @gt a ys ds hs t=>
  cases (show u=Value.ref a from ru);obtain⟨its,_,⟨o,h1,h2,_⟩,_⟩:=I.tuple hs;exact aax PySem.W.kitx_tuple I.kIn ⟨o,h1,h2⟩ e (λ z=>nomatch z) fin
 | @dt a ys ks ds hs hk t=>
  cases (show u=Value.ref a from ru);obtain⟨_,_,xs,_,o,es,ep,h1,h2,_⟩:=(show ObjOk X.prog X.w H s.heap a (.dT ys) from hs.ok I.hok);exact aax abz I.kIn ⟨o,h1,h2.1⟩ e (λ z=>nomatch z) fin
 | @dct a ys ks ds hs hk t=>
  cases (show u=Value.ref a from ru);obtain⟨_,_,vs,_,p⟩:=(show ObjOk X.prog X.w H s.heap a (.dK ys) from hs.ok I.hok);obtain⟨o,es,ep,h1,h2,_⟩:=p;exact aax abz I.kIn ⟨o,h1,h2.1⟩ e (λ z=>nomatch z) fin
 | @opq a ys n hs hn hpl=>
  cases (show u=Value.ref a from ru);obtain⟨_,_,vs,_,p⟩:=(show ObjOk X.prog X.w H s.heap a (.dK ys) from hs.ok I.hok);obtain⟨o,es,ep,h1,h2,_⟩:=p;exact aax abz I.kIn ⟨o,h1,h2.1⟩ e (λ z=>nomatch z) fin
theorem IL(K:Frag)(h:X.K=K):BCall X (.builtin "isinstance") (Mv K):=by subst h;exact⟨xl⟩
def IM(K:Frag):R2:=λ x y H Q=>∃ l b xs zs,x=.ref l/\y=.ref b/\SqL K H l xs/\SqL K H b zs/\xs.length+zs.length<=sizeLine/\∀ p,H p=none->Q (.ref p) (upd H p (.lst (xs++zs)))
theorem DG:OpR X (binaryOp .Add) (IM X.K):=by
 intro pins s σ H x y v u Q I rx ry h;obtain⟨l,b,xs,zs,rfl,rfl,hH,hB,hz,q⟩:=h;cases rx;cases ry;obtain⟨its,r,⟨⟨cls,dd,data,sl⟩,n,ho,hc,hdd,hd⟩,_⟩:=I.list hH;obtain⟨its2,r2,⟨⟨cls2,dd2,data2,sl2⟩,n2,ho2,hc2,hdd2,hd2⟩,_⟩:=I.list hB;dsimp only at hc hd hc2 hd2 hdd hdd2;subst hc hd hc2 hd2 hdd hdd2;have hl:=r.length;have hl2:=r2.length;refine concat_meets ⟨_,ho,rfl⟩ ⟨_,ho2,rfl⟩ noFill_list_add seq_list_add PySem.F.slot_list_add PySem.F.entry_list_add (PySem.F.args_list_add_2 _ _) (list_addW l b its.toArray its2.toArray n n2 none none sl sl2 (by simp;nofun)) ⟨ho,ho2,?_⟩;have ea:its.toArray++its2.toArray=(its++its2).toArray:=by simp
 rw[ea];exact⟨.ref _,_,I.lnew (t':=s.toks) (r.append r2) (by rw[aag];nofun),rfl,q _ I.fresh⟩
def IN(K:Frag):R2:=λ x y H Q=>(∃ i j,x=.int i/\y=.int j/\Q (.int (i+j)) H)∨(∃ i j,x=.str i/\y=.str j/\i.length+j.length<=sizeLine/\Q (.str (i++j)) H)∨IM K x y H Q∨GZ K x y H Q
theorem xm(K:Frag)(h:X.K=K):BOp X (binaryOp .Add) (IN K):=by subst h;exact⟨GK.or (pb.or (DG.or B8))⟩
theorem sI:CallR X (.builtin "ord") (λ xs H Q=>∃ c:Nat,xs=[.str ⟨#[c]⟩]/\Q (.int c) H):=by
 intro pins s σ H xs us Q I r h;obtain⟨c,rfl,q⟩:=h;obtain⟨u,rfl,ru⟩:=dF r;obtain⟨t,rfl⟩:=ru;exact PySem.P.ord_of_char ⟨.int c,H,I.tok _,⟨_,rfl⟩,q⟩
def NG:List V->Hp->VK->Prop:=λ xs H Q=>∃ c:Nat,xs=[.str ⟨#[c]⟩]/\Q (.int c) H
theorem IP:BCall X (.builtin "ord") NG:=⟨sI⟩
def tGU(K:Frag)(xs:List V):TE:=λ _ H Q=>∀ a,(∀ H',SqT K H' a xs)->Q (.ref a) H
theorem DH{K:Frag}(h:HY K X.mg x xs)(hg:X.env.kindOf x=some .globalImplicit)(hd:autoParam ((x==("__debug__" : Str))=false) L2.aD._auto_1):BE X (.Name x pos) (tGU K xs):=by
 obtain⟨a,e,hs⟩:=h;exact⟨λ pins s σ H Q I q=>Al (v:=.ref a) ⟨_,e,rfl⟩ hg hd pins s σ H Q I (q a hs)⟩
section
variable {K:Frag} 
theorem aG(e:Same F H)(n:De K F H P Q)(h:Den K F v d)(p:P (.fz d)):Q v H:=n _ v F H [] p (Pure.refl e) (.fz h) New.nil
theorem cQ(e:Same F H)(n:De K F H P Q)(h:Dens K F xs ds)(p:P (.fl ds)):∀ q,H q=none->Q (.ref q) (upd H q (.lst xs)):=λ q hq=>
 n _ (.ref q) F _ [q] p (Pure.new e hq) (.fl ae h) (New.one hq (e.free hq))
theorem jL(e:Same F H)(n:De K F H P Q)(h:Dens K F xs ds)(p:P (.fz (.tup ds))):∀ q,H q=none->Q (.ref q) (upd H q (.tup xs)):=λ q hq=>
 n _ (.ref q) (upd F q (.tup xs)) _ [] p (Pure.frz e hq) (.fz (.tup ae (h.mono (bp (e.free hq))))) New.nil
theorem Mw(hd:∀ F,Dens K F xs ds):EF K μ (tGU K xs) (fC (.gt ds)):=⟨fun {F Z H τ σ ρ A Q P} vw R h q a ha=>q _ _ _ F H A [] h (Same.refl _) R (.fz (.gt (ha F) (hd F))) Fresh.nil⟩
def aI0(g:Int->Int->D):D->D->(OV->Prop)->Prop
 |.int i,.int j,P=>P (.fz (g i j))
 |_,_,_=>False
def aIC(C:Int->Int->Prop)(g:Int->Int->D):D->D->(OV->Prop)->Prop
 |.int i,.int j,P=>C i j/\P (.fz (g i j))
 |_,_,_=>False
theorem IQ(h:∀ F i j,Den K F (gV i j) (gD i j)):OpF K (rI0 gV) (aI0 gD):=⟨by
 intro F H x y d e Q P s hx hy f n
 cases d with
 | int i=>
  cases e with
  | int j=>
   exact⟨_,_,hx.int_eq,hy.int_eq,aG s n (h F _ _) f⟩
  |_=>exact False.elim f
 |_=>exact False.elim f⟩
theorem jc{C:Int->Int->Prop}(h:∀ F i j,Den K F (gV i j) (gD i j)):OpF K (rI C gV) (aIC C gD):=⟨by
 intro F H x y d e Q P s hx hy f n
 cases d with
 | int i=>
  cases e with
  | int j=>
   exact⟨_,_,hx.int_eq,hy.int_eq,f.1,aG s n (h F _ _) f.2⟩
  |_=>exact False.elim f
 |_=>exact False.elim f⟩
theorem DI:OpF K (rI0 λ i j=>.int (i - j)) (aI0 λ i j=>.int (i - j)):=IQ λ _ _ _=>.int _
theorem DJ:OpF K (rI CMul λ i j=>.int (i*j)) (aIC CMul λ i j=>.int (i*j)):=jc λ _ _ _=>.int _
theorem xn:OpF K (rI Gc λ i j=>.int (i / j)) (aIC Gc λ i j=>.int (i / j)):=jc λ _ _ _=>.int _
theorem DK:OpF K (rI (λ _ j=>0<j) λ i j=>.int (i % j)) (aIC (λ _ j=>0<j) λ i j=>.int (i % j)):=jc λ _ _ _=>.int _
theorem DL:OpF K (rI Gd λ i j=>.int (i ^ j.toNat)) (aIC Gd λ i j=>.int (i ^ j.toNat)):=jc λ _ _ _=>.int _
def iK(pI:Int->Int->Bool)(pS:Str->Str->Bool):D->D->(OV->Prop)->Prop
 |.int i,.int j,P=>P (.fz (.bl (pI i j)))
 |.str i,.str j,P=>P (.fz (.bl (pS i j)))
 |_,_,_=>False
theorem DM{pI:Int->Int->Bool}{pS:Str->Str->Bool}:OpF K (IG pI pS) (iK pI pS):=⟨by
 intro F H x y d e Q P s hx hy f n
 cases d with
 | int i=>
  cases e with
  | int j=>
   exact .inl ⟨_,_,hx.int_eq,hy.int_eq,aG s n (.bl _) f⟩
  |_=>exact False.elim f
 | str i=>
  cases e with
  | str j=>
   exact .inr ⟨_,_,hx.str_eq,hy.str_eq,aG s n (.bl _) f⟩
  |_=>exact False.elim f
 |_=>exact False.elim f⟩
def eC:D->D->(OV->Prop)->Prop
 |.int i,.int j,P=>P (.fz (.int (i+j)))
 |.str i,.str j,P=>i.length+j.length<=sizeLine/\P (.fz (.str (i++j)))
 |.lst xs,.lst ys,P=>xs.length+ys.length<=sizeLine/\P (.fl (xs++ys))
 |.tup xs,.tup ys,P=>xs≠[]/\xs.length+ys.length<=sizeLine/\P (.fz (.tup (xs++ys)))
 |_,_,_=>False
theorem DN:OpF K (IN K) eC:=⟨by
 intro F H x y d e Q P s hx hy f n
 cases d with
 | int i=>
  cases e with
  | int j=>
   exact .inl ⟨_,_,hx.int_eq,hy.int_eq,aG s n (.int _) f⟩
  |_=>exact False.elim f
 | str i=>
  cases e with
  | str j=>
   exact .inr (.inl ⟨_,_,hx.str_eq,hy.str_eq,f.1,aG s n (.str _) f.2⟩)
  |_=>exact False.elim f
 | lst ds=>
  cases e with
  | lst es=>
   obtain⟨a,xs,rfl,h1,h2⟩:=hx.asL s;obtain⟨b,ys,rfl,h3,h4⟩:=hy.asL s;exact .inr (.inr (.inl ⟨a,b,xs,ys,rfl,rfl,h1,h3,by rw[h2.length,h4.length];exact f.1,cQ s n (h2.append h4) f.2⟩))
  |_=>exact False.elim f
 | tup ds=>
  cases e with
  | tup es=>
   have hy':=hy;obtain⟨a,xs,rfl,h1,h2⟩:=hx.asT s;obtain⟨b,ys,rfl,h3,h4⟩:=hy.asT s;refine .inr (.inr (.inr ⟨a,b,xs,ys,rfl,rfl,h1,h3,λ z=>f.1 ?_,by rw[h2.length,h4.length];exact f.2.1,λ z=>?_,λ z=>jL s n (h2.append h4) f.2.2⟩))
   ·have:=h2.length;rw[z] at this;exact aaA this.symm
   ·subst z;cases h4;have f2:=f.2.2;rw[aay] at f2
    cases hx with
    |fz hd=>exact aG s n hd f2
  |_=>exact False.elim f
 |_=>exact False.elim f⟩
end
def cO(a b:Str):Bool:=!bd b a
theorem dN{a:Str}:cO a b=true↔¬ (b.cps.toList<a.cps.toList):=by unfold cO bd;simp
theorem ik(a b c:Str)(h1:cO a b=true)(h2:cO b c=true):cO a c=true:=by
 rw[dN] at *;exact ab9.mpr (List.le_trans (ab9.mp h1) (ab9.mp h2))
theorem mv(a b:Str):(cO a b || cO b a)=true:=by
 rw[Bool.or_eq_true,dN,dN];rcases List.le_total a.cps.toList b.cps.toList with h|h
 ·exact .inl (ab9.mpr h)
 ·exact .inr (ab9.mpr h)
theorem fT{a:Str}(h1:cO a b=true)(h2:cO b a=true):a=b:=by
 rw[dN] at *;exact gZ (List.le_antisymm (ab9.mp h1) (ab9.mp h2))
def c6(zs:List Str):List Str:=zs.mergeSort cO
theorem aT(zs:List Str):(c6 zs).Perm zs:=List.mergeSort_perm zs _
theorem cq(zs:List Str):(c6 zs).Pairwise λ a b=>cO a b=true:=List.pairwise_mergeSort ik mv zs
theorem dO:∀ (p:Str) (l:List Str),risingS p l=true->(p::l).Pairwise λ a b=>cO a b=true
 |p,[],_=>List.pairwise_singleton _ _
 | p,x::r,h=>by
  simp only[risingS,Bool.and_eq_true] at h;have ih:=dO x r h.2
  have hpx:cO p x=true:=by
   unfold cO bd;rw[← ltCps_eq];exact h.1
  refine List.pairwise_cons.mpr ⟨λ y hy=>?_,ih⟩;rcases abQ.mp hy with rfl|hy
  ·exact hpx
  ·exact ik _ _ _ hpx (List.rel_of_pairwise_cons ih hy)
theorem cB:∀ (l:List Str),sortedS l=true->l.Pairwise λ a b=>cO a b=true
 |[],_=>.nil
 |x::r,h=>dO x r h
theorem gp(hp:ss.Perm zs)(hs:sortedS ss=true):ss=c6 zs:=
 List.Perm.eq_of_pairwise (le:=λ a b=>cO a b=true) (λ a b _ _ h1 h2=>fT h1 h2) (cB ss hs) (cq zs) (hp.trans (aT zs).symm)
theorem il(hp:ss.Perm zs)(hs:ss.Pairwise λ a b=>cO a b=true):ss=c6 zs:=
 List.Perm.eq_of_pairwise (le:=λ a b=>cO a b=true) (λ a b _ _ h1 h2=>fT h1 h2) hs (cq zs) (hp.trans (aT zs).symm)
section
open PySem.Calls
variable {prog:Program}  {A:Around} {E:Value->Shared->Prop}  {T:String} {r d:Addr}  {P:Nat->Value->Prop} {OK:Heap->Prop}
theorem IR{R:List Value->Shared->Prop}(S:PySem.W.KdlSrc prog w T r d n P OK)(calm:A.handled=none)(ok:OK s.heap)(few:n<=sizeLine)
  (go:∀ (g:Heap) (tk:Nat) (acc:Array Value),(∀ b o,s.heap.get? b=some o->g.get? b=some o)->s.heap.objs.size<g.objs.size->ItemsOf P acc n->R acc.toList { s with heap:=g,toks:=tk }) :
  wpAny (model prog w) A (collect (.ref r)) R E s:=by
 obtain⟨l1,l2⟩:=S.there _ ok;unfold collect;refine aaa (wpAny_runValue (codeAny_builtin entry_proto_collect' ?_));rw[aaJ PySem.F.plain_proto_collect _];show wpAny _ A.in1 (newList [] >>= λ x=>again (.builtin "list.__iadd__" ⟨[x,.ref r],[]⟩)) _ _ s;refine aaa (aaL (aae ⟨plainId_quiet PySem.F.plain_list_iadd _,codeAny_builtin entry_list_iadd' ?_⟩));rw[aaJ PySem.F.plain_list_iadd _];have top:(s.heap.push { cls:=.type "list", data:=.seq ([]:List Value).toArray }).get? s.heap.objs.size=some { cls:=.type "list", data:=.seq #[] }:=Heap.get?_push_size _ rfl;show wpAny _ A.in1 (Builtin.List.listExtendWith (.ref s.heap.objs.size) (.ref r) (.ref s.heap.objs.size)) _ _ _
 have main:=PySem.W.kdl_extend (A:=A) (s:={ s with heap:=s.heap.push { cls:=.type "list", data:=.seq ([]:List Value).toArray } })
  (R:=λ (q:Result) (s':Shared)=>∃ (g:Heap) (tk:Nat) (acc:Array Value) (c:Nat),q=.ok (.ret (.ref s.heap.objs.size))/\s'={ s with heap:=g,toks:=tk } /\
   (∀ b o,s.heap.get? b=some o->g.get? b=some o)/\g.get? s.heap.objs.size=some { cls:=.type "list", dict:=none,data:=.seq acc c,slots:=#[] }/\ItemsOf P acc n)
  S calm (S.keep _ _ ok λ b _ o e=>Heap.get?_push_of_some _ e) s.heap.objs.size (Nat.ne_of_gt l1) (Nat.ne_of_gt l2) (.ref s.heap.objs.size) 0 top
  (λ g tk acc c hk hS hacc=>⟨g,tk,acc,c,rfl,rfl,λ b o e=>hk b o (aak (aah e)) (Heap.get?_push_of_some _ e),hS,hacc⟩) few
 refine abu main (λ z s' x=>?_) λ e s' x=>?_
 ·cases z with
  | done f=>
   obtain⟨g,tk,acc,c,e,rfl,hk,hS,hacc⟩:=x;cases e;exact aaa (wpAny_load hS (aae (go g tk acc hk (aah hS) hacc)))
  | again c₁=>
   refine⟨x.1,codeAny_mono x.2 λ q s₂ y=>?_⟩;obtain⟨g,tk,acc,c,rfl,rfl,hk,hS,hacc⟩:=y;exact aaa (wpAny_load hS (aae (go g tk acc hk (aah hS) hacc)))
 ·obtain⟨_,_,_,_,e',_⟩:=x;cases e'
end
theorem kX(hc:X.calm=true):CallR X (.builtin "sorted") (λ xs H Q=>∃ p kvs zs,xs=[.ref p]/\Rd H p (.dK kvs)/\kvs.map (·.1)=zs.map Sum.inr/\kvs.length<64/\∀ q ss,H q=none->ss.Perm zs->sortedS ss=true->Q (.ref q) (upd H q (.lst (ss.map .str)))):=by
 intro pins s σ H xs us Q I r h;obtain⟨p,kvs,zs,rfl,hq,hz,h64,q⟩:=h;obtain⟨u,rfl,rx⟩:=dF r;cases rx;obtain⟨hsz,hS,vs,rv,m⟩:kvs.length<=sizeLine/\(p==sysModules)=false/\∃ vs,KV kvs vs/\s.heap.DictOf (aq X.prog X.w) p vs:=hq.ok I.hok;obtain⟨ep,hat⟩:=m.dictAt;have hl:kvs.length=vs.length:=aa1 rv;refine Calls.call_function_entry kind_sorted plain_sorted entry_sorted (args_sorted1 _) ?_;unfold Builtin.«sorted»;refine aaa (m:=checkCount "sorted" 1 1 _) (aae ?_);refine aaa (IR (PySem.W.kdl_dict (knd:=aq X.prog X.w) (kvs:=vs) (ep:=ep) hS) (by simpa using I.ok.hd hc) hat (by rw[← hl];exact hsz) λ h' tk acc hk hgr hacc=>?_);have hal:acc.toList.length=kvs.length:=by rw[abU,hacc.1,hl]
 have hSA:StrsAre acc.toList zs:=by
  have hget:∀ (j:Nat) v,acc.toList[j]?=some v->∃ k x,vs[j]?=some (k,x)/\jt k v=true:=λ j v e=>hacc.2 j v (by rw[← Array.getElem?_toList];exact e);clear hacc hk q hq m hat;generalize acc.toList=us at hal hget;clear hsz hl h64 I r
  induction rv generalizing us zs with
  | nil=>
   cases zs with
   |nil=>cases us with|nil=>exact .nil|cons a b=>simp at hal
   |cons z zs=>simp at hz
  | cons h1 h2 ih=>
   cases zs with
   |nil=>simp at hz
   | cons z zs=>
    cases us with
    |nil=>simp at hal
    | cons a b=>
     simp only[List.map_cons,List.cons.injEq] at hz;obtain⟨k,x,e1,e2⟩:=hget 0 a rfl;simp only[List.getElem?_cons_zero,Option.some.injEq] at e1;subst e1;have e3:_=k:=h1.1;rw[← e3,hz.1] at e2;rcases aV e2 with ⟨i,t,q,_⟩|⟨z',t,q,rfl⟩
     ·cases q
     ·cases q;exact .cons _ t (ih zs hz.2 b (by exists hal) λ j v e=>by simpa using hget (j+1) v (by exists e))
 refine aaa (wpAny_newList ?_ (hsz:=by rw[hal];exact hsz));have hoL:(h'.push (seqObj "list" acc.toList.toArray 0)).get? h'.objs.size=some (seqObj "list" acc.toList.toArray 0):=Heap.get?_push_size _ rfl;have hle:s.heap.objs.size<=h'.objs.size:=acb hgr;refine aaa (aaI (aaC slot_list_sort ⟨_,hoL,rfl⟩ entry_list_sort (list_sort_treeK strKind_oneLt hoL hSA.keysOf (λ v₁ v₂ rest e=>keyKind_strs (by rw[← e];exact hSA)) (by rw[hal];exact h64) λ st' a1 a2=>⟨_,rfl,?_⟩) (args_list_sort _)));obtain⟨ss',b1,b2,b3⟩:=sorted_out_str hSA a1 a2;obtain⟨e',he'⟩:=sortedHeap_at (out:=(arrOf st').map (·.2)) hoL;have hlz:ss'.length=kvs.length:=by rw[b2.length_eq];have:=congrArg List.length hz;simpa using this.symm
 refine aae ⟨_,rfl,.ref h'.objs.size,_,I.laid (t':=tk) (o:=.lst (ss'.map .str)) (λ b ob hb=>?_) hle ⟨by rw[abK,hlz];exact hsz,((arrOf st').map (·.2)).toList,e',dI b1,by rw[abl];exact he'⟩,rfl,q h'.objs.size ss' (I.hok.fresh hle) b2 b3⟩;have hbl:b<h'.objs.size:=aan (aah hb) hle;rw[sortedHeap_old (aak hbl) (by rw[size_push'];exact aaM hbl)];exact Heap.get?_push_of_some _ (hk b ob hb)
section
variable {K:Frag} 
def DO(d e:D):Prop:=okD d=true/\okD e=true/\dep (vG d)<=40
def aEq:D->D->(OV->Prop)->Prop:=λ d e P=>DO d e/\P (.fz (.bl (dEq d e)))
def aNe:D->D->(OV->Prop)->Prop:=λ d e P=>DO d e/\P (.fz (.bl (!dEq d e)))
theorem IS:OpF K (Lm K) aEq:=⟨fun {F H x y d e Q P} s hx hy f n=>.inr ⟨_,_,(hx.den s).deep f.1.1,(hy.den s).deep f.1.2.1,f.1.2.2,aG s n (.bl _) f.2⟩⟩
theorem IT:OpF K (Ln K) aNe:=⟨fun {F H x y d e Q P} s hx hy f n=>.inr ⟨_,_,(hx.den s).deep f.1.1,(hy.den s).deep f.1.2.1,f.1.2.2,aG s n (.bl _) f.2⟩⟩
def vOf:D->V
 |.non=>.non
 |.bl b=>.bl b
 |.int i=>.int i
 |.str z=>.str z
 |_=>.non
def flD:D->Bool
 |.non=>true
 |.bl _=>true
 |.int _=>true
 |.str _=>true
 |_=>false
theorem Den.flat(h:Den K F v d)(f:flD d=true):v=vOf d/\gP v=true:=by
 cases h <;> first|exact⟨rfl,rfl⟩|exact(abP f).elim
theorem Dens.flat{v:List V}{d:List D}(h:Dens K F v d)(f:d.all flD=true):v=d.map vOf/\v.all gP=true:=by
 induction d generalizing v with
 |nil=>cases h;exact⟨rfl,rfl⟩
 | cons d ds ih=>
  cases h with
  | cons h t=>
   rw[aaO,abY] at f;obtain⟨h1,h2⟩:=h.flat f.1;obtain⟨h3,h4⟩:=ih t f.2;exact⟨by rw[abM,← h1,← h3],by rw[aaO,h2,h4];rfl⟩
theorem Acc.flat(h:Acc K F H v d)(f:flD d=true):v=vOf d/\gP v=true:=by
 cases h with
 |fz h=>exact h.flat f
 |lst _ _=>exact(abP f).elim
 |dct _ _ _=>exact(abP f).elim
 |dt _ _ _=>exact(abP f).elim
def inD(d:D)(ds:List D):Bool:=inV (vOf d) (ds.map vOf)
def pT(ks:List Key)(k:Key):Bool:=ks.any λ x=>decide (x=k)
def sJ(ks:List (List Key))(k:List Key):Bool:=ks.any λ x=>decide (x=k)
def iS:List D->Option (List Key)
 |[]=>some []
 | d::ds=>match lW d with
  | some k=>match iS ds with
   |some ks=>some (k::ks)
   |none=>none
  |none=>none
theorem xo(h:Dens K F xs ds)(e:iS ds=some k):xs=k.map kV:=by
 induction ds generalizing xs k with
 |nil=>cases h;cases e;rfl
 | cons d ds ih=>
  cases h with
  | cons h t=>
   unfold iS at e
   cases e1:lW d with
   |none=>rw[e1] at e;cases e
   | some a=>
    cases e2:iS ds with
    |none=>rw[e1,e2] at e;cases e
    | some b=>
     rw[e1,e2] at e;cases e;rw[abM,← ih t e2,dM (F:=F) (H:=F) (.fz h) e1]
theorem jM(s:Same F H)(h:Acc K F H v (.tup ds))(e:iS ds=some k):∃ b,v=.ref b/\H b=some (.tup (k.map kV)):=by
 obtain⟨b,xs,rfl,h1,h2⟩:=h.asTH s;exact⟨b,rfl,by rw[← xo h2 e];exact h1⟩
def bIn(d:D)(R:Bool->Prop):D->Prop
 | .str y=>(match d with
  | .str x=>(match x.cps.toList with
   |[c]=>R (decide (c∈y.cps.toList))
   |_=>False)
  |_=>False)
 |.lst ds=>(flD d=true/\ds.all flD=true)/\R (inD d ds)
 |.tup ds=>(flD d=true/\ds.all flD=true)/\R (inD d ds)
 | .dct ks _=>(match lW d with
  |some k=>R (pT ks k)
  |none=>False)
 |.gt ds=>(flD d=true/\ds.all flD=true)/\R (inD d ds)
 | .dt ks _=>(match d with
  | .tup kd=>(match iS kd with
   |some k=>R (sJ ks k)
   |none=>False)
  |_=>False)
 |_=>False
def aIn(d e:D)(P:OV->Prop):Prop:=bIn d (λ b=>P (.fz (.bl b))) e
def nF(d e:D)(P:OV->Prop):Prop:=bIn d (λ b=>P (.fz (.bl (!b)))) e
theorem Ax{c:Nat}(h:x.cps.toList=[c]):x=⟨#[c]⟩:=gZ h
theorem nG{k:Key}(h:ys.map (·.1)=ks):(gh ys k).isSome=pT ks k:=by
 rw[← gC,pT,← h,acd];rfl
theorem xp{ys:List (List Key×V)}{ks:List (List Key)}(h:ys.map (·.1)=ks):(gh ys k).isSome=sJ ks k:=by
 rw[← gC,sJ,← h,acd];rfl
theorem Ay{x y:V}{R:Bool->Prop}(s:Same F H)(hx:Acc K F H x d)(hy:Acc K F H y e)(f:bIn d R e)(n:∀ b,R b->Q (.bl b) H):Mu K x y H Q:=by
 cases e with
 | str z=>
  cases d with
  | str u=>
   unfold bIn at f;dsimp only at f;generalize hc:u.cps.toList=l at f
   cases l with
   |nil=>exact False.elim f
   | cons c r=>
    cases r with
    |nil=>exact .inl (.inl ⟨c,_,by rw[hx.str_eq,Ax hc],hy.str_eq,n _ f⟩)
    |cons=>exact False.elim f
  |_=>exact False.elim f
 | lst ds=>
  obtain⟨a,xs,rfl,h1,h2⟩:=hy.asL s;obtain⟨e1,e2⟩:=hx.flat f.1.1;obtain⟨e3,e4⟩:=h2.flat f.1.2;subst e1 e3;exact .inl (.inr ⟨a,_,rfl,.inl h1,e2,e4,n _ f.2⟩)
 | tup ds=>
  obtain⟨a,xs,rfl,h1,h2⟩:=hy.asT s;obtain⟨e1,e2⟩:=hx.flat f.1.1;obtain⟨e3,e4⟩:=h2.flat f.1.2;subst e1 e3;exact .inl (.inr ⟨a,_,rfl,.inr h1,e2,e4,n _ f.2⟩)
 | dct ks vs=>
  unfold bIn at f;dsimp only at f;generalize hk:lW d=l at f
  cases l with
  |none=>exact False.elim f
  | some k=>
   obtain⟨a,ys,rfl,h1,h2,h3⟩:=hy.asD s;refine .inr ⟨a,gh ys k,rfl,by rw[dM hx hk];exact DGet.kR h1,?_⟩;rw[nG h2];exact n _ f
 | gt ds=>
  obtain⟨a,xs,rfl,h1,h2⟩:=hy.asG s;obtain⟨e1,e2⟩:=hx.flat f.1.1;obtain⟨e3,e4⟩:=h2.flat f.1.2;subst e1 e3;exact .inl (.inr ⟨a,_,rfl,.inr h1,e2,e4,n _ f.2⟩)
 | dt ks vs=>
  cases d with
  | tup kd=>
   unfold bIn at f;dsimp only at f;generalize hk:iS kd=l at f
   cases l with
   |none=>exact False.elim f
   | some k=>
    obtain⟨a,ys,rfl,h1,h2,h3⟩:=hy.asDT s;obtain⟨b,rfl,h4⟩:=jM s hx hk;refine .inr ⟨a,gh ys k,rfl,.inr ⟨ys,k,b,h1,rfl,h4,rfl⟩,?_⟩;rw[xp h2];exact n _ f
  |_=>exact False.elim f
 |_=>exact False.elim f
theorem IU:OpF K (Mu K) aIn:=⟨λ s hx hy f n=>Ay s hx hy f λ _ q=>aG s n (.bl _) q⟩
theorem sK:OpF K (sG K) nF:=⟨by
 intro F H x y d e Q P s hx hy f n;have h:=Ay (Q:=λ v H'=>∀ b,v=.bl b->Q (.bl (!b)) H') s hx hy f λ b q c e=>by cases e;exact aG s n (.bl _) q
 obtain (⟨c,z,e1,e2,q⟩|⟨a,xs,e1,e2,e3,e4,q⟩)|⟨a,o,e1,e2,q⟩:=h
 ·exact .inl (.inl ⟨c,z,e1,e2,q _ rfl⟩)
 ·exact .inl (.inr ⟨a,xs,e1,e2,e3,e4,q _ rfl⟩)
 ·exact .inr ⟨a,o,e1,e2,q _ rfl⟩⟩
def gq(ks:List Key)(ds:List D)(k:Key):Option D:=((ks.zip ds).find? λ kd=>decide (kd.1=k)).map (·.2)
def iT(ks:List (List Key))(ds:List D)(k:List Key):Option D:=((ks.zip ds).find? λ kd=>decide (kd.1=k)).map (·.2)
def aIx:D->D->(OV->Prop)->Prop
 | .lst ds,.int i,P=>(match atI ds i with
  |some d=>P (.fz d)
  |none=>False)
 | .tup ds,.int i,P=>(match atI ds i with
  |some d=>P (.fz d)
  |none=>False)
 | .str z,.int i,P=>z.length<=sizeLine/\(match atI z.cps.toList i with
  |some c=>P (.fz (.str ⟨#[c]⟩))
  |none=>False)
 | .dct ks ds,k,P=>(match lW k with
  | some k=>(match gq ks ds k with
   |some d=>P (.fz d)
   |none=>False)
  |none=>False)
 | .dt ks ds,.tup kd,P=>(match iS kd with
  | some k=>(match iT ks ds k with
   |some d=>P (.fz d)
   |none=>False)
  |none=>False)
 |_,_,_=>False
theorem Dens.atI{i:Int}(h:Dens K F xs ds)(e:L2.atI ds i=some d):∃ x,L2.atI xs i=some x/\Den K F x d:=by
 unfold L2.atI at e ⊢;rw[h.length]
 cases q:ixN ds.length i with
 |none=>rw[q] at e;cases e
 |some j=>rw[q] at e;exact h.get e
theorem kY{κ:Type}[DecidableEq κ]{ys:List (κ×V)}{ks:List κ}{k:κ}(hk:ys.map (·.1)=ks)(h:Dens K F (ys.map (·.2)) ds)(e:((ks.zip ds).find? λ kd=>decide (kd.1=k)).map (·.2)=some d):∃ v,gh ys k=some v/\Den K F v d:=by
 subst hk
 induction ys generalizing ds with
 |nil=>simp at e
 | cons y ys ih=>
  cases h with
  | @cons _ d1 _ ds h1 h2=>
   by_cases hy:y.1=k
   ·rw[gA hy];simp only[List.map_cons,List.zip_cons_cons,List.find?_cons,hy,decide_true,Option.map_some,Option.some.injEq] at e;subst e;exact⟨y.2,rfl,h1⟩
   ·rw[gB hy];simp only[List.map_cons,List.zip_cons_cons,List.find?_cons,hy,decide_false] at e;exact ih h2 e
theorem jN{k:Key}(hk:ys.map (·.1)=ks)(h:Dens K F (ys.map (·.2)) ds)(e:gq ks ds k=some d):∃ v,gh ys k=some v/\Den K F v d:=kY hk h e
theorem sL{ys:List (List Key×V)}{ks:List (List Key)}(hk:ys.map (·.1)=ks)(h:Dens K F (ys.map (·.2)) ds)(e:iT ks ds k=some d):∃ v,gh ys k=some v/\Den K F v d:=kY hk h e
theorem IV:OpF K (Lr K) aIx:=⟨by
 intro F H x y d e Q P s hx hy f n
 cases d with
 | lst ds=>
  cases e with
  | int i=>
   unfold aIx at f;dsimp only at f
   cases hd:L2.atI ds i with
   |none=>rw[hd] at f;exact False.elim f
   | some d=>
    rw[hd] at f;obtain⟨a,xs,rfl,h1,h2⟩:=hx.asL s;obtain⟨v,h3,h4⟩:=h2.atI hd;exact .inl (.inl ⟨a,xs,_,v,rfl,hy.int_eq,h1,h3,aG s n h4 f⟩)
  |_=>exact False.elim f
 | tup ds=>
  cases e with
  | int i=>
   unfold aIx at f;dsimp only at f
   cases hd:L2.atI ds i with
   |none=>rw[hd] at f;exact False.elim f
   | some d=>
    rw[hd] at f;obtain⟨a,xs,rfl,h1,h2⟩:=hx.asT s;obtain⟨v,h3,h4⟩:=h2.atI hd;exact .inl (.inr (.inl ⟨a,xs,_,v,rfl,hy.int_eq,h1,h3,aG s n h4 f⟩))
  |_=>exact False.elim f
 | str z=>
  cases e with
  | int i=>
   obtain⟨f1,f⟩:=f
   cases hc:L2.atI z.cps.toList i with
   |none=>rw[hc] at f;exact False.elim f
   | some c=>
    rw[hc] at f;exact .inl (.inr (.inr ⟨_,_,c,hx.str_eq,hy.int_eq,f1,hc,aG s n (.str _) f⟩))
  |_=>exact False.elim f
 | dct ks ds=>
  unfold aIx at f;dsimp only at f
  cases hk:lW e with
  |none=>rw [hk] at f;exact False.elim f
  | some k=>
   rw[hk] at f;dsimp only at f
   cases hd:gq ks ds k with
   |none=>rw[hd] at f;exact False.elim f
   | some d=>
    rw[hd] at f;obtain⟨a,ys,rfl,h1,h2,h3⟩:=hx.asD s;obtain⟨v,h4,h5⟩:=jN h2 h3 hd;exact .inr ⟨a,v,rfl,by rw[dM hy hk,← h4];exact DGet.kR h1,aG s n h5 f⟩
 | dt ks ds=>
  cases e with
  | tup kd=>
   unfold aIx at f;dsimp only at f
   cases hk:iS kd with
   |none=>rw[hk] at f;exact False.elim f
   | some k=>
    rw[hk] at f;dsimp only at f
    cases hd:iT ks ds k with
    |none=>rw[hd] at f;exact False.elim f
    | some d=>
     rw[hd] at f;obtain⟨a,ys,rfl,h1,h2,h3⟩:=hx.asDT s;obtain⟨b,rfl,h6⟩:=jM s hy hk;obtain⟨v,h4,h5⟩:=sL h2 h3 hd;exact .inr ⟨a,v,rfl,.inr ⟨ys,k,b,h1,rfl,h6,h4.symm⟩,aG s n h5 f⟩
  |_=>exact False.elim f
 |_=>exact False.elim f⟩
def nH(n:Nat)(lo hi:Option Int):Prop:=¬ (HT.sIx n 0 lo=0/\HT.sIx n n hi=n)
def jO(z:Str)(lo hi:Option Int):Str:=⟨(g0 z.cps.toList lo hi).toArray⟩
def aSl:D->Option Int->Option Int->(OV->Prop)->Prop
 |.str z,lo,hi,P=>z.length<=sizeLine/\P (.fz (.str (jO z lo hi)))
 |.lst ds,lo,hi,P=>P (.fl (g0 ds lo hi))
 |.tup ds,lo,hi,P=>nH ds.length lo hi/\P (.fz (.tup (g0 ds lo hi)))
 |_,_,_,_=>False
theorem Dens.cut{lo hi:Option Int}(h:Dens K F xs ds):Dens K F (g0 xs lo hi) (g0 ds lo hi):=by
 unfold g0;rw[h.length];exact(h.drop _).take _
theorem jP:SlF K (Hg K) aSl:=⟨by
 intro F H x d lo hi Q P s hx f n
 cases d with
 | str z=>
  refine .inl ⟨_,hx.str_eq,f.1,λ y hy=>?_⟩;have e:y=jO z lo hi:=gZ (hy.trans (by simp[jO]));rw[e];exact aG s n (.str _) f.2
 | lst ds=>
  obtain⟨a,xs,rfl,h1,h2⟩:=hx.asL s;exact .inr (.inl ⟨a,xs,rfl,h1,cQ s n h2.cut f⟩)
 | tup ds=>
  obtain⟨a,xs,rfl,h1,h2⟩:=hx.asT s;exact .inr (.inr ⟨a,xs,rfl,h1,by rw[h2.length];exact f.1,jL s n h2.cut f.2⟩)
 |_=>exact False.elim f⟩
def eX:List D->(OV->Prop)->Prop
 |[.str z],P=>z.length<=sizeLine/\P (.fz (.int z.length))
 |[.lst ds],P=>P (.fz (.int ds.length))
 |[.tup ds],P=>P (.fz (.int ds.length))
 |[.dct ks _],P=>P (.fz (.int ks.length))
 |_,_=>False
theorem IW:CallF K (Gg K) eX:=⟨by
 intro F H xs ds Q P s ha f n
 cases ds with
 |nil=>exact False.elim f
 | cons d tl=>
 cases d with
 | str z=>
  cases tl with
  |cons _ _=>exact False.elim f
  | nil=>
  obtain⟨x,rfl,a⟩:=b8 ha;exact .inl ⟨_,by rw[a.str_eq],f.1,aG s n (.int _) f.2⟩
 | lst ds=>
  cases tl with
  |cons _ _=>exact False.elim f
  | nil=>
  obtain⟨x,rfl,a⟩:=b8 ha;obtain⟨p,ys,rfl,h1,h2⟩:=a.asL s;exact .inr (.inl ⟨p,ys,rfl,.inl h1,by rw[h2.length];exact aG s n (.int _) f⟩)
 | tup ds=>
  cases tl with
  |cons _ _=>exact False.elim f
  | nil=>
  obtain⟨x,rfl,a⟩:=b8 ha;obtain⟨p,ys,rfl,h1,h2⟩:=a.asT s;exact .inr (.inl ⟨p,ys,rfl,.inr h1,by rw[h2.length];exact aG s n (.int _) f⟩)
 | dct ks es=>
  cases tl with
  |cons _ _=>exact False.elim f
  | nil=>
  obtain⟨x,rfl,a⟩:=b8 ha;obtain⟨p,ys,rfl,h1,h2,h3⟩:=a.asD s;subst h2;have f:P (.fz (.int (ys.map (·.1)).length)):=f;rw[abK] at f;exact .inr (.inr ⟨p,ys,rfl,h1,aG s n (.int _) f⟩)
 |_=>exact False.elim f⟩
def Ls:List D->(OV->Prop)->Prop
 |[.int i,.int j],P=>P (.fz (.int (if j > i then j else i)))
 |_,_=>False
def NH:List D->(OV->Prop)->Prop
 |[.int i,.int j],P=>P (.fz (.int (if j<i then j else i)))
 |_,_=>False
theorem IX:CallF K Ma Ls:=⟨by
 intro F H xs ds Q P s ha f n
 cases ds with
 |nil=>exact False.elim f
 | cons d tl=>
 cases d with
 | int i=>
  cases tl with
  |nil=>exact False.elim f
  | cons e tl=>
  cases e with
  | int j=>
   cases tl with
   |cons _ _=>exact False.elim f
   | nil=>
   obtain⟨x,y,rfl,a,b⟩:=nu ha;exact⟨_,_,by rw[a.int_eq,b.int_eq],aG s n (.int _) f⟩
  |_=>exact False.elim f
 |_=>exact False.elim f⟩
theorem IY:CallF K Mb NH:=⟨by
 intro F H xs ds Q P s ha f n
 cases ds with
 |nil=>exact False.elim f
 | cons d tl=>
 cases d with
 | int i=>
  cases tl with
  |nil=>exact False.elim f
  | cons e tl=>
  cases e with
  | int j=>
   cases tl with
   |cons _ _=>exact False.elim f
   | nil=>
   obtain⟨x,y,rfl,a,b⟩:=nu ha;exact⟨_,_,by rw[a.int_eq,b.int_eq],aG s n (.int _) f⟩
  |_=>exact False.elim f
 |_=>exact False.elim f⟩
def cIs:List D->(OV->Prop)->Prop
 |[d,.ty T],P=>(DF (tyD d)=true/\DF T=true)/\P (.fz (.bl (isT (tyD d) T)))
 |_,_=>False
theorem Mx:CallF K (Mv K) cIs:=⟨by
 intro F H xs ds Q P s ha f n
 cases ds with
 |nil=>exact False.elim f
 | cons d ds=>
 cases ds with
 |nil=>exact False.elim f
 | cons e ds=>
 cases e with
 | ty T=>
  cases ds with
  |cons _ _=>exact False.elim f
  | nil=>
  obtain⟨x,y,rfl,a,b⟩:=nu ha;exact⟨x,_,_,by rw[b.ty_eq],a.den s,f.1.1,f.1.2,aG s n (.bl _) f.2⟩
 |_=>exact False.elim f⟩
def gy:List D->Option (List Bool)
 |[]=>some []
 |.bl b::ds=>(gy ds).map (b::·)
 |_::_=>none
theorem jQ:∀ {ds:List D} {bs:List Bool},gy ds=some bs->ds=bs.map .bl
 |[],_,h=>by simp only[gy,Option.some.injEq] at h;subst h;rfl
 | d::ds,bs,h=>by
  cases d <;> simp[gy] at h;obtain⟨cs,h1,rfl⟩:=h;rw[jQ h1];rfl
theorem kZ:∀ bs:List Bool,gy (bs.map .bl)=some bs
 |[]=>rfl
 |b::bs=>by rw[abM,gy,kZ bs];rfl
def xq:List D->(OV->Prop)->Prop
 | [.lst ds],P=>(match gy ds with
  |some bs=>P (.fz (.bl (bs.all id)))
  |none=>False)
 |_,_=>False
def Lu:List D->(OV->Prop)->Prop
 | [.lst ds],P=>(match gy ds with
  |some bs=>P (.fz (.bl (bs.any id)))
  |none=>False)
 |_,_=>False
theorem IZ:CallF K (Lk K) xq:=⟨by
 intro F H xs ds Q P s ha f n
 cases ds with
 |nil=>exact False.elim f
 | cons d tl=>
 cases d with
 | lst ds=>
  cases tl with
  |cons _ _=>exact False.elim f
  | nil=>
  obtain⟨x,rfl,a⟩:=b8 ha;obtain⟨p,ys,rfl,h1,h2⟩:=a.asL s;unfold xq at f;dsimp only at f
  cases hb:gy ds with
  |none=>rw [hb] at f;exact False.elim f
  | some bs=>
   rw[hb] at f;rw[jQ hb] at h2;exact⟨p,bs,rfl,by rw[← h2.bls_eq];exact h1,aG s n (.bl _) f⟩
 |_=>exact False.elim f⟩
theorem I0:CallF K (Ll K) Lu:=⟨by
 intro F H xs ds Q P s ha f n
 cases ds with
 |nil=>exact False.elim f
 | cons d tl=>
 cases d with
 | lst ds=>
  cases tl with
  |cons _ _=>exact False.elim f
  | nil=>
  obtain⟨x,rfl,a⟩:=b8 ha;obtain⟨p,ys,rfl,h1,h2⟩:=a.asL s;unfold Lu at f;dsimp only at f
  cases hb:gy ds with
  |none=>rw [hb] at f;exact False.elim f
  | some bs=>
   rw[hb] at f;rw[jQ hb] at h2;exact⟨p,bs,rfl,by rw[← h2.bls_eq];exact h1,aG s n (.bl _) f⟩
 |_=>exact False.elim f⟩
def xt:Key->D
 |.inl i=>.int i
 |.inr z=>.str z
theorem fj{F:Hp}:∀ (ks:List Key),Dens K F (ks.map kV) (ks.map xt)
 |[]=>.nil
 |.inl i::ks=>.cons (.int i) (fj ks)
 |.inr z::ks=>.cons (.str z) (fj ks)
def I8:List D->(OV->Prop)->Prop
 |[.lst ds],P=>P (.fl ds)
 |[.tup ds],P=>P (.fl ds)
 |[.dct ks _],P=>P (.fl (ks.map xt))
 |_,_=>False
theorem DP:CallF K (se K) I8:=⟨by
 intro F H xs ds Q P s ha f n
 cases ds with
 |nil=>exact False.elim f
 | cons d tl=>
 cases d with
 | lst ds=>
  cases tl with
  |cons _ _=>exact False.elim f
  | nil=>
  obtain⟨x,rfl,a⟩:=b8 ha;obtain⟨p,ys,rfl,h1,h2⟩:=a.asL s;exact sh h1 (cQ s n h2 f)
 | tup ds=>
  cases tl with
  |cons _ _=>exact False.elim f
  | nil=>
  obtain⟨x,rfl,a⟩:=b8 ha;obtain⟨p,ys,rfl,h1,h2⟩:=a.asT s;exact si h1 (cQ s n h2 f)
 | dct ks es=>
  cases tl with
  |cons _ _=>exact False.elim f
  | nil=>
  obtain⟨x,rfl,a⟩:=b8 ha;obtain⟨p,ys,rfl,h1,h2,h3⟩:=a.asD s;refine pJ h1 (cQ s n ?_ f);have e:(ys.map λ kv=>kV kv.1)=(ys.map (·.1)).map kV:=by rw[aav];rfl
  rw[e,h2];exact fj _
 |_=>exact False.elim f⟩
def Az:List D->(OV->Prop)->Prop
 |[.lst ds],P=>P (.fz (.tup ds))
 |[.tup ds],P=>P (.fz (.tup ds))
 |_,_=>False
theorem xu:CallF K (sg K) Az:=⟨by
 intro F H xs ds Q P s ha f n
 cases ds with
 |nil=>exact False.elim f
 | cons d tl=>
 cases d with
 | lst ds=>
  cases tl with
  |cons _ _=>exact False.elim f
  | nil=>
  obtain⟨x,rfl,a⟩:=b8 ha;obtain⟨p,ys,rfl,h1,h2⟩:=a.asL s;exact pK h1 (jL s n h2 f)
 | tup ds=>
  cases tl with
  |cons _ _=>exact False.elim f
  | nil=>
  obtain⟨x,rfl,a⟩:=b8 ha;have a':=a;obtain⟨p,ys,rfl,h1,h2⟩:=a.asT s;refine⟨p,ys,rfl,.inr ⟨h1,?_⟩⟩
  cases a' with
  |fz h=>exact aG s n h f
 |_=>exact False.elim f⟩
def c7:List D->Option (List Str)
 |[]=>some []
 |.str z::ds=>(c7 ds).map (z::·)
 |_::_=>none
theorem dP:∀ {ds:List D} {zs:List Str},c7 ds=some zs->ds=zs.map .str
 |[],_,h=>by simp only[c7,Option.some.injEq] at h;subst h;rfl
 | d::ds,bs,h=>by
  cases d <;> simp[c7] at h;obtain⟨cs,h1,rfl⟩:=h;rw[dP h1];rfl
theorem jd:∀ zs:List Str,c7 (zs.map .str)=some zs
 |[]=>rfl
 |b::bs=>by rw[abM,c7,jd bs];rfl
def dm:List Key->Option (List Str)
 |[]=>some []
 |.inr z::ks=>(dm ks).map (z::·)
 |.inl _::_=>none
theorem je:∀ {ds:List Key} {zs:List Str},dm ds=some zs->ds=zs.map Sum.inr
 |[],_,h=>by simp only[dm,Option.some.injEq] at h;subst h;rfl
 | d::ds,bs,h=>by
  cases d <;> simp[dm] at h;obtain⟨cs,h1,rfl⟩:=h;rw[je h1];rfl
theorem im:∀ zs:List Str,dm (zs.map Sum.inr)=some zs
 |[]=>rfl
 |b::bs=>by rw[abM,dm,im bs];rfl
def xv:List D->(OV->Prop)->Prop
 | [.lst ds],P=>(match c7 ds with
  |some zs=>zs.length<64/\P (.fl ((c6 zs).map .str))
  |none=>False)
 | [.dct ks _],P=>(match dm ks with
  |some zs=>zs.length<64/\P (.fl ((c6 zs).map .str))
  |none=>False)
 |_,_=>False
def sM(P:Program)(w:World)(K:Frag):List V->Hp->VK->Prop:=λ xs H Q=>sd P w K xs H Q∨∃ p kvs zs,xs=[.ref p]/\Rd H p (.dK kvs)/\kvs.map (·.1)=zs.map Sum.inr/\kvs.length<64/\∀ q ss,H q=none->ss.Perm zs->sortedS ss=true->Q (.ref q) (upd H q (.lst (ss.map .str)))
theorem sN{P:Program}:CallF K (sM P w K) xv:=⟨by
 intro F H xs ds Q Pq s ha f n
 cases ds with
 |nil=>exact False.elim f
 | cons d tl=>
 cases d with
 | lst ds=>
  cases tl with
  |cons _ _=>exact False.elim f
  | nil=>
  obtain⟨x,rfl,a⟩:=b8 ha;obtain⟨p,ys,rfl,h1,h2⟩:=a.asL s;unfold xv at f;dsimp only at f
  cases hz:c7 ds with
  |none=>rw [hz] at f;exact False.elim f
  | some zs=>
   rw[hz] at f;rw[dP hz] at h2;rw[h2.strs_eq] at h1;refine .inl ⟨p,zs,rfl,.inr h1,f.1,λ q ss hq hp hs=>?_⟩;rw[gp hp hs];exact cQ s n (Dens.strs _) f.2 q hq
 | dct ks es=>
  cases tl with
  |cons _ _=>exact False.elim f
  | nil=>
  obtain⟨x,rfl,a⟩:=b8 ha;obtain⟨p,ys,rfl,h1,h2,h3⟩:=a.asD s;unfold xv at f;dsimp only at f
  cases hz:dm ks with
  |none=>rw [hz] at f;exact False.elim f
  | some zs=>
   rw[hz] at f;rw[je hz] at h2;have hl:ys.length=zs.length:=by have:=congrArg List.length h2;rwa [abK,abK] at this
   refine .inr ⟨p,ys,zs,rfl,h1,h2,by rw[hl];exact f.1,λ q ss hq hp hs=>?_⟩;rw[gp hp hs];exact cQ s n (Dens.strs _) f.2 q hq
 |_=>exact False.elim f⟩
def My:List D->(OV->Prop)->Prop
 | [.str z],P=>(match z.cps.toList with
  |[c]=>P (.fz (.int c))
  |_=>False)
 |_,_=>False
theorem I9:CallF K NG My:=⟨by
 intro F H xs ds Q P s ha f n;unfold My at f;split at f
 ·split at f
  ·rename_i c hc;obtain⟨x,rfl,a⟩:=b8 ha;exact⟨c,by rw[a.str_eq,Ax hc],aG s n (.int _) f⟩
  ·exact f.elim
 ·exact f.elim⟩
def k6(zs:List Str):List Str:=zs.foldl (λ acc z=>KS.dedup1 acc z) []
theorem fU:∀ (zs acc:List Str),acc.Nodup->(zs.foldl (λ acc z=>KS.dedup1 acc z) acc).Nodup/\∀ k,k∈zs.foldl (λ acc z=>KS.dedup1 acc z) acc↔k∈acc∨k∈zs
 |[],acc,h=>⟨h,λ k=>by simp⟩
 | z::zs,acc,h=>by
  obtain⟨h1,h2⟩:=fU zs (KS.dedup1 acc z) (kP h);refine⟨h1,λ k=>?_⟩;rw[List.foldl_cons,h2 k,pL,abQ];constructor
  ·rintro ((a|a)|a)
   ·exact .inl a
   ·exact .inr (.inl a)
   ·exact .inr (.inr a)
  ·rintro (a|a|a)
   ·exact .inl (.inl a)
   ·exact .inl (.inr a)
   ·exact .inr a
theorem gr(zs:List Str):(k6 zs).Nodup:=(fU zs [] aaB).1
theorem jf{k:Str}:k∈k6 zs↔k∈zs:=by
 have:=(fU zs [] aaB).2 k;simpa [k6] using this
def iU(zs:List Str):List Str:=c6 (k6 zs)
theorem gF{k:Str}:k∈iU zs↔k∈zs:=by rw[iU,(aT _).mem_iff,jf]
theorem fV(zs:List Str):(iU zs).Nodup:=(aT _).nodup_iff.mpr (gr zs)
theorem mx(zs:List Str):(iU zs).Pairwise λ a b=>cO a b=true:=cq _
theorem eP{a b:List Str}(ha:a.Nodup)(hb:b.Nodup)(h:∀ k,k∈a↔k∈b):a.Perm b:=(List.perm_ext_iff_of_nodup ha hb).mpr h
theorem eQ(hn:ss.Nodup)(hm:∀ k,k∈ss↔k∈zs)(hs:ss.Pairwise λ a b=>cO a b=true):ss=iU zs:=
 il (eP hn (gr zs) λ k=>(hm k).trans jf.symm) hs
def gG(fe:FE):FE:=λ ρ Q=>fe ρ λ r ρ1=>on1 ρ1 r λ d=>match d with
 | .lst ds=>(match c7 ds with
  |some zs=>(zs.length+1<scanBound/\(iU zs).length<64)/\Q (.ov (.fl ((iU zs).map .str))) ρ1
  |none=>False)
 |_=>False
theorem pU{P:Program}(he:EF K μ te fe):EF K μ (tCB (sM P w K) (cZ (tCB (Lo P w K) (cZ te iN)) iN)) (gG fe):=⟨by
 intro F Z H τ σ ρ A Q Pq vw R h q;refine he.h vw R h λ r ρ1 v F1 H1 A1 B1 h1 s1 R1 v1 f1=>?_;obtain⟨d,e1,h2⟩:=bP h1;split at h2
 ·split at h2
  ·rename_i zs hz;obtain⟨p,ys,rfl,a1,a2⟩:=(R1.acc v1 e1).asL R1.fh;rw[dP hz] at a2;rw[a2.strs_eq] at a1;refine⟨p,zs,rfl,a1,h2.1.1,λ l τs hl hm hn _=>?_⟩;refine .inl ⟨l,τs,rfl,.inl ae,?_,λ l2 ss hl2 hp hs=>?_⟩
   ·have hp:τs.Perm (iU zs):=eP hn (fV zs) λ k=>(hm k).trans gF.symm;rw[hp.length_eq];exact h2.1.2
   ·have e:ss=iU zs:=eQ (hp.nodup_iff.mpr hn) (λ k=>(hp.mem_iff).trans (hm k)) (cB ss hs);subst e;have pu:=(Pure.new (o:=HW P w l τs) R1.fh hl).trans (Pure.new (p:=l2) (o:=.lst ((iU zs).map .str)) (R1.fh.trans (bp hl)) hl2);have hl2':H1 l2=none:=(bp hl).free hl2;exact R1.after (P:=λ o=>Pq (.ov o) ρ1) (λ o v F3 H3 B p s3 R3 ow fr=>q _ _ _ _ _ _ _ p (s1.trans s3) R3 ow fr) _ _ F1 _ [l2] h2.2 pu (.fl ae (Dens.strs _)) (New.one hl2' (R1.fh.free hl2'))
  ·exact h2.elim
 ·exact h2.elim⟩
end
end L2
namespace KS
open PySem PySem.Spec PyProof.Rows
section
variable {prog:Program} {w:World} {A:Around} {E:Value->Shared->Prop} {s:Shared}
end
end KS
namespace L2
open PySem PySem.Spec PyProof.Rows
section
variable {X:Cx}
end
section
variable {K:Frag} {μ:List Nat}
end
end L2
namespace L2
open PySem PySem.Spec PyProof.Rows PySem.W
variable{n:Nat}{p:Array Nat}{prog:Program}{w:World}{A:Around}{s:Shared}
def Good(n:Nat){α:Type}(Post:α->Prop):KasT α->Prop
 |.ret a=>Post a
 |.ask i j k=>i<n/\j<n/\∀ b,Good n Post (k b)
theorem Good.bind{n:Nat}{α β:Type}{Post:α->Prop}{Post':β->Prop}{f:α->KasT β}:∀ {t:KasT α},Good n Post t->(∀ a,Post a->Good n Post' (f a))->Good n Post' (t.bind f)
 |.ret a,h,k=>k a h
 |.ask i j g,h,k=>⟨h.1,h.2.1,λ b=>Good.bind (h.2.2 b) k⟩
theorem Good.run{n:Nat}{α:Type}{Post:α->Prop}{cmp:Nat->Nat->(Bool->Shared->Prop)->Shared->Prop}{G:α->Shared->Prop}{s:Shared}(hc:∀ i j C,i<n->j<n->(∀ b,C b s)->cmp i j C s):∀ {t:KasT α},Good n Post t->(∀ a,Post a->G a s)->t.kasWp cmp G s
 |.ret a,h,k=>k a h
 |.ask i j g,h,k=>hc i j _ h.1 h.2.1 λ b=>Good.run hc (h.2.2 b) k
def IsPerm(n:Nat)(p:Array Nat):Prop:=p.toList.Perm (List.range n)
theorem IsPerm.lt(h:IsPerm n p)(hn:0<n)(i:Nat):p.getD i 0<n:=by
 by_cases hi:i<p.size
 ·have e:p.getD i 0=p[i]:=by simp[Array.getD,hi]
  rw[e];have:p[i]∈p.toList:=by simp
  exact ab2.mp (h.mem_iff.mp this)
 ·have e:p.getD i 0=0:=by simp[Array.getD,hi]
  rw[e];exact hn
theorem IsPerm.rev(h:IsPerm n p)(i j:Nat):IsPerm n (kas_rev p i j):=(Array.perm_iff_toList_perm.mp (mirror_perm p i j ((j - i) / 2))).trans h
theorem IsPerm.bubble(h:IsPerm n p)(i j:Nat):IsPerm n (PyProof.Rows.bubble p i j):=(Array.perm_iff_toList_perm.mp (bubble_perm p i j)).trans h
theorem jR{n:Nat}(hn:0<n){p:Array Nat}(h:IsPerm n p):∀ (f k:Nat),Good n (λ _=>True) (kas_asc p f k)
 |0,k=>trivial
 | f+1,k=>⟨h.lt hn _,h.lt hn _,λ b=>by
  cases b with
  |true=>exact trivial
  |false=>exact jR hn h f (k+1)⟩
theorem fq{n:Nat}(hn:0<n):∀ (f:Nat) (p:Array Nat) (k q:Nat),IsPerm n p->Good n (λ r=>IsPerm n r.1) (kas_desc f p k q)
 |0,p,k,q,h=>h
 | f+1,p,k,q,h=>⟨h.lt hn _,h.lt hn _,λ b=>by
  cases b with
  | true=>
   dsimp only;rw[if_pos rfl];split
   ·exact fq hn f _ _ _ (h.rev _ _)
   ·exact fq hn f _ _ _ h
  | false=>
   dsimp only;rw[if_neg Bool.false_ne_true]
   exact⟨h.lt hn _,h.lt hn _,λ d=>by
    cases d with
    |true=>dsimp only;rw[if_pos rfl];exact h
    |false=>dsimp only;rw[if_neg Bool.false_ne_true];exact fq hn f _ _ _ h⟩⟩
theorem k7(hn:0<n)(h:IsPerm n p)(a b:Nat):Good n (λ r=>IsPerm n r.2) (kas_tail3 a b p):=(jR hn (h.rev 0 a) _ _).bind λ m _=>h.rev 0 a
theorem fu(hn:0<n)(h:IsPerm n p)(a b:Nat):Good n (λ r=>IsPerm n r.2) (kas_descPart a b p):=(fq hn _ _ _ _ h).bind λ r hr=>by
 split
 ·exact k7 hn (hr.rev _ _) _ _
 ·exact k7 hn hr _ _
theorem pV(hn:0<n)(h:IsPerm n p)(b:Nat):Good n (λ r=>IsPerm n r.2) (kas_count b p):=(jR hn h _ _).bind λ r _=>by
 split
 ·exact h
 ·split
  ·exact⟨h.lt hn _,h.lt hn _,λ c=>by
    cases c with
    |true=>dsimp only;rw[if_pos rfl];exact h
    |false=>dsimp only;rw[if_neg Bool.false_ne_true];exact fu hn (h.rev _ _) _ _⟩
  ·exact fu hn h _ _
theorem fW{n:Nat}(hn:0<n){p:Array Nat}(h:IsPerm n p)(k:Nat):∀ (f l r:Nat),Good n (λ _=>True) (kas_place p k f l r)
 |0,l,r=>trivial
 | f+1,l,r=>by
  unfold kas_place;split
  ·exact trivial
  ·exact⟨h.lt hn _,h.lt hn _,λ c=>by
    cases c with
    |true=>dsimp only;rw[if_pos rfl];exact fW hn h k f _ _
    |false=>dsimp only;rw[if_neg Bool.false_ne_true];exact fW hn h k f _ _⟩
theorem nI{n:Nat}(hn:0<n):∀ (f:Nat) (p:Array Nat) (k:Nat),IsPerm n p->Good n (IsPerm n) (kas_bin f p k)
 |0,p,k,h=>h
 |f+1,p,k,h=>(fW hn h k _ _ _).bind λ l _=>nI hn f _ _ (h.bubble _ _)
theorem sO(hn:0<n):Good n (IsPerm n) (kas_sort n):=(pV hn (show IsPerm n (List.toArray (List.range n)) from aaD _) n).bind λ r hr=>by
 split
 ·exact nI hn _ _ _ hr
 ·exact hr
section
variable    {E:Value->Shared->Prop} 
theorem pW{l:Addr}{vs:List Value}{Q:Value->Shared->Prop}(hl:s.heap.IsList l vs.toArray)(few:vs.length<2)(h:Q (.ref (s.heap.objs.size+1)) { s with heap:=sortedAll s.heap vs (pairsOf vs |>.map (·.2)) }) :
  wpAny (model prog w) A (call (.builtin "sorted") [.ref l]) Q E s:=by
 refine Calls.call_function_entry kind_sorted plain_sorted entry_sorted (args_sorted1 _) ?_;unfold Builtin.«sorted»;refine aaa (m:=checkCount "sorted" 1 1 _) (aae (aaa (collect_list hl (aaa (wpAny_newList ?_)))));have z1:((s.heap.push (seqObj "list" #[] 0)).update s.heap.objs.size (Obj.mapSeq (·++vs.toArray))).objs.size=s.heap.objs.size+1:=(Heap.size_update ..).trans (size_push' ..);have top:(((s.heap.push (seqObj "list" #[] 0)).update s.heap.objs.size (Obj.mapSeq (·++vs.toArray))).push (seqObj "list" vs.toArray 0)).get? (s.heap.objs.size+1)=some (seqObj "list" vs.toArray 0):=z1 ▸ Heap.get?_push_size _ rfl;show wpAny _ _ _ _ _ { s with heap:=((s.heap.push (seqObj "list" #[] 0)).update s.heap.objs.size (Obj.mapSeq (·++vs.toArray))).push (seqObj "list" vs.toArray 0) };rw[z1];refine aaa (aaI (aaC slot_list_sort ⟨_,top,rfl⟩ entry_list_sort ?_ (args_list_sort _)));generalize hG:((s.heap.push (seqObj "list" #[] 0)).update s.heap.objs.size (Obj.mapSeq (·++vs.toArray))).push (seqObj "list" vs.toArray 0)=G at top;generalize ha:s.heap.objs.size+1=a at top;have lt:a<G.objs.size:=aah top;rw[list_sort_plain];refine aaa (listItems_at (s:={ s with heap:=G }) top rfl (aaa (listUpdate_at (s:={ s with heap:=G }) top rfl ?_)));obtain⟨e1,o1⟩:∃ e1,(G.update a (Obj.mapSeq λ _=>#[])).get? a=some (seqObj "list" #[] e1):=⟨_,get?_update_seq top (λ _=>#[])⟩;refine aaa (seqEpoch_at (s:={ s with heap:=G.update a (Obj.mapSeq λ _=>#[]) }) o1 rfl (aaa (wpAny_newTuple (aaa (wpAny_newList (aaI ?_))))));have o6:(((G.update a (Obj.mapSeq λ _=>#[])).push (seqObj "tuple" vs.toArray 0)).push (seqObj "list" #[] 0)).get? a=some (seqObj "list" #[] e1):=Heap.get?_push_of_some _ (Heap.get?_push_of_some _ o1);show wpAny (model prog w) _ _ _ E { s with heap:=((G.update a (Obj.mapSeq λ _=>#[])).push (seqObj "tuple" vs.toArray 0)).push (seqObj "list" #[] 0) };have h2:vs.toArray.size<2:=(by exists few);dsimp only;rw[if_pos h2,if_pos h2];refine aaa (aae ?_);rw[StateT.run_pure];refine aaa (aae (aaa (seqEpoch_at o6 rfl (aaa (listUpdate_at o6 rfl ?_ (hsz2:=?_))))))
 ·simp only[bne_self_eq_false,Bool.false_eq_true,if_false];refine aae ⟨_,rfl,aae ⟨_,rfl,?_⟩⟩;subst ha;have e:sortedAll s.heap vs (pairsOf vs |>.map (·.2))=sortedHeap G (s.heap.objs.size+1) vs (pairsOf vs |>.map (·.2)):=by rw[← hG];rfl
  rw[e] at h;exact h
 ·rw[Array.size_map];show (pairsOf vs).size<=_;rw[pairsOf_size,sizeLine_eq];nofun
end
section
variable     {C:Bool->Shared->Prop} {bb fn:Bool}
theorem nJ(hC:∀ b,C b s):∀ (l:List Value) (i:Nat),KatLex prog w A bb fn C (l.zip l) i s
 |[],i=>kat_nil (hC _)
 |v::l,i=>kat_cons (abI v prog w _ _ (kat_yes (nJ hC l (i+1))))
theorem sP(hC:∀ b,C b s){a b:Str}{t u:Tok}{l:List (Value×Value)}(hne:a≠b):KatLex prog w A true fn C ((.str a t,.str b u)::l) 0 s:=by
 refine kat_cons (SeqAt.EqAt.str_str a t b u prog w _ _ ?_);rw[show (a==b)=false from beq_eq_false_iff_ne.mpr hne];refine kat_no ?_;exact oneLt_str (hC _)
end
theorem ObjOk.get{P:Program}{H:Hp}{h:Heap}{a:Addr}{o:HO}(x:ObjOk P w H h a o):∃ u,h.get? a=some u:=by
 cases o with
 |lst xs=>obtain⟨_,_,_,_,e⟩:=x;exact⟨_,e⟩
 |tup xs=>obtain⟨_,_,_,_,e,_⟩:=x;exact⟨_,e⟩
 |dK kvs=>obtain⟨_,_,_,_,o,_,_,e,_⟩:=x;exact⟨_,e⟩
 |dT kvs=>obtain⟨_,_,_,_,o,_,_,e,_⟩:=x;exact⟨_,e⟩
 |set S n=>obtain⟨o,_,_,_,e,_⟩:=x;exact⟨_,e⟩
 |ins C dx fs=>obtain⟨_,_,_,e,_⟩:=x;exact⟨_,e⟩
 |own y=>obtain⟨_,e⟩:=x;exact⟨_,e⟩
 |xd fs=>obtain⟨_,⟨_,_,_,e,_⟩,_⟩:=x;exact⟨_,e⟩
 |rng lo hi=>obtain⟨_,_,_,e⟩:=x;exact⟨_,e⟩
 |frz ob u=>obtain⟨e,_⟩:=x;exact⟨_,e⟩
 |tbl ps=>exact⟨_,(show h.get? a=some _ from x)⟩
 |met f y=>exact⟨_,(show h.get? a=some _ from x)⟩
 |ext φ=>obtain⟨_,⟨_,e⟩,_⟩:=x;exact⟨_,e⟩
section
variable {X:Cx}
def AA(K:Frag):List V->Hp->VK->Prop:=λ xs H Q=>∃ (p:Addr) (rows:List (Addr×Str×List V)),xs=[.ref p]/\SqL K H p (rows.map λ r=>.ref r.1)/\(∀ r∈rows,SqT K H r.1 (.str r.2.1::r.2.2))/\(rows.map (·.2.1)).Nodup/\rows.length<64 /\
 ∀ (q:Addr) (rows':List (Addr×Str×List V)),H q=none->rows'.Perm rows->Q (.ref q) (upd H q (.lst (rows'.map λ r=>.ref r.1)))
theorem k9:∀ {rows:List (Addr×Str×List V)} {us:List Value},Vals (rows.map λ r=>V.ref r.1) us->us=rows.map λ r=>.ref r.1
 |[],_,.nil=>rfl
 |r::rows,_,.cons h t=>by rw[abM,k9 t,show _=Value.ref r.1 from h]
theorem io:∀ (rows:List (Addr×Str×List V)),Vals (rows.map λ r=>V.ref r.1) (rows.map λ r=>.ref r.1)
 |[]=>.nil
 |r::rows=>.cons rfl (io rows)
theorem dH{α:Type}(d:α)(xs:List α){l:List Nat}(h:l.Perm (List.range xs.length)):(l.map λ i=>xs.getD i d).Perm xs:=by
 refine(h.map _).trans ?_
 have e:(List.range xs.length).map (λ i=>xs.getD i d)=xs:=by
  apply List.ext_getElem?;intro i;rw[List.getElem?_map];by_cases hi:i<xs.length
  ·rw[List.getElem?_range hi];simp[hi]
  ·rw[List.getElem?_eq_none (by exists hi),List.getElem?_eq_none (by exists hi)];rfl
 rw[e]
theorem la:CallR X (.builtin "sorted") (AA X.K):=by
 intro pins s σ H xs us Q I r h;obtain⟨p,rows,rfl,hq,ht,hn,h64,q⟩:=h;obtain⟨u,rfl,rx⟩:=dF r;cases rx;obtain⟨its,rv,pl,hz⟩:=I.list hq;have hits:=k9 rv;subst hits;have hlen:(rows.map λ r=>Value.ref r.1).length=rows.length:=abK ..;have hzr:rows.length<=sizeLine:=by rw[sizeLine_eq];nofun
 by_cases h2:rows.length<2
 ·refine pW pl.isList (by rw[hlen];exact h2) ?_
  have e0:(pairsOf (rows.map λ r=>Value.ref r.1) |>.map (·.2))=(rows.map λ r=>Value.ref r.1).toArray:=by
   apply Array.toList_inj.mp;rw[Array.toList_map,pairsOf_toList,List.map_snd_zip (aac _)]
  rw[e0];obtain⟨e,he⟩:=sortedAll_at s.heap (rows.map λ r=>Value.ref r.1) (rows.map λ r=>Value.ref r.1).toArray;exact⟨.ref (s.heap.objs.size+1),_,I.laid (t':=s.toks) (o:=.lst (rows.map λ r=>.ref r.1)) (λ b o e=>sortedAll_old e) (aaX _) ⟨by rw[abK];exact hzr,_,e,io rows,he⟩,rfl,q _ rows (I.hok.fresh (aaX _)) (.refl _)⟩
 ·obtain⟨m,hns,_⟩:=I.loc
  -- the tuples as they stand
  have tup:∀ r∈rows,∃ (o:Obj) (t:Tok) (vs:List Value) (n:Nat),s.heap.get? r.1=some o/\o.cls=.type "tuple" /\ o.data=.seq (Value.str r.2.1 t::vs).toArray n/\r.1≠X.env.locals:=λ r hr=>by
   obtain⟨its,rv,⟨o,ho,hc,n,hd⟩,_⟩:=I.tuple (ht r hr)
   cases rv with
   | cons r1 r2=>
    obtain⟨t,rfl⟩:=r1;refine⟨o,t,_,n,ho,hc,hd,λ z=>?_⟩;obtain⟨o',es,ep,ho',hd',_⟩:=hns;rw[← z,ho] at ho';cases ho';rw[hd] at hd';cases hd'
  refine kat_sorted (Att.fr_all hns) vM pl.isList (by rw[hlen];nofun) (by rw[hlen];exact h64) λ D e1 h' F' N' hlt=>?_;have kept:∀ b o,b≠X.env.locals->s.heap.get? b=some o->h'.get? b=some o:=λ b o hb e=>(N' (b,o) (aad _ (eJ hb (Att.noObjs_get _ _) e))).1;have nD:∀ b o,b≠X.env.locals->s.heap.get? b=some o->b<D:=λ b o hb e=>hlt (b,o) (eJ hb (Att.noObjs_get _ _) e);have hDL:D≠X.env.locals:=(N' _ (aab ..)).2.1
  have tup':∀ r∈rows,∃ (o:Obj) (t:Tok) (vs:List Value) (n:Nat),h'.get? r.1=some o/\o.cls=.type "tuple" /\ o.data=.seq (Value.str r.2.1 t::vs).toArray n:=λ r hr=>by
   obtain⟨o,t,vs,n,h1,h2,h3,h4⟩:=tup r hr;exact⟨o,t,vs,n,kept _ _ h4 h1,h2,h3⟩
  obtain⟨fs,hkt,hfl,hfs⟩:∃ fs,KatTups h' (rows.map λ r=>Value.ref r.1) fs/\fs.length=rows.length/\∀ v∈fs,∃ x t,v=Value.str x t:=by
   clear hq hn h64 q rv pl hz hlen hzr h2 N' F' kept nD tup ht
   induction rows with
   |nil=>exact⟨[],KatTups.nil,rfl,λ _ z=>nomatch z⟩
   | cons r rows ih=>
    obtain⟨o,t,vs,n,h1,h2,h3⟩:=tup' r (aab ..);obtain⟨fs,k1,k2,k3⟩:=ih λ r hr=>tup' r (aad _ hr);refine⟨.str r.2.1 t::fs,KatTups.cons h1 h2 h3 rfl k1,by rw[abO,abO,k2],λ v hv=>?_⟩;rcases abQ.mp hv with rfl|hv
    ·exact⟨_,_,rfl⟩
    ·exact k3 v hv
  refine kat_kind (s:={ s with heap:=h' }) (T:=.type "str") hkt (by nofun) (λ v hv=>?_) (by decide) ?_
  ·obtain⟨x,t,rfl⟩:=hfs v hv;exact Looks.of_pure rfl
  rw[hlen];refine Good.run (n:=rows.length) (λ i j C hi hj hC=>?_) (sO (by nofun)) λ pm hp=>?_
  ·-- two tuples asked
   have gi:(rows.map λ r=>Value.ref r.1).getD i Value.none=.ref rows[i].1:=by simp[hi]
   have gj:(rows.map λ r=>Value.ref r.1).getD j Value.none=.ref rows[j].1:=by simp[hj]
   unfold kas_ask;rw[gi,gj];obtain⟨o,t,vs,n,a1,a2,a3⟩:=tup' rows[i] (aaH hi);obtain⟨o2,t2,vs2,n2,b1,b2,b3⟩:=tup' rows[j] (aaH hj);refine kat_lt (s:={ s with heap:=h' }) a1 a3 b1 b3 ?_;by_cases hij:i=j
   ·subst hij;rw[a1] at b1;cases b1;rw[a3] at b3;injection b3 with b3 _
    rw[b3];exact nJ hC _ 0
   ·refine sP hC λ z=>hij ?_;have e1:(rows.map (·.2.1))[i]'(by exists hi)=(rows.map (·.2.1))[j]'(by exists hj):=(by exists z);exact(abC hn).mp e1
  ·-- the end
   refine KasFin.intro (s:={ s with heap:=h' }) F' N' (.head λ p hp=>aak (hlt p hp)) λ h3 c F3 N3=>?_;have kept3:∀ b o,b≠X.env.locals->s.heap.get? b=some o->h3.get? b=some o:=λ b o hb e=>(N3 (b,o) (aad _ (eJ hb (Att.noObjs_get _ _) e))).1;have hD3:=(N3 (D,_) (aab ..)).1
   have hfree:s.heap.get? D=none:=by
    cases z:s.heap.get? D with
    |none=>rfl
    |some o=>exact absurd (nD D o hDL z) (aaR _)
   have hHD:H D=none:=by
    cases z:H D with
    |none=>rfl
    | some o=>
     exfalso;have lt:=(I.hok D o z).lt;obtain⟨o',ho'⟩:∃ o',s.heap.get? D=some o':=ObjOk.get (I.hok D o z);rw[hfree] at ho';cases ho'
   have hne:∀ b o,s.heap.get? b=some o->b≠D:=λ b o e z=>by rw[z,hfree] at e;cases e
   let rows':=pm.toList.map λ i=>rows.getD i (0, "", [])
   have hpr:rows'.Perm rows:=dH _ rows hp
   have hout:(pm.toList.map λ i=>(rows.map λ r=>Value.ref r.1).getD i Value.none)=rows'.map λ r=>.ref r.1:=by
    rw[aav];refine aa9 λ i hi=>?_;have hi':i<rows.length:=ab2.mp (hp.mem_iff.mp hi);simp[hi']
   rw[hout] at hD3
   have Inv3:Inv X pins σ (upd H D (.lst (rows'.map λ r=>.ref r.1))) { s with heap:=h3 }:=by
    refine I.step (g':=s.gens) (d':=s.drawn) (t':=s.toks) (ch:=[]) (λ _ z=>nomatch z) (λ b o hb _ _ e _=>kept3 b o hb e) (λ b o hb _ _ e _=>⟨o.slots,kept3 b o hb e⟩) (λ b o _ e n=>by rw[af (hne b o e)];exact n)
     (λ b o _ e=>?_) (λ b ys e=>by rw[af (bq e hHD)];exact e) (λ b o u e=>by rw[af (bq e hHD)];exact e) (λ b ps e=>⟨#[],by rw[af (bq e hHD),e];simp⟩) (λ m' hm'=>?_) ?_ I.bare
    ·by_cases hb:b=X.env.locals
     ·subst hb;obtain⟨o',_,_,ho',_⟩:=F3.ns;exact⟨o',ho'⟩
     ·exact⟨o,kept3 b o hb e⟩
    ·have em:m'=m:=by
      funext x
      obtain⟨o1,e1,p1,g1,d1,_,n1⟩:=hm';obtain⟨o2,e2,p2,g2,d2,_,n2⟩:=hns;rw[g1] at g2;cases g2;rw[d1] at d2;injection d2 with d2 _
      rw[← n1 x,← n2 x,d2]
     rw[em];exact F3.ns
    ·intro b o e;by_cases hb:b=D
     ·subst hb;rw[ae] at e;cases e;exact⟨by rw[abK,hpr.length_eq];exact hzr,_,c,io rows',hD3⟩
     ·rw[af hb] at e;refine(I.hok b o e).stay (λ b' u hb' q'=>kept3 b' u (λ z=>?_) q') (λ b' q'=>by rw[af (bq q' hHD)];exact q') λ b' ys q'=>by rw[af (bq q' hHD)];exact q'
      subst z;rcases hb' with z|z
      ·rw[← z,I.free] at e;cases e
      ·rw[I.free] at z;cases z
   exact⟨.ref D,_,Inv3,rfl,q D rows' hHD hpr⟩
end
end L2
namespace L2
open PySem PySem.Spec PyProof.Rows
variable{ds:List D}{zs:List Str}{P:Program}{w:World}{te:TE}{fe:FE}{n j:Nat}{T:List Nat}{fg:FG}{ρ:FSt}{fb:FS}{E:FEnds}{lo i:Int}{d:D}{Q:D->Prop}{a b z:Str}
theorem xw{α β:Type}{f:α->β}:∀ {l l':List β},l.Perm l'->∀ m:List α,l'=m.map f->∃ m':List α,m'.Perm m/\l=m'.map f:=by
 intro l l' h
 induction h with
 | nil=>
  intro m e;have:m=[]:=by simpa using e.symm
  subst this;exact⟨[],.refl _,rfl⟩
 | cons x _ ih=>
  intro m e
  cases m with
  |nil=>cases e
  | cons a m=>
   simp only[List.map_cons,List.cons.injEq] at e;obtain⟨m',h1,h2⟩:=ih m e.2;exact⟨a::m',.cons a h1,by rw[abM,h2,e.1]⟩
 | swap x y l=>
  intro m e
  match m,e with
  | a::b::m,e=>
   simp only[List.map_cons,List.cons.injEq] at e;exact⟨b::a::m,.swap _ _ _,by rw[abM,abM,e.1,e.2.1,e.2.2]⟩
 | trans _ _ ih1 ih2=>
  intro m e;obtain⟨m2,h1,h2⟩:=ih2 m e;obtain⟨m1,h3,h4⟩:=ih1 m2 h2;exact⟨m1,h3.trans h1,h4⟩
section
variable {K:Frag} {μ:List Nat}
def fw:List D->Option (List Str)
 |[]=>some []
 |.tup (.str z::_)::ds=>(fw ds).map (z::·)
 |_::_=>none
theorem DQ{F:Hp}{xs:List V}(h:Dens K F xs ds)(e:fw ds=some zs):∃ L:List ((Addr×Str×List V)×D),xs=L.map (λ r=>.ref r.1.1)/\ds=L.map (·.2)/\(∀ r∈L,SqT K F r.1.1 (.str r.1.2.1::r.1.2.2)/\Den K F (.ref r.1.1) r.2)/\L.map (·.1.2.1)=zs:=by
 induction ds generalizing xs zs with
 |nil=>cases h;cases e;exact⟨[],rfl,rfl,(λ _ z=>nomatch z),rfl⟩
 | cons d ds ih=>
  cases h with
  | cons h t=>
  cases h with
  | @tup a ys es hs ht=>
   cases es with
   |nil=>exact nomatch e
   | cons c es=>
   cases c with
   | str z=>
    obtain⟨zs',e1,rfl⟩:=ab8.mp (show (fw ds).map (z::·)=some zs from e);obtain⟨L,rfl,rfl,h3,h4⟩:=ih t e1;have h':Den K F (.ref a) (.tup (.str z::es)):=.tup hs ht
    cases ht with
    | @cons _ _ zs1 _ k1 k2=>
     have:=k1.str_eq;subst this;refine⟨((a,z,zs1),.tup (.str z::es))::L,rfl,rfl,λ r hr=>?_,by rw[abM,h4]⟩;rcases abQ.mp hr with rfl|hr
     ·exact⟨SqT.of hs,h'⟩
     ·exact h3 r hr
   |_=>exact nomatch e
  |_=>exact nomatch e
theorem sQ{F:Hp}:∀ {L:List ((Addr×Str×List V)×D)},(∀ r∈L,Den K F (.ref r.1.1) r.2)->Dens K F (L.map λ r=>.ref r.1.1) (L.map (·.2))
 |[],_=>.nil
 |r::L,h=>.cons (h r (aab ..)) (sQ λ r hr=>h r (aad _ hr))
def sR(P:Program)(w:World)(K:Frag):List V->Hp->VK->Prop:=λ xs H Q=>sM P w K xs H Q∨AA K xs H Q
theorem xx{X:Cx}(P:Program)(w:World)(K:Frag)(hc:X.calm=true)(hP:X.prog=P)(hw:X.w=w)(h:X.K=K):BCall X (.builtin "sorted") (sR P w K):=by subst h hP hw;exact⟨((kO hc).or (kX hc)).or la⟩
@[irreducible] def jg:List D->(OV->Prop)->Prop
 | [.lst ds],P=>(match c7 ds with
  |some zs=>zs.length<64/\P (.fl ((c6 zs).map .str))
  | none=>(match fw ds with
   |some zs=>(zs.Nodup/\zs.length<64)/\∀ ds':List D,ds'.Perm ds->P (.fl ds')
   |none=>False))
 | [.dct ks _],P=>(match dm ks with
  |some zs=>zs.length<64/\P (.fl ((c6 zs).map .str))
  |none=>False)
 |_,_=>False
theorem xy :CallF K (sR P w K) jg:=⟨by
 intro F H xs ds Q Pq s ha f n;unfold jg at f
 cases ds with
 |nil=>exact False.elim f
 | cons d r=>
  cases d with
  | lst ds=>
   cases r with
   |cons=>exact False.elim f
   | nil=>
    dsimp only at f;generalize hz:c7 ds=o at f
    cases o with
    | some zs=>
     refine .inl (sN.h s ha ?_ n);unfold xv;dsimp only;rw[hz];exact f
    | none=>
     dsimp only at f;clear hz;generalize hz:fw ds=o at f
     cases o with
     |none=>exact False.elim f
     | some zs=>
      obtain⟨x,rfl,a⟩:=b8 ha;obtain⟨p,ys,rfl,h1,h2⟩:=a.asL s;obtain⟨L,e1,e2,h3,h4⟩:=DQ h2 hz;subst e1 e2;have el:(L.map λ r=>V.ref r.1.1)=(L.map (·.1)).map λ r=>V.ref r.1:=by rw[aav];rfl
      refine .inr ⟨p,L.map (·.1),rfl,by rw[← el];exact h1,λ r hr=>?_,by rw[aav];exact h4 ▸ f.1.1,by rw[abK,← abK (f:=(·.1.2.1)) (as:=L),h4];exact f.1.2,λ q rows' hq hp=>?_⟩
      ·obtain⟨r',hr',rfl⟩:=abR.mp hr;exact(h3 r' hr').1.same s
      ·obtain⟨L',p1,rfl⟩:=xw hp L rfl;have el':((L'.map (·.1)).map λ r=>V.ref r.1)=L'.map λ r=>V.ref r.1.1:=by rw[aav];rfl
       rw[el'];exact cQ s n (sQ λ r hr=>(h3 r (p1.mem_iff.mp hr)).2) (f.2 _ (p1.map _)) q hq
  | dct ks vs=>
   cases r with
   |cons=>exact False.elim f
   |nil=>exact .inl (sN.h s ha f n)
  |_=>exact False.elim f⟩
theorem my(he:EF K μ te fe):EF K μ (tCB (sR P w K) (cZ (tCB (Lo P w K) (cZ te iN)) iN)) (gG fe):=⟨by
 intro F Z H τ σ ρ A Q Pq vw R h q;have:=(pU (P:=P) (w:=w) he).h vw R h q;refine he.h vw R h λ r ρ1 v F1 H1 A1 B1 h1 s1 R1 v1 f1=>?_;obtain⟨d,e1,h2⟩:=bP h1;split at h2
 ·split at h2
  ·rename_i zs hz;obtain⟨p,ys,rfl,a1,a2⟩:=(R1.acc v1 e1).asL R1.fh;rw[dP hz] at a2;rw[a2.strs_eq] at a1;refine⟨p,zs,rfl,a1,h2.1.1,λ l τs hl hm hn _=>?_⟩;refine .inl (.inl ⟨l,τs,rfl,.inl ae,?_,λ l2 ss hl2 hp hs=>?_⟩)
   ·have hp:τs.Perm (iU zs):=eP hn (fV zs) λ k=>(hm k).trans gF.symm;rw[hp.length_eq];exact h2.1.2
   ·have e:ss=iU zs:=eQ (hp.nodup_iff.mpr hn) (λ k=>(hp.mem_iff).trans (hm k)) (cB ss hs);subst e;have pu:=(Pure.new (o:=HW P w l τs) R1.fh hl).trans (Pure.new (p:=l2) (o:=.lst ((iU zs).map .str)) (R1.fh.trans (bp hl)) hl2);have hl2':H1 l2=none:=(bp hl).free hl2;exact R1.after (P:=λ o=>Pq (.ov o) ρ1) (λ o v F3 H3 B p s3 R3 ow fr=>q _ _ _ _ _ _ _ p (s1.trans s3) R3 ow fr) _ _ F1 _ [l2] h2.2 pu (.fl ae (Dens.strs _)) (New.one hl2' (R1.fh.free hl2'))
  ·exact h2.elim
 ·exact h2.elim⟩
def xz(fo fe:FE):FE:=λ ρ Q=>fo ρ λ r ρ1=>on1 ρ1 r λ d=>match d with
 | .str z=>fe ρ1 λ r2 ρ2=>on1 ρ2 r2 λ d2=>(match d2 with
  | .lst ds=>(match c7 ds with
   |some zs=>(zs.map (·.length)).sum+zs.length*z.length<=16777216/\Q (.ov (.fz (.str (Builtin.Str.glued z zs)))) ρ2
   |none=>False)
  |_=>False)
 |_=>False
theorem DR{to:TE}{fo:FE}(ho:EF K μ to fo)(he:EF K μ te fe):EF K μ (tBM K "str" (wx K) to (cZ te iN)) (xz fo fe):=⟨by
 intro F Z H τ σ ρ A Q P vw R h q;refine ho.h vw R h λ r1 ρ1 x F1 H1 A1 B1 h1 s1 R1 v1 f1=>?_;obtain⟨d,e1,h2⟩:=bP h1;split at h2
 ·rename_i z;have ex:=(R1.acc v1 e1).str_eq;subst ex;refine⟨rfl,he.h vw R1 h2 λ r2 ρ2 y F2 H2 A2 B2 h3 s2 R2 v2 f2=>?_⟩;obtain⟨d2,e2,h4⟩:=bP h3;split at h4
  ·split at h4
   ·rename_i zs hz;obtain⟨p,ys,rfl,a1,a2⟩:=(R2.acc v2 e2).asL R2.fh;rw[dP hz] at a2;rw[a2.strs_eq] at a1;exact⟨z,p,zs,rfl,rfl,a1,h4.1,q _ _ _ _ _ _ [] h4.2 (s1.trans s2) R2 (.fz (.str _)) Fresh.nil⟩
   ·exact h4.elim
  ·exact h4.elim
 ·exact h2.elim⟩
end
section
variable {K:Frag}
theorem NI(h:j<n):EF K (List.range n) (db j) (ab j):=so (by simp[h])
theorem ef_w(h:autoParam (j<n) L2.aD._auto_1):EF K (List.range n) (db j) (ab j):=NI h
theorem gf_n(h:j<n):GF K (List.range n) [j] (eM j) (ac j):=sv (by simp[h]) List.nodup_range
theorem DS(h:j<n)(he:EF K (List.range n) te fe):EF K (List.range n) (tBM K "list" dG (db j) (cZ te iN)) (xj j fe):=ID (by simp[h]) he
theorem xA{m:List Nat}(h:(m.all λ i=>!T.contains i)=true):∀ i∈m,i∉T:=λ i hi hT=>by
 have:=ab3.mp h i hi;simp[hT] at this
theorem Mz{no:Nat}(h:(T.all λ i=>decide (i<no))=true):∀ i∈T,i<no:=λ i hi=>of_decide_eq_true (ab3.mp h i hi)
theorem Fun.okG{mg:Str->Option Value}{base:Heap}{x qual:Str}{st:Stmt}{f:Addr}{fd:FuncData}{N ps:List Str}{k:Nat}{c:Ct}{fs:FS}(n:Nat)(m:List Nat)(F:Fun K x qual st f fd)(S:FnScope N ps (au st))(hn:N.length=n)
  (hN:ps.length<=n) (hlen:∀ os P,c os P->os.length=ps.length/\∀ j o,os[j]?=some o->j∉m->sC o=true) (hm:∀ i∈m,i<ps.length)
  (hbody:∀ (cdv:Value) (A:Around) (outer:List Env) (s:Shared) (H:Hp) (E:XK),Room k (A.deeper (envOfC qual (au st) s.heap.objs.size f cdv)) ->
   ∃ t,BSs (qT CX0 P w K mg base N qual (au st) f cdv A outer s H E).nox (bF st) t/\SF K n m t fs)
  (hc:∀ os P,c os P->fs { nx:=fin m os P (.fz .non),rt:=fin m os P } (aj n os)):FnOk P w K mg base CX0 (k+1) f fd ps (spM K c):=by
 subst hn;exact Fun.okF F S hN hlen hm hbody hc
end
theorem aU{ft:FT}{P:List D->FSt->Prop}{as0:List D}(I:Nat->List D->FSt->Prop)(h0:I 0 as0 ρ)
  (hs:∀ (i:Nat) (d:D) (as:List D) (ρ:FSt) (R:List D->FSt->Prop),ds[i]?=some d->I i as ρ->(∀ as' ρ',I (i+1) as' ρ'->R as' ρ') ->
   fg d ρ λ ρ1=>ft ρ1 λ b ρ2=>br b (fe ρ2 λ r ρ3=>match fzR r ρ3 with
    |some (y,ρ4)=>as.length<sizeLine/\R (as++[y]) ρ4
    |none=>False) (R as ρ2))
  (hd:∀ as ρ,I ds.length as ρ->P as ρ):dL fg ft fe P ds as0 ρ:=by
 have main:∀ (k i:Nat) (as:List D) (ρ:FSt),i+k=ds.length->I i as ρ->dL fg ft fe P (ds.drop i) as ρ:=by
  intro k
  induction k with
  | zero=>
   intro i as ρ e h;have:i=ds.length:=by nofun
   subst this;rw[abb];exact sB (hd as ρ h)
  | succ k ih=>
   intro i as ρ e h;have hi:i<ds.length:=by nofun
   rw[aaw hi];exact pQ (hs i ds[i] as ρ _ (List.getElem?_eq_getElem hi) h λ as' ρ' h'=>ih (i+1) as' ρ' (by nofun) h')
 have:=main ds.length 0 as0 ρ (by nofun) h0
 rwa [aa4] at this
theorem bQ(I:Nat->FSt->Prop)(h0:I 0 ρ)
  (hs:∀ (i:Nat) (d:D) (ρ:FSt) (R:FSt->Prop),ds[i]?=some d->I i ρ->(∀ ρ',I (i+1) ρ'->R ρ')->fg d ρ λ ρ1=>fb { nx:=R,ct:=R,bk:=E.nx,rt:=E.rt } ρ1)
  (hd:∀ ρ,I ds.length ρ->E.nx ρ):di fg fb E ds ρ:=by
 have main:∀ (k i:Nat) (ρ:FSt),i+k=ds.length->I i ρ->di fg fb E (ds.drop i) ρ:=by
  intro k
  induction k with
  | zero=>
   intro i ρ e h;have:i=ds.length:=by nofun
   subst this;rw[abb];exact sA (hd ρ h)
  | succ k ih=>
   intro i ρ e h;have hi:i<ds.length:=by nofun
   rw[aaw hi];exact pP (hs i ds[i] ρ _ (List.getElem?_eq_getElem hi) h λ ρ' h'=>ih (i+1) ρ' (by nofun) h')
 have:=main ds.length 0 ρ (by nofun) h0
 rwa [aa4] at this
theorem dQ{fc:FT}(I:Nat->FSt->Prop)(n:Nat)(h0:I n ρ)
  (hs:∀ (m:Nat) (ρ:FSt) (R:FSt->Prop),I m ρ->(∀ k ρ',k<m->I k ρ'->R ρ')->fc ρ λ b ρ1=>br b (fb { nx:=R,ct:=R,bk:=E.nx,rt:=E.rt } ρ1) (E.nx ρ1)):ie fc fb E ρ:=by
 refine⟨n+1,?_⟩
 have main:∀ (N m:Nat) (ρ:FSt),m<N->I m ρ->cp fc fb E N ρ:=by
  intro N
  induction N with
  |zero=>intro m ρ h _;nofun
  | succ N ih=>
   intro m ρ h hi;exact mq (hs m ρ _ hi λ k ρ' hk h'=>ih k ρ' (by nofun) h')
 exact main (n+1) n ρ (by nofun) h0
theorem bH{i:Nat}(h:(dA lo n)[i]?=some d):i<n/\d=.int (lo+i):=by
 unfold dA at h;rw[List.getElem?_map,aap] at h;obtain⟨k,h1,rfl⟩:=h;obtain⟨h2,h3⟩:=List.getElem?_eq_some_iff.mp h1;rw[List.getElem_range] at h3;rw[ab4] at h2;subst h3;exact⟨h2,rfl⟩
theorem ck :(dA lo n).length=n:=by simp[dA]
theorem jS{xs:List D}(h0:0<=i)(h:i<xs.length)(q:∀ d∈xs,Q d):match atI xs i with
  |some d=>Q d
  | none=>False:=by
 obtain⟨c,h1,h2⟩:=An h0 h;rw[h1];exact q c h2
theorem jT{xs:List Nat}{Q:Nat->Prop}(h0:0<=i)(h:i<xs.length)(q:∀ d∈xs,Q d):match atI xs i with
  |some d=>Q d
  | none=>False:=by
 obtain⟨c,h1,h2⟩:=An h0 h;rw[h1];exact q c h2
theorem bz :dEq (.str a) (.str b)=true↔a=b:=by
 show (a==b)=true↔_;rw[beq_iff_eq]
theorem b9{a b:Int}:dEq (.int a) (.int b)=true↔a=b:=by
 show (a==b)=true↔_;rw[beq_iff_eq]
theorem xB :(!dEq (.str a) (.str b))=true↔a≠b:=by
 rw[aaW,ab1,Ne,bz]
theorem aO :DO (.str a) (.str b):=⟨rfl,rfl,aaq _⟩
theorem aX{a b:Int}:DO (.int a) (.int b):=⟨rfl,rfl,aaq _⟩
theorem nK{z:Str}:∀ {zs:List Str},inV (.str z) (zs.map V.str)=true↔z∈zs
 |[]=>by simp[inV]
 | y::zs=>by
  have ih:=nK (z:=z) (zs:=zs);unfold inV at ih ⊢;rw[abM,abG,Bool.or_eq_true,ih,abQ]
  have:eqV (.str y) (.str z)=true↔z=y:=by
   show (y==z)=true↔_;rw[beq_iff_eq];exact eq_comm
  rw[this]
theorem fA :inD (.str z) (zs.map D.str)=true↔z∈zs:=by
 unfold inD;have:(zs.map D.str).map vOf=zs.map V.str:=by rw[aav];rfl
 rw[this];exact nK
theorem xC(zs:List Str):(zs.map D.str).all flD=true:=by
 induction zs with
 |nil=>rfl
 |cons z zs ih=>exact ih
theorem bI :pT (zs.map Sum.inr) (.inr z)=true↔z∈zs:=by
 unfold pT;rw[acd,aaZ];constructor
 ·rintro⟨y,h1,h2⟩;have:=of_decide_eq_true h2;cases this;exact h1
 ·intro h;exact⟨z,h,by simp⟩
theorem ip{Q:List Str->Prop}(q:Q zs):match c7 (zs.map .str) with
  |some zs=>Q zs
  | none=>False:=by
 rw[jd];exact q
theorem nL{bs:List Bool}{Q:List Bool->Prop}(q:Q bs):match gy (bs.map .bl) with
  |some zs=>Q zs
  | none=>False:=by
 rw[kZ];exact q
theorem sS :(fL (zs.map Sum.inr) ds (.inr z) d).1=(KS.dedup1 zs z).map Sum.inr:=by
 unfold fL KS.dedup1;by_cases h:z∈zs
 ·have e:((zs.map Sum.inr).any λ x=>decide (x=(Sum.inr z:Key)))=true:=bI.mpr h;rw[if_pos e,if_pos h]
 ·have e:¬ ((zs.map Sum.inr).any λ x=>decide (x=(Sum.inr z:Key)))=true:=λ q=>h (bI.mp q);rw[if_neg e,if_neg h,aaf];rfl
theorem lb:∀ (zs acc:List Str),(zs.foldl (λ acc z=>KS.dedup1 acc z) acc).length<=acc.length+zs.length
 |[],acc=>by simp
 | z::zs,acc=>by
  rw[List.foldl_cons,abO];have:=lb zs (KS.dedup1 acc z);have:=(pM acc z).2.1;nofun
theorem xD(zs:List Str):(iU zs).length<=zs.length:=by
 rw[iU,(aT _).length_eq];have:=lb zs [];simpa [k6] using this
theorem lc{P:OV->Prop}(hl:zs.length<64)(h:P (.fl ((c6 zs).map .str))):jg [.dct (zs.map Sum.inr) ds] P:=by
 unfold jg;simp only[im];exact⟨hl,h⟩
theorem cV{x:D}{r:List D}(q:Q x):match atI (x::r) 0 with
  |some d=>Q d
  | none=>False:=by
 rw[Mj];exact q
end L2
namespace KS
open PySem PySem.Spec PyProof.Rows
open PySem.W
section
variable {prog:Program} {w:World} {K:Type} [DecidableEq K] {knd:KeyKind prog w K} {A:Around} {E:Value->Shared->Prop} {s:Shared}
end
end KS
namespace L2
open PySem PySem.Spec PyProof.Rows
variable{X:Cx}{μ ixs T:List Nat}{e tg l:Expr}{ty te tl t:TE}{apos cpos:Pos}{i j n no i0 j0 ep:Nat}{fk fe:FE}{F H:Hp}{g:TG}{fg:FG}{tc:TT}{fc:FT}{ρ:FSt}{a it:Addr}{o:Obj}{kvs:List (Key×V)}{vs:List (Key×Value)}{P:Program}{w:World}{st:Stmt}
section
variable {K:Frag} 
end
theorem DT{o:Expr}{td:TE}(ho:BE X o td)(he:BE X e ty)(hbase:attributeBase o "pop" X.env (eval o X.env)=eval o X.env)(hn:bx e=true)(hline:(apos.endLine==cpos.line)=true):BE X (.Call (.Attribute o "pop" apos) [e] [] cpos) (m8 td ty):=
 ⟨wm ho.h he.h ⟨hbase,nh (es:=[e]) (by simp[hn]) (by show 1<29;decide),hline,by
  rw[bj hn];rfl⟩⟩
section
variable {K:Frag} 
def mz(ks:List Key)(ds:List D)(k:Key):List Key×List D:=(ks.filter λ x=>decide (x≠k),((ks.zip ds).filter λ kd=>decide (kd.1≠k)).map (·.2))
def DU(i:Nat)(fk:FE):FE:=λ ρ Q=>(unD ρ i).isSome=true/\fk ρ λ s ρ1=>on1 ρ1 s λ dk=>match lW dk,unD ρ1 i with
 | some k,some (ks,ds)=>(match gq ks ds k with
  |some d=>Q (.ov (.fz d)) (ρ1.set i (some (.fd (mz ks ds k).1 (mz ks ds k).2)))
  |none=>False)
 |_,_=>False
theorem lg{F:Hp}{k:Key}:∀ {ys:List (Key×V)} {ks:List Key} {ds:List D},ys.map (·.1)=ks->Dens K F (ys.map (·.2)) ds->(iO ys k).map (·.1)=(mz ks ds k).1/\Dens K F ((iO ys k).map (·.2)) (mz ks ds k).2
 |[],_,ds,hk,h=>by subst hk;cases h;exact⟨rfl,.nil⟩
 | y::ys,_,ds,hk,h=>by
  subst hk
  cases h with
  | @cons _ d1 _ ds h1 h2=>
   obtain⟨q1,q2⟩:=lg (k:=k) rfl h2;unfold iO mz at *;by_cases e:y.1=k
   ·have e':decide (y.1≠k)=false:=decide_eq_false λ z=>z e;simp only[List.map_cons,List.zip_cons_cons,List.filter_cons,e',if_neg Bool.false_ne_true];exact⟨q1,q2⟩
   ·have e':decide (y.1≠k)=true:=decide_eq_true e;simp only[List.map_cons,List.zip_cons_cons,List.filter_cons,e',if_pos];exact⟨by rw[q1],.cons h1 q2⟩
theorem DW(hj:μ[j]?=some i)(hk:EF K μ ty fk):EF K μ (m8 (db j) ty) (DU i fk):=⟨by
 intro F Z H τ σ ρ A Q P vw R h q;obtain⟨h0,h⟩:=h;obtain⟨⟨ks0,ds0⟩,e0⟩:=abZ.mp h0;obtain⟨a,ys0,h1,h2,_,_,_⟩:=R.mutD e0;refine⟨.ref a,(vw j i hj).1.trans h1,a,rfl,.inl ⟨ys0,.inl h2⟩,?_⟩;refine hk.h vw R h λ r ρ1 v F1 H1 A1 B1 p1 s1 R1 v1 f1=>?_;obtain⟨dk,ek,p4⟩:=bP p1;split at p4
 ·rename_i k ks ds e4 e3;split at p4
  ·rename_i d ed;obtain⟨a',ys,h1',h2',hk',h3',mt⟩:=R1.mutD e3;rw[h1] at h1';cases h1';obtain⟨v',ev,dv⟩:=jN hk' h3' ed;obtain⟨q1,q2⟩:=lg (k:=k) hk' h3';obtain⟨A4,R4⟩:=mt (iO ys k) _ _ q1 q2;exact⟨ys,k,v',h2',dM (R1.acc v1 ek) e4,ev,q _ _ _ _ _ _ _ p4 s1 R4 (.fz dv) Fresh.nil⟩
  ·exact p4.elim
 ·exact p4.elim⟩
theorem xE(h:j<n)(hk:EF K (List.range n) ty fk):EF K (List.range n) (m8 (db j) ty) (DU j fk):=DW (by simp[h]) hk
def sT:D->Bool
 |.non=>true
 |_=>false
theorem Acc.isNon{v:V}{d:D}(h:Acc K F H v d):decide (v=.non)=sT d:=by
 cases h with
 |fz h=>cases h <;> first|rfl|exact decide_eq_false (λ z=>nomatch z)
 |lst=>exact decide_eq_false (λ z=>nomatch z)
 |dct=>exact decide_eq_false (λ z=>nomatch z)
 |dt=>exact decide_eq_false (λ z=>nomatch z)
def xF:D->D->(OV->Prop)->Prop
 |d,.non,P=>P (.fz (.bl (sT d)))
 |_,_,_=>False
def mD:D->D->(OV->Prop)->Prop
 |d,.non,P=>P (.fz (.bl (!sT d)))
 |_,_,_=>False
theorem DX:OpF K NC xF:=⟨by
 intro F H x y d e Q P s hx hy f n;unfold xF at f;split at f
 ·exact⟨hy.non_eq,by rw[hx.isNon];exact aG s n (.bl _) f⟩
 ·exact f.elim⟩
theorem xG:OpF K HN mD:=⟨by
 intro F H x y d e Q P s hx hy f n;unfold mD at f;split at f
 ·exact⟨hy.non_eq,by rw[hx.isNon];exact aG s n (.bl _) f⟩
 ·exact f.elim⟩
end
section
variable {K:Frag} 
end
section
variable {K:Frag} 
end
def jU(fg:FG)(ft:FT)(fe:FE)(P:List D->FSt->Prop)(sl:Nat)(all:List D):List D->List D->FSt->Prop
 |[],as,ρ=>unL ρ sl=some all/\P as ρ
 | d::ds,as,ρ=>unL ρ sl=some all/\fg d ρ λ ρ1=>ft ρ1 λ b ρ2=>br b (fe ρ2 λ r ρ3=>match fzR r ρ3 with
  |some (y,ρ4)=>as.length<sizeLine/\jU fg ft fe P sl all ds (as++[y]) ρ4
  |none=>False) (jU fg ft fe P sl all ds as ρ2)
@[irreducible] def dR(fg:FG)(ft:FT)(fe:FE)(P:List D->FSt->Prop)(sl:Nat)(all ds as:List D)(ρ:FSt):Prop:=jU fg ft fe P sl all ds as ρ
theorem iq(fg:FG)(ft:FT)(fe:FE)(P:List D->FSt->Prop)(sl:Nat)(all ds:List D):dR fg ft fe P sl all ds=jU fg ft fe P sl all ds:=by funext as ρ;unfold dR;rfl
theorem jh(fg:FG)(ft:FT)(fe:FE)(P:List D->FSt->Prop)(sl:Nat)(all as:List D)(ρ:FSt):dR fg ft fe P sl all [] as ρ=(unL ρ sl=some all/\P as ρ):=by rw[iq];rfl
theorem ji(fg:FG)(ft:FT)(fe:FE)(P:List D->FSt->Prop)(sl:Nat)(all:List D)(d:D)(ds as:List D)(ρ:FSt):dR fg ft fe P sl all (d::ds) as ρ=(unL ρ sl=some all/\fg d ρ λ ρ1=>ft ρ1 λ b ρ2=>br b (fe ρ2 λ r ρ3=>match fzR r ρ3 with
  |some (y,ρ4)=>as.length<sizeLine/\dR fg ft fe P sl all ds (as++[y]) ρ4
  |none=>False) (dR fg ft fe P sl all ds as ρ2)):=by rw [iq,iq];rfl
def nM(no i:Nat)(fg:FG)(ft:FT)(fe:FE):FE:=λ ρ Q=>match unL ρ i with
 |some ds=>jG (List.replicate no none++ρ) (dR fg ft fe (λ as ρ'=>Q (.ov (.fl as)) (ρ'.drop no)) (no+i) ds ds [])
 |none=>False
section
variable {K:Frag} 
theorem xH(hj0:μ[j0]?=some i0)(hix:∀ j∈ixs,j<μ.length)(hg:GF K (muC no ixs μ) T g fg)(hT:∀ i∈T,i<no)
  (hc:TF K (muC no ixs μ) tc fc) (he:EF K (muC no ixs μ) te fe):EF K μ (et no ixs (l7 K (db j0)) g tc te) (nM no i0 fg fc fe):=⟨by
 intro F Z H τ σ ρ A Q P vw R h q;unfold nM at h;split at h
 case h_2=>exact h.elim
 rename_i ds e0;obtain⟨a0,xs0,g1,g2,g3,_⟩:=R.mutL e0;refine⟨.ref a0,(vw j0 i0 hj0).1.trans g1,a0,rfl,⟨xs0,SqL.of g2⟩,?_⟩;have h1:=h;rw[dY] at h1;have R1:=R;have s1:Same F F:=Same.refl _
 have own:∀ {F' H' σ' ρ' A'},Rel K F' Z H' σ' ρ' A'->(∀ i,no<=i->σ'[i]?=(List.replicate no none++σ)[i]?)->unL ρ' (no+i0)=some ds->∃ xs,H' a0=some (.lst xs)/\Dens K F' xs ds:=by
  intro F' H' σ' ρ' A' R' k e;obtain⟨b,ys,q1,q2,q3,_⟩:=R'.mutL e;rw[k (no+i0) (by nofun),List.getElem?_append_right (by simp),aaF,aa8,g1] at q1;cases q1;exact⟨ys,q2,q3⟩
 intro a ha;have hF1:F a=none:=R1.fh.free ha;have hZ1:Z a=none:=R1.zh.free ha
 have hA1:a∉A:=λ z=>by
  obtain⟨u,hu⟩:=R1.sl.live a z;rw[ha] at hu;cases hu
 have R1':Rel K F Z (upd H a (.lst [])) (List.replicate no none++σ) (List.replicate no none++ρ) A:=by
  have:=R1.write (o:=.lst []) hA1 hF1 hZ1;exact⟨this.sl.none_app no,this.nd,this.fr,this.fh,this.zh,this.dj⟩
 have hfin:∀ F' H' σ' ρ' A' acc as,Same F F'->Rel K F' Z H' σ' ρ' A'->(∀ i,no<=i->σ'[i]?=(List.replicate no none++σ)[i]?)->H' a=some (.lst acc)->F' a=none->a∉A'->Dens K F' acc as->P (.ov (.fl as)) (ρ'.drop no)->Q (.ref a) H':=by
  intro F' H' σ' ρ' A' acc as s' R' k ha' hF' hA' dn p;obtain⟨A2,B2,e2,sl2⟩:=R'.sl.dropN no
  have es:σ'.drop no=σ:=by
   apply List.ext_getElem?;intro i;rw[List.getElem?_drop,k (no+i) (by nofun),List.getElem?_append_right (by simp),aaF,aa8]
  rw[es] at sl2;have m2:∀ b∈A2,b∈A':=λ b hb=>by rw[e2];exact abL.mpr (.inr hb)
  have R2:Rel K F' Z H' σ (ρ'.drop no) A2:=⟨sl2,by have:=R'.nd;rw[e2,abV] at this;exact this.2.1,λ b hb=>R'.fr b (m2 b hb),R'.fh,R'.zh,R'.dj⟩
  exact q _ _ _ _ _ _ [a] p (s1.trans s') R2 (.fl ha' dn) ⟨by simp,λ b hb=>by
   have:b=a:=(by exists hb);subst this;exact⟨hF',hZ1,λ z=>hA' (m2 _ z)⟩⟩
 refine⟨λ i k acc τ' H'=>k=ds.length - i/\i<=ds.length/\∃ F' ρ' A' σ' as,Same F F'/\Rel K F' Z H' σ' ρ' A'/\View (muC no ixs μ) τ' σ'/\(∀ i,no<=i->σ'[i]?=(List.replicate no none++σ)[i]?)/\H' a=some (.lst acc)/\F' a=none/\a∉A'/\Dens K F' acc as /\
   dR fg fc fe (λ as ρ'=>P (.ov (.fl as)) (ρ'.drop no)) (no+i0) ds (ds.drop i) as ρ',
  ⟨_,rfl,aaq _,F,_,A,_,[],Same.refl _,R1',ij vw hix,λ _ _=>rfl,ae,hF1,hA1,.nil,by rw[aa4];exact h1⟩,?_⟩
 rintro i k acc τ' H' ⟨rfl,hle,F',ρ',A',σ',as,s',R',vw',kp,hD,hFD,hAD,dn,h'⟩;by_cases hlt:i<ds.length
 ·rw[aaw hlt,ji] at h';obtain⟨hu,h'⟩:=h';obtain⟨ys,hy1,hy2⟩:=own R' kp hu
  refine .inr ⟨(by
   obtain⟨y,z1,z2⟩:=hy2.get (List.getElem?_eq_getElem hlt);exact⟨ys,y,SqL.of hy1,z1⟩),λ acc τ' H'=>∃ F' ρ' A' σ' as,Same F F'/\Rel K F' Z H' σ' ρ' A'/\View (muC no ixs μ) τ' σ'/\(∀ i,no<=i->σ'[i]?=(List.replicate no none++σ)[i]?)/\H' a=some (.lst acc)/\F' a=none/\a∉A'/\Dens K F' acc as /\
   dR fg fc fe (λ as ρ'=>P (.ov (.fl as)) (ρ'.drop no)) (no+i0) ds (ds.drop (i+1)) as ρ',λ acc' σ2 H2 z=>⟨_,by nofun,rfl,hlt,z⟩,λ x H2 y=>?_⟩
  obtain⟨rfl,y⟩:=y;obtain⟨d,hd,dx⟩:=hy2.get' (y ys (SqL.of hy1));rw[List.getElem?_eq_getElem hlt] at hd;cases hd;refine hg.h vw' R' dx h' fun τ2 σ2 ρ2 A2 p2 vw2 R2 k2 kl2 _ m2=>?_
  have kp2:∀ i,no<=i->σ2[i]?=(List.replicate no none++σ)[i]?:=λ i hi=>by
   rw[k2 i λ z=>by have:=hT i z;nofun];exact kp i hi
  have fD:Fresh F' Z A2 [a]:=⟨by simp,λ b hb=>by
   have:b=a:=(by exists hb);subst this;exact⟨hFD,hZ1,λ z=>hAD (m2 _ z)⟩⟩
  obtain⟨Z',sz,R2',zl,back⟩:=R2.hold (B:=[a]) (λ b hb=>by
   have:b=a:=(by exists hb);subst this;exact⟨_,hD⟩) (.one hD (λ _ z=>nomatch z) .nil) fD
  refine hc.h vw2 R2' p2 λ b ρ3 F3 H3 A3 p3 s3 R3=>?_
  cases b with
  | false=>
   replace p3:=vI p3;rw[if_neg abP];obtain⟨R3',f3,k3⟩:=back _ _ _ _ s3 R3;have fa:=f3.fr a (by simp);exact⟨F3,ρ3,A3,σ2,as,s'.trans s3,R3',vw2,kp2,k3 a _ (by simp) hD,fa.1,fa.2.2,dn.mono s3,p3⟩
  | true=>
   replace p3:=vH p3;rw[if_pos rfl];refine he.h vw2 R3 p3 λ r ρ4 v F4 H4 A4 B4 p4 s4 R4 v4 f4=>?_;split at p4
   ·rename_i y ρ5 e5;obtain⟨F5,A5,s5,R5,dy,_,_⟩:=R4.frz v4 f4 e5;obtain⟨R5',f5,k5⟩:=back _ _ _ _ ((s3.trans s4).trans s5) R5;have fa:=f5.fr a (by simp);refine⟨k5 a _ (by simp) hD,by rw[dn.length];exact p4.1,F5,ρ5,A5,σ2,as++[y],((s'.trans s3).trans s4).trans s5,R5'.write fa.2.2 fa.1 hZ1,vw2,kp2,ae,fa.1,fa.2.2,(dn.mono ((s3.trans s4).trans s5)).snoc dy,p4.2⟩
   ·exact p4.elim
 ·have e:i=ds.length:=by nofun
  subst e;rw[abb,jh] at h';obtain⟨hu,h'⟩:=h';obtain⟨ys,hy1,hy2⟩:=own R' kp hu;exact .inl ⟨⟨ys,SqL.of hy1,by rw[hy2.length];exact aac _⟩,hfin _ _ _ _ _ _ _ s' R' kp hD hFD hAD dn h'⟩⟩
theorem sU(h:j<n)(hix:∀ j∈ixs,j<(List.range n).length)(hg:GF K (muC no ixs (List.range n)) T g fg)(hT:∀ i∈T,i<no)
  (hc:TF K (muC no ixs (List.range n)) tc fc) (he:EF K (muC no ixs (List.range n)) te fe):EF K (List.range n) (et no ixs (l7 K (db j)) g tc te) (nM no j fg fc fe):=xH (by simp[h]) hix hg hT hc he
theorem sV{ft:FT}{P:List D->FSt->Prop}{sl:Nat}{all as0:List D}(I:Nat->List D->FSt->Prop)(hu:∀ i as ρ,I i as ρ->unL ρ sl=some all)(h0:I 0 as0 ρ)
  (hs:∀ (i:Nat) (d:D) (as:List D) (ρ:FSt) (R:List D->FSt->Prop),all[i]?=some d->I i as ρ->(∀ as' ρ',I (i+1) as' ρ'->R as' ρ') ->
   fg d ρ λ ρ1=>ft ρ1 λ b ρ2=>br b (fe ρ2 λ r ρ3=>match fzR r ρ3 with
    |some (y,ρ4)=>as.length<sizeLine/\R (as++[y]) ρ4
    |none=>False) (R as ρ2))
  (hd:∀ as ρ,I all.length as ρ->P as ρ):dR fg ft fe P sl all all as0 ρ:=by
 have main:∀ (k i:Nat) (as:List D) (ρ:FSt),i+k=all.length->I i as ρ->dR fg ft fe P sl all (all.drop i) as ρ:=by
  intro k
  induction k with
  | zero=>
   intro i as ρ e h;have:i=all.length:=by nofun
   subst this;rw[abb,jh];exact⟨hu _ _ _ h,hd as ρ h⟩
  | succ k ih=>
   intro i as ρ e h;have hi:i<all.length:=by nofun
   rw[aaw hi,ji];exact⟨hu _ _ _ h,hs i all[i] as ρ _ (List.getElem?_eq_getElem hi) h λ as' ρ' h'=>ih (i+1) as' ρ' (by nofun) h'⟩
 have:=main all.length 0 as0 ρ (by nofun) h0
 rwa [aa4] at this
end
section
variable {K:Frag}
@[irreducible] def cMinD:List D->(OV->Prop)->Prop
 |[.dct ks _],P=>∃ zs:List Str,ks=zs.map Sum.inr/\zs≠[]/\∀ z∈zs,P (.fz (.str z))
 |_,_=>False
end
def sW(K:Frag):List V->Hp->VK->Prop:=λ xs H Q=>∃ p kvs,xs=[.ref p]/\Rd H p (.dK kvs)/\∀ l,H l=none->Q (.ref l) (upd H l (.dK kvs))
theorem pX:CallR X (.type "dict") (sW X.K):=by
 intro pins s σ H xs us Q I r h;obtain⟨p,kvs,rfl,hq,q⟩:=h;obtain⟨u,rfl,rx⟩:=dF r;cases rx;exact wn I hq λ l s' hl I'=>⟨.ref l,_,I',rfl,q l hl⟩
theorem xI(K:Frag)(h:X.K=K):BCall X (.type "dict") (sW K):=by subst h;exact⟨pX⟩
section
variable {K:Frag}
def DY:List D->(OV->Prop)->Prop
 |[.dct ks ds],P=>P (.fd ks ds)
 |_,_=>False
theorem DZ:CallF K (sW K) DY:=⟨by
 intro F H xs ds Q P s ha f n;unfold DY at f;split at f
 ·rename_i ks ds';obtain⟨x,rfl,hx⟩:=b8 ha;obtain⟨a,ys,rfl,h1,h2,h3⟩:=hx.asD s;exact⟨a,ys,rfl,h1,λ q hq=>n _ (.ref q) F _ [q] f (Pure.new s hq) (.fd ae h2 h3) (New.one hq (s.free hq))⟩
 ·exact f.elim⟩
end
section
variable  {pins:List (Addr×Obj)} {σ:St}  {s:Shared} 
theorem Inv.frozen(I:Inv X pins σ H s)(e:H a=some (.dK kvs))(ho:s.heap.get? a=some o):Inv X pins σ (upd H a (.frz o (.dK kvs))) s:=by
 have st:∀ {b u},ObjOk X.prog X.w H s.heap b u->ObjOk X.prog X.w (upd H a (.frz o (.dK kvs))) s.heap b u:=λ x=>x.stay (λ _ _ _ q=>q) (λ c q=>by
  rw[af λ z=>by rw[z,e] at q;cases q];exact q) λ c xs q=>by
  rw[af λ z=>by rw[z,e] at q;cases q];exact q
 exact I.un (h':=s.heap) (t':=s.toks) (H':=upd H a (.frz o (.dK kvs))) ⟨λ b ob q _ _ _=>q,λ b ob q _ _ _=>⟨ob.slots,q⟩,λ b ob q n _=>by rw[af λ z=>by rw[z,e] at n;cases n];exact n,λ b ob q _=>⟨ob,q⟩,
  λ b xs q=>by rw[af λ z=>by rw[z,e] at q;cases q];exact q,λ b ob u q=>by rw[af λ z=>by rw[z,e] at q;cases q];exact q,λ b ps q=>⟨#[],by rw[af (λ z=>by rw[z,e] at q;cases q),q];simp⟩⟩ (λ b u q=>by
  by_cases hb:b=a
  ·subst hb;rw[ae] at q;cases q;exact⟨ho,st (I.hok b _ e)⟩
  ·rw[af hb] at q;exact st (I.hok b u q))
theorem Inv.thaw(I:Inv X pins σ H s)(e:H a=some (.frz o (.dK kvs)))(hn:∀ o' u',X.H₀ a≠some (.frz o' u')):Inv X pins σ (upd H a (.dK kvs)) s:=by
 have nn:∀ b,H b=none->upd H a (.dK kvs) b=none:=λ b h=>by rw[af λ z=>by rw[z,e] at h;cases h];exact h
 have st:∀ {b u},ObjOk X.prog X.w H s.heap b u->ObjOk X.prog X.w (upd H a (.dK kvs)) s.heap b u:=λ x=>x.stay (λ _ _ _ q=>q) (λ c q=>by
  rw[af λ z=>by rw[z,e] at q;cases q];exact q) λ c xs q=>by
  rw[af λ z=>by rw[z,e] at q;cases q];exact q
 refine⟨I.ok,I.os,I.bare,⟨I.base.keep,I.base.slot,λ b ob q n hx=>nn b (I.base.free b ob q n hx),I.base.there,λ b xs q=>?_,λ b ob u q=>?_,λ b ps q=>?_⟩,I.loc,I.cell,nn _ I.free,λ x c q=>nn c (I.freeC x c q),λ p hp=>?_,λ b u q=>?_,I.len⟩
 ·have h:=I.base.tups b xs q;rw[af λ z=>by rw[z,e] at h;cases h];exact h
 ·have h:=I.base.frzs b ob u q;rw[af (λ z=>hn ob u (by rw[← z];exact q))];exact h
 ·obtain⟨m,h⟩:=I.base.tbls b ps q;exact⟨m,by rw[af λ z=>by rw[z,e] at h;cases h];exact h⟩
 ·obtain⟨h1,h2,h3⟩:=I.pin p hp;exact⟨h1,nn _ h2,h3⟩
 ·by_cases hb:b=a
  ·subst hb;rw[ae] at q;cases q;exact st (I.hok b _ e).2
  ·rw[af hb] at q;exact st (I.hok b u q)
def Gj(kv:Key×V):V:=kV kv.1
def Ja(kv:Key×V):V:=kv.2
def Itd(pk:Key×V->V)(a:Addr)(o:Obj)(kvs:List (Key×V)):It:=
 ⟨λ i H=>H a=some (.frz o (.dK kvs))/\i<kvs.length,λ i H x H'=>H'=H/\∃ kv,kvs[i]?=some kv/\x=pk kv,λ i H=>H a=some (.frz o (.dK kvs))/\i=kvs.length⟩
theorem MA(r:KV kvs vs):∀ {i:Nat} {kv:Key×V},kvs[i]?=some kv->∃ x,vs[i]?=some (kv.1,x):=by
 induction r with
 |nil=>intro i kv h;simp at h
 | @cons p q ps qs h t ih=>
  intro i kv e
  cases i with
  |zero=>simp at e;subst e;exact ⟨q.2,by simp [h.1]⟩
  |succ i=>obtain ⟨x,hx⟩:=ih (i:=i) (kv:=kv) (by exists e);exact ⟨x,(by exists hx)⟩
theorem jV{es:Array DictEntry}(I:Inv X pins σ H s)(hd:o.data=.dict es ep)(e:H a=some (.frz o (.dK kvs))):∃ vs,KV kvs vs/\kvs.length=vs.length/\s.heap.DictAt (aq X.prog X.w) a vs ep:=by
 obtain⟨ho,hz,hS,vs,rv,o',es',ep',h1,h2,h3,h4⟩:=(show ObjOk X.prog X.w H s.heap a (.frz o (.dK kvs)) from I.hok a _ e);rw[ho] at h1;cases h1;rw[hd] at h3;cases h3;exact⟨vs,rv,aa1 rv,o,es,ho,h2,hd,h4⟩
theorem sX{K:Frag}{es:Array DictEntry}(hd:o.data=.dict es ep):Turn P w K tg (Itd Gj a o kvs) [it] it (λ i h=>h.IsKeyIter it a i kvs.length ep) where
 mem:=by simp
 obj:=λ i h st b hb=>by
  have e:b=it:=(by exists hb);subst e;obtain⟨o,e,c,d⟩:=st;exact⟨o,e,λ v z=>by rw[d] at z;cases z⟩
 keep:=λ i h h' st k=>st.at λ o e=>k it (by simp) o e
 item:=by
  intro X hP hw hK hc i pins s σ H E I hf st hg;subst hP hw hK;obtain⟨e,hlt⟩:=hg;obtain⟨vs,rv,hl,hat⟩:=jV I hd e;obtain⟨x,hx⟩:=MA rv (List.getElem?_eq_getElem hlt);obtain⟨f0,f1,f2,f3,f4,f5⟩:=hf it (by simp);have st0:s.heap.IsKeyIter it a i vs.length ep:=hl ▸ st;refine wpAny_pyNext_dict_item (knd:=aq X.prog X.w) st0 hat hx λ key h' hkey st' sb=>?_;have I1:Inv X pins σ H { s with heap:=h' }:=I.turned (t':=s.toks) (λ b o hb e=>(sb.2 b hb).trans e) f0 f1 f3 f4 f5;rw[← hl] at st';obtain⟨o2,e2,c2,d2⟩:=id st';refine⟨key,rfl,iM (s:={ s with heap:=h' }) e2 c2 d2 (by decide) ⟨kV kvs[i].1,H,I1,?_,⟨rfl,_,List.getElem?_eq_getElem hlt,rfl⟩,st',λ b hb=>(hf b hb).1⟩⟩;rcases aV (show jt kvs[i].1 key=true from hkey) with ⟨j,t,q1,q2⟩|⟨z,t,q1,q2⟩
  ·rw[q1,q2];exact⟨t,rfl⟩
  ·rw[q1,q2];exact⟨t,rfl⟩
 done:=by
  intro X hP hw hK hc i pins s σ H E I hf st hg;subst hP hw hK;obtain⟨e,hlt⟩:=hg;obtain⟨vs,rv,hl,hat⟩:=jV I hd e;obtain⟨f0,f1,f2,f3,f4,f5⟩:=hf it (by simp);have st0:s.heap.IsKeyIter it a i vs.length ep:=hl ▸ st;exact wpAny_pyNext_dict_end (knd:=aq X.prog X.w) (I.ok.hd hc) st0 hat (by simp;nofun) λ h' eb=>⟨rfl,I.turned (t':=s.toks) (λ b o hb e=>eb b o hb e) f0 f1 f3 f4 f5⟩
 self:=λ _ _ _ _ _ st h=>wpAny_pyIter_keyiter st h
theorem Jb(r:KV kvs vs):∀ {i:Nat} {kv:Key×V},kvs[i]?=some kv->∃ x,vs[i]?=some (kv.1,x)/\RelV kv.2 x:=by
 induction r with
 |nil=>intro i kv h;simp at h
 | @cons p q ps qs h t ih=>
  intro i kv e
  cases i with
  |zero=>simp at e;subst e;exact ⟨q.2,by simp [h.1],h.2⟩
  |succ i=>obtain ⟨x,hx,hr⟩:=ih (i:=i) (kv:=kv) (by exists e);exact ⟨x,(by exists hx),hr⟩
theorem sY{K:Frag}{es:Array DictEntry}(hd:o.data=.dict es ep):Turn P w K tg (Itd Ja a o kvs) [it] it (λ i h=>h.IsValIter it a i kvs.length ep) where
 mem:=by simp
 obj:=λ i h st b hb=>by
  have e:b=it:=(by exists hb);subst e;obtain⟨o,e,c,d⟩:=st;exact⟨o,e,λ v z=>by rw[d] at z;cases z⟩
 keep:=λ i h h' st k=>st.at λ o e=>k it (by simp) o e
 item:=by
  intro X hP hw hK hc i pins s σ H E I hf st hg;subst hP hw hK;obtain⟨e,hlt⟩:=hg;obtain⟨vs,rv,hl,hat⟩:=jV I hd e;obtain⟨x,hx,hr⟩:=Jb rv (List.getElem?_eq_getElem hlt);obtain⟨f0,f1,f2,f3,f4,f5⟩:=hf it (by simp);have st0:s.heap.IsValIter it a i vs.length ep:=hl ▸ st;refine wpAny_pyNext_values_item (knd:=aq X.prog X.w) st0 hat hx λ h' st' sb=>?_;have I1:Inv X pins σ H { s with heap:=h' }:=I.turned (t':=s.toks) (λ b o hb e=>(sb.2 b hb).trans e) f0 f1 f3 f4 f5;rw[← hl] at st';obtain⟨o2,e2,c2,d2⟩:=id st';exact⟨x,rfl,iM (s:={ s with heap:=h' }) e2 c2 d2 (by decide) ⟨kvs[i].2,H,I1,hr,⟨rfl,_,List.getElem?_eq_getElem hlt,rfl⟩,st',λ b hb=>(hf b hb).1⟩⟩
 done:=by
  intro X hP hw hK hc i pins s σ H E I hf st hg;subst hP hw hK;obtain⟨e,hlt⟩:=hg;obtain⟨vs,rv,hl,hat⟩:=jV I hd e;obtain⟨f0,f1,f2,f3,f4,f5⟩:=hf it (by simp);have st0:s.heap.IsValIter it a i vs.length ep:=hl ▸ st;exact wpAny_pyNext_values_end (knd:=aq X.prog X.w) (I.ok.hd hc) st0 hat (by simp;nofun) λ h' eb=>⟨rfl,I.turned (t':=s.toks) (λ b o hb e=>eb b o hb e) f0 f1 f3 f4 f5⟩
 self:=λ _ _ _ _ _ st h=>wpAny_pyIter_valiter st h
def lh(pk:Key×V->V)(tl:TE):TI:=λ σ H R=>tl σ H λ x H1=>∃ a kvs,x=.ref a/\H1 a=some (.dK kvs)/\∀ o,R (Itd pk a o kvs) (upd H1 a (.frz o (.dK kvs)))
theorem D0(hl:PE X l tl):PI X tg l (lh Gj tl):=by
 intro pins s σ H R I h;refine thn (hl pins s σ H _ I h) λ v s1 ⟨x,H1,I1,r1,q1⟩=>?_;obtain⟨a,kvs,e,hq,q⟩:=q1;subst e;cases r1;obtain⟨hz,hS,vs,rv,o,es,ep,h1,h2,h3,h4⟩:=(show ObjOk X.prog X.w H1 s1.heap a (.dK kvs) from I1.hok a _ hq);have hlv:kvs.length=vs.length:=aa1 rv;refine wpAny_pyIter_dict (knd:=aq X.prog X.w) hS ⟨o,es,h1,h2,h3,h4⟩ ?_;have I2:=I1.kept (t':=s1.toks) (h':=s1.heap.push { cls:=.type "dict_keyiterator", data:=.fields #[.ref a,.int 0 0,.int vs.length 0,.int ep 0] }) λ b o e=>Heap.get?_push_of_some _ e;have I3:=I2.frozen hq (Heap.get?_push_of_some _ h1);refine⟨s1.heap.objs.size,[s1.heap.objs.size],_,_,_,rfl,I3,sX h3,⟨_,Heap.get?_push_size _ rfl,rfl,by rw[hlv];rfl⟩,λ b hb=>?_,q o⟩;have e:b=s1.heap.objs.size:=(by exists hb);subst e;have hf:=I1.hok.fresh (aac s1.heap.objs.size);exact I1.fpOk (aac _) (by rw[af λ z=>by rw[z,hq] at hf;cases hf];exact hf)
theorem D3(hl:BE X l tl):BI X tg l (lh Gj tl):=⟨D0 hl.h⟩
theorem D4(hl:PE X l tl)(hbase:attributeBase l "values" X.env (eval l X.env)=eval l X.env)(hline:(apos.endLine==cpos.line)=true):PI X tg (.Call (.Attribute l "values" apos) [] [] cpos) (lh Ja tl):=by
 intro pins s σ H R I h;refine wpAny_Call_method0_late hbase hline (thn (hl pins s σ H _ I h) λ v s1 ⟨x,H1,I1,r1,q1⟩=>?_);obtain⟨a,kvs,e,hq,q⟩:=q1;subst e;cases r1;obtain⟨hz,hS,vs,rv,o,es,ep,h1,h2,h3,h4⟩:=(show ObjOk X.prog X.w H1 s1.heap a (.dK kvs) from I1.hok a _ hq);have hlv:kvs.length=vs.length:=aa1 rv;obtain⟨t1,t2,_⟩:=m7 I1 (.inl ⟨kvs,.inl hq⟩);refine⟨"dict", "dict.values", aa7,PySem.F.slot_dict_values,PySem.F.type_dict_values,t1,t2,?_⟩;refine aaY rfl (PySem.evalArgs_none ?_);have hdo:s1.heap.DictOf (aq X.prog X.w) a vs:=⟨o,es,ep,h1,h2,h3,h4⟩;refine call_meetsIn PySem.F.slot_dict_values hdo.typeIs PySem.F.entry_dict_values (PySem.F.args_dict_values_1 _) (meets_dict_values (aq X.prog X.w) a hS) ⟨⟨vs,hdo⟩,?_⟩;have hp1:∀ b u,s1.heap.get? b=some u->(s1.heap.push { cls:=.type "dict_values", data:=.fields #[.ref a] }).get? b=some u:=λ b u e=>Heap.get?_push_of_some _ e;refine wpAny_pyIter_values (knd:=aq X.prog X.w) (v:=s1.heap.objs.size) (d:=a) ⟨_,Heap.get?_push_size _ rfl,rfl,rfl⟩ ⟨o,es,hp1 a o h1,h2,h3,h4⟩ ?_;have I2:=I1.kept (t':=s1.toks) (h':=(s1.heap.push { cls:=.type "dict_values", data:=.fields #[.ref a] }).push { cls:=.type "dict_valueiterator", data:=.fields #[.ref a,.int 0 0,.int vs.length 0,.int ep 0] }) λ b o e=>Heap.get?_push_of_some _ (hp1 b o e);have I3:=I2.frozen hq (Heap.get?_push_of_some _ (hp1 a o h1));refine⟨(s1.heap.push { cls:=.type "dict_values", data:=.fields #[.ref a] }).objs.size,[(s1.heap.push { cls:=.type "dict_values", data:=.fields #[.ref a] }).objs.size],_,_,_,rfl,I3,sY h3,⟨_,Heap.get?_push_size _ rfl,rfl,by rw[hlv];rfl⟩,λ b hb=>?_,q o⟩;have e:b=(s1.heap.push { cls:=.type "dict_values", data:=.fields #[.ref a] }).objs.size:=(by exists hb);subst e;have hle:s1.heap.objs.size<=(s1.heap.push { cls:=.type "dict_values", data:=.fields #[.ref a] }).objs.size:=by rw[aaU];exact aaX _
 have hf:=I1.hok.fresh hle;exact I1.fpOk hle (by rw[af λ z=>by rw[z,hq] at hf;cases hf];exact hf)
theorem D5(hl:BE X l tl)(hbase:attributeBase l "values" X.env (eval l X.env)=eval l X.env)(hline:(apos.endLine==cpos.line)=true):BI X tg (.Call (.Attribute l "values" apos) [] [] cpos) (lh Ja tl):=⟨D4 hl.h hbase hline⟩
def pY(t:TE):TE:=λ σ H Q=>t σ H λ v H'=>∃ a o kvs,H a=some (.dK kvs)/\H' a=some (.frz o (.dK kvs))/\Q v (upd H' a (.dK kvs))
theorem Inv.nofrz(I:Inv X pins σ H s)(e:H a=some (.dK kvs)):∀ o' u',X.H₀ a≠some (.frz o' u'):=λ o' u' z=>by
 have:=I.base.frzs a o' u' z;rw[e] at this;cases this
theorem D6(h:BE X e t):BE X e (pY t):=⟨by
 intro pins s σ H Q I q;refine thn (h.h pins s σ H _ I q) λ v s1 ⟨x,H1,I1,r1,a,o,kvs,e0,e1,q1⟩=>?_;exact⟨x,_,I1.thaw e1 (I.nofrz e0),r1,q1⟩⟩
theorem D7(h:BS X st (o5 t (eM i))):BS X st (o5 (pY t) (eM i)):=⟨by
 intro pins s σ H D I q;refine thn (h.h pins s σ H { D with nx:=λ σ' H'=>∃ a o kvs,H a=some (.dK kvs)/\H' a=some (.frz o (.dK kvs))/\D.nx σ' (upd H' a (.dK kvs)) } I q) λ f s1 q1=>?_
 cases f with
 | next=>
  obtain⟨σ',H',I',a,o,kvs,e0,e1,q2⟩:=q1;exact⟨σ',_,I'.thaw e1 (I.nofrz e0),q2⟩
 |brk=>exact q1
 |cont=>exact q1
 |ret u=>exact q1⟩
end
def fzo:Option OV->Option OV
 |some (.fz d)=>some (.fz d)
 |_=>none
def nN(sel:List Key->List D->List D)(no i:Nat)(fg:FG)(ft:FT)(fe:FE):FE:=λ ρ Q=>match unD ρ i with
 |some (ks,ds)=>jG (List.replicate no none++(ρ.map fzo).set i (some (.fz (.dct ks ds)))) (dL fg ft fe (λ as _=>(∃ zs:List Str,as=zs.map .str)/\Q (.ov (.fl as)) ρ) (sel ks ds) [])
 |none=>False
def MB:List Key->List D->List D:=λ ks _=>ks.map xt
def MC:List Key->List D->List D:=λ _ ds=>ds
def AB(no i:Nat)(fg:FG)(ft:FT)(fe:FE):FE:=nN MB no i fg ft fe
section
variable {K:Frag} 
theorem Slots.fzo{F H:Hp}:∀ {σ:St} {ρ:FSt} {A:List Addr},Slots K F H σ ρ A->Slots K F H σ (ρ.map fzo) []
 |_,_,_,.nil=>.nil
 |_,_,_,.skip t=>.skip (Slots.fzo t)
 | _,_,_,.has (o:=o) h t=>by
  cases h with
  |fz d=>exact .has (A:=[]) (B:=[]) (.fz d) (Slots.fzo t)
  |_=>exact .skip (Slots.fzo t)
theorem D8(k:Key):Den K F (kV k) (xt k):=by
 cases k with
 |inl i=>exact .int i
 |inr z=>exact .str z
def D9(K:Frag)(pk:Key×V->V)(sel:List Key->List D->List D):Prop:=∀ (F:Hp) (ys:List (Key×V)) ks ds,ys.map (·.1)=ks->Dens K F (ys.map (·.2)) ds->(sel ks ds).length=ys.length/\∀ (i:Nat) kv,ys[i]?=some kv->∃ e,(sel ks ds)[i]?=some e/\Den K F (pk kv) e
theorem Ea:D9 K Gj MB:=λ F ys ks ds h1 h2=>⟨by show (ks.map xt).length=_;rw[← h1,abK,abK],λ i kv e=>⟨xt kv.1,by show (ks.map xt)[i]?=_;rw[← h1,aav,List.getElem?_map,e];rfl,D8 kv.1⟩⟩
theorem Eb:D9 K Ja MC:=λ F ys ks ds h1 h2=>⟨by show ds.length=_;rw[← h2.length,abK],λ i kv e=>h2.get' (by rw[List.getElem?_map,e];rfl)⟩
theorem nO{pk:Key×V->V}{sel:List Key->List D->List D}(hs:D9 K pk sel)(hj0:μ[j0]?=some i0)(hix:∀ j∈ixs,j<μ.length)(hg:GF K (muC no ixs μ) T g fg)(hT:∀ i∈T,i<no)
  (hc:TF K (muC no ixs μ) tc fc) (he:EF K (muC no ixs μ) te fe):EF K μ (pY (et no ixs (lh pk (db j0)) g tc te)) (nN sel no i0 fg fc fe):=⟨by
 intro F Z H τ σ ρ A Q P vw R h q;unfold nN at h;split at h
 case h_2=>exact h.elim
 rename_i ks ds e0;obtain⟨a0,ys,g1,g2,g3,g4,_⟩:=R.mutD e0
 have ha0:a0∈A:=by
  have e:=kW e0;obtain⟨v,B,A',h1,h2,h3,h4⟩:=R.sl.take e;rw[g1] at h1;cases h1
  cases h2 with
  |fd=>exact h3.mem_iff.mpr (by simp)
 obtain⟨hF0,hZ0⟩:=R.fr a0 ha0;refine⟨.ref a0,(vw j0 i0 hj0).1.trans g1,a0,ys,rfl,g2,λ o D hD=>?_⟩;rw[dY] at h;have hDa:D≠a0:=λ z=>by rw[z,ae] at hD;cases hD
 have hDH:H D=none:=by rw[af hDa] at hD;exact hD
 -- what is one's own is held
 obtain⟨Z',hin,hout⟩:=mix (A.filter λ b=>decide (b≠a0)) H Z;have inB:∀ b,b∈A->b≠a0->b∈A.filter λ b=>decide (b≠a0):=λ b h1 h2=>abX.mpr ⟨h1,decide_eq_true h2⟩;have ofB:∀ b,b∈(A.filter λ b=>decide (b≠a0))->b∈A/\b≠a0:=λ b hb=>⟨(abX.mp hb).1,of_decide_eq_true (abX.mp hb).2⟩
 have sz:Same Z Z':=λ b u z=>by
  rw[hout b λ y=>by rw[(R.fr b (ofB b y).1).2] at z;cases z];exact z
 have zA:Z' a0=none:=by rw[hout a0 λ y=>(ofB a0 y).2 rfl];exact hZ0
 have zD:Z' D=none:=by
  rw[hout D λ y=>by
   obtain⟨u,hu⟩:=R.sl.live D (ofB D y).1;rw[hDH] at hu;cases hu]
  exact R.zh.free hDH
 have fD0:F D=none:=R.fh.free hDH
 let F1:Hp:=upd F a0 (.frz o (.dK ys))
 let H1:Hp:=upd (upd H a0 (.frz o (.dK ys))) D (.lst [])
 have sF:Same F F1:=λ b u z=>by rw[show F1 b=F b from af λ y=>by rw[y,hF0] at z;cases z];exact z
 have fh1:Same F1 H1:=λ b u z=>by
  have bD:b≠D:=λ y=>by rw[y,show F1 D=F D from af hDa,fD0] at z;cases z
  rw[show H1 b=upd H a0 (.frz o (.dK ys)) b from af bD];by_cases hb:b=a0
  ·subst hb;rw[ae];rw[show F1 b=some (.frz o (.dK ys)) from ae] at z;exact z
  ·rw[af hb];rw[show F1 b=F b from af hb] at z;exact R.fh b u z
 have zh1:SameN Z' H1:=⟨λ b u z=>by
  have bD:b≠D:=λ y=>by rw[y,zD] at z;cases z
  have ba:b≠a0:=λ y=>by rw[y,zA] at z;cases z
  rw[show H1 b=upd H a0 (.frz o (.dK ys)) b from af bD,af ba];by_cases hb:b∈A.filter λ b=>decide (b≠a0)
  ·rw[hin b hb] at z;exact z
  ·rw[hout b hb] at z;exact R.zh.s b u z,λ b xs z=>by
  by_cases hb:b∈A.filter λ b=>decide (b≠a0)
  ·rw[hin b hb] at z;exact R.sl.nt b (ofB b hb).1 xs z
  ·rw[hout b hb] at z;exact R.zh.n b xs z⟩
 have dj1:∀ b u,F1 b=some u->Z' b=none:=λ b u z=>by
  by_cases hb:b=a0
  ·rw[hb];exact zA
  ·rw[show F1 b=F b from af hb] at z;rw[hout b λ y=>by rw[(R.fr b (ofB b y).1).1] at z;cases z];exact R.dj b u z
 have sl0:Slots K F1 H1 σ (ρ.map fzo) []:=(R.sl.fzo).keep sF λ _ _ z=>nomatch z;have hi0:i0<ρ.length:=(List.getElem?_eq_some_iff.mp (kW e0)).1;have en:(ρ.map fzo)[i0]?=some none:=by rw[List.getElem?_map,kW e0];rfl
 obtain⟨A2,p2,sl2⟩:=sl0.put (i:=i0) (B:=[]) en g1 (.fz (.dct (.inr ⟨o,ae⟩) g3 (g4.mono sF)));have eA2:A2=[]:=(by exists p2);subst eA2;have R1:Rel K F1 Z' H1 (List.replicate no none++σ) (List.replicate no none++(ρ.map fzo).set i0 (some (.fz (.dct ks ds)))) []:=⟨sl2.none_app no,aaB,λ _ z=>(nomatch z),fh1,zh1,dj1⟩;have fD1:F1 D=none:=by rw[show F1 D=F D from af hDa];exact fD0
 have frzA:∀ {F' H' σ' ρ' A'},Same F1 F'->Rel K F' Z' H' σ' ρ' A'->H' a0=some (.frz o (.dK ys)):=λ s' R'=>R'.fh _ _ (s' _ _ ae);have hkl:(sel ks ds).length=ys.length:=(hs F ys ks ds g3 g4).1
 refine⟨λ i k acc τ' H'=>k=ys.length - i/\i<=ys.length/\∃ F' ρ' A' σ' as,Same F1 F'/\Rel K F' Z' H' σ' ρ' A'/\View (muC no ixs μ) τ' σ'/\H' D=some (.lst acc)/\F' D=none/\D∉A'/\Dens K F' acc as /\
   dL fg fc fe (λ as _=>(∃ zs:List Str,as=zs.map .str)/\P (.ov (.fl as)) ρ) ((sel ks ds).drop i) as ρ',
  ⟨_,rfl,aaq _,F1,_,[],_,[],Same.refl _,R1,ij vw hix,ae,fD1,(λ z=>nomatch z),.nil,by rw[aa4];exact h⟩,?_⟩
 rintro i k acc τ' H' ⟨rfl,hle,F',ρ',A',σ',as,s',R',vw',hDl,hFD,hAD,dn,h'⟩;by_cases hlt:i<ys.length
 ·have hlt':i<(sel ks ds).length:=by rw[hkl];exact hlt
  rw[aaw hlt',ii] at h'
  refine .inr ⟨⟨frzA s' R',hlt⟩,λ acc τ' H'=>∃ F' ρ' A' σ' as,Same F1 F'/\Rel K F' Z' H' σ' ρ' A'/\View (muC no ixs μ) τ' σ'/\H' D=some (.lst acc)/\F' D=none/\D∉A'/\Dens K F' acc as /\
   dL fg fc fe (λ as _=>(∃ zs:List Str,as=zs.map .str)/\P (.ov (.fl as)) ρ) ((sel ks ds).drop (i+1)) as ρ',λ acc' σ2 H2 z=>⟨_,by nofun,rfl,hlt,z⟩,λ x H2 y=>?_⟩
  obtain⟨rfl,kv,hkv,rfl⟩:=y;obtain⟨el,hel,del⟩:=(hs F ys ks ds g3 g4).2 i kv hkv
  have ekey:(sel ks ds)[i]=el:=by
   rw[List.getElem?_eq_getElem hlt'] at hel;exact aaj hel
  rw[ekey] at h';refine hg.h vw' R' (del.mono (sF.trans s')) h' fun τ2 σ2 ρ2 A2 p2 vw2 R2 k2 kl2 _ m2=>?_
  have fD:Fresh F' Z' A2 [D]:=⟨by simp,λ b hb=>by
   have:b=D:=(by exists hb);subst this;exact⟨hFD,zD,λ z=>hAD (m2 _ z)⟩⟩
  obtain⟨Z2,sz2,R2',zl,back⟩:=R2.hold (B:=[D]) (λ b hb=>by
   have:b=D:=(by exists hb);subst this;exact⟨_,hDl⟩) (.one hDl (λ _ z=>nomatch z) .nil) fD
  refine hc.h vw2 R2' p2 λ b ρ3 F3 H3 A3 p3 s3 R3=>?_
  cases b with
  | false=>
   replace p3:=vI p3;rw[if_neg abP];obtain⟨R3',f3,k3⟩:=back _ _ _ _ s3 R3;have fa:=f3.fr D (by simp);exact⟨F3,ρ3,A3,σ2,as,s'.trans s3,R3',vw2,k3 D _ (by simp) hDl,fa.1,fa.2.2,dn.mono s3,p3⟩
  | true=>
   replace p3:=vH p3;rw[if_pos rfl];refine he.h vw2 R3 p3 λ r ρ4 v F4 H4 A4 B4 p4 s4 R4 v4 f4=>?_;split at p4
   ·rename_i y ρ5 e5;obtain⟨F5,A5,s5,R5,dy,_,_⟩:=R4.frz v4 f4 e5;obtain⟨R5',f5,k5⟩:=back _ _ _ _ ((s3.trans s4).trans s5) R5;have fa:=f5.fr D (by simp);refine⟨k5 D _ (by simp) hDl,by rw[dn.length];exact p4.1,F5,ρ5,A5,σ2,as++[y],((s'.trans s3).trans s4).trans s5,R5'.write fa.2.2 fa.1 zD,vw2,ae,fa.1,fa.2.2,(dn.mono ((s3.trans s4).trans s5)).snoc dy,p4.2⟩
   ·exact p4.elim
 ·have e:i=ys.length:=by nofun
  subst e;rw[← hkl,abb,ig] at h';obtain⟨⟨zs,rfl⟩,h'⟩:=h';refine .inl ⟨⟨frzA s' R',rfl⟩,a0,o,ys,g2,frzA s' R',?_⟩;have ex:=dn.strs_eq;subst ex
  have sl3:Slots K F (upd H' a0 (.dK ys)) σ ρ A:=R.sl.keep (Same.refl _) λ b u hb hu=>by
   by_cases hba:b=a0
   ·subst hba;rw[ae];rw[g2] at hu;exact hu
   ·rw[af hba];exact R'.zh.s b u (by rw[hin b (inB b hb hba)];exact hu)
  have R3:Rel K F Z (upd H' a0 (.dK ys)) σ ρ A:=⟨sl3,R.nd,R.fr,λ b u z=>by
   rw[af λ y=>by rw[y,hF0] at z;cases z];exact R'.fh b u (s' b u (sF b u z)),⟨λ b u z=>by
   rw[af λ y=>by rw[y,hZ0] at z;cases z];exact R'.zh.s b u (sz b u z),R.zh.n⟩,R.dj⟩
  refine q _ _ _ F _ A [D] h' (Same.refl _) R3 (.fl (by rw[af hDa];exact hDl) (Dens.strs zs)) ⟨by simp,λ b hb=>?_⟩;have:b=D:=(by exists hb);subst this
  exact⟨fD0,R.zh.free hDH,λ z=>by
   obtain⟨u,hu⟩:=R.sl.live b z;rw[hDH] at hu;cases hu⟩⟩
theorem sZ(h:j<n)(hix:∀ j∈ixs,j<(List.range n).length)(hg:GF K (muC no ixs (List.range n)) T g fg)(hT:∀ i∈T,i<no)
  (hc:TF K (muC no ixs (List.range n)) tc fc) (he:EF K (muC no ixs (List.range n)) te fe):EF K (List.range n) (pY (et no ixs (lh Gj (db j)) g tc te)) (AB no j fg fc fe):=nO Ea (by simp[h]) hix hg hT hc he
end
theorem xJ :BS X st qz:=⟨vR⟩
def eD:FS:=λ _ _=>False
theorem xK{K:Frag}{m:List Nat}:SF K n m qz eD:=⟨λ _ _ _ h=>h.elim⟩
theorem mE{c:FT}{f g:FS}{E:FEnds}(I:FSt->Prop)(rest:∀ ρ,I ρ->E.nx ρ)(h:(∀ ρ,I ρ->E.nx ρ)->c ρ λ b ρ1=>br b (f E ρ1) (g E ρ1)):fIf c f g E ρ:=aB (h rest)
section
variable {K:Frag} 
end
end L2
namespace L2
open PySem PySem.Spec PyProof.Rows PyProof.Rows
section
variable {X:Cx} {pins:List (Addr×Obj)} {σ:St} {H:Hp} {s:Shared}
end
section
variable {K:Frag} {n:Nat} {m:List Nat} {G:Hp->Prop}
end
end L2
namespace L2
open PySem PySem.Spec PyProof.Rows
variable{X:Cx}{pins:List (Addr×Obj)}{σ:St}{H:Hp}{s:Shared}
end L2
namespace L2
open PySem PySem.W PySem.Spec PyProof.Rows PySem.Calls PySem.Builtin PySem.Builtin.ObjectAttr PySem.Builtin.Getset_descriptor
section
variable {prog:Program} {w:World} {A:Around} {E:Value->Shared->Prop} {s:Shared} {K:Frag} {a C:Addr} {o:Obj}
end
section
variable {X:Cx}
end
end L2
namespace HT
open PySem PySem.Spec PyProof.Rows
section
variable {prog:Program} {w:World} {A:Around} {E:Value->Shared->Prop} {s:Shared}
theorem getItem_tuple_all{t sl:Addr}{items:Array Value}{vl vu:Value}{lo hi:Option Int}{Q:Value->Shared->Prop}(ht:IsTup s.heap t items)(hs:s.heap.IsSliceOf sl vl vu .none)(pl:IsPart vl lo)(pu:IsPart vu hi)
  (hw:sIx items.size 0 lo=0/\sIx items.size items.size hi=items.size) (h:Q (.ref t) s):wpAny (model prog w) A (getItem (.ref t) (.ref sl)) Q E s:=by
 obtain⟨os,hos,hcs,hds⟩:=id hs;have hTs:s.TypeIs (.ref sl) "slice" := ⟨os,hos,hcs⟩;unfold getItem
 try with_reducible refine aaI ?_
 first|refine aaa (aae ?_)|skip
 refine aaa (wpAny_sequenceKey ht.typeIs (by decide) ?_)
 refine aaa (wpAny_callSpecial?_slot (name:=Str.ofString "__getitem__") ht.typeIs aa5
  (aaC aa5 ht.typeIs entry_tuple_getitem ?_ (args_tuple_getitem _ _)))
 show wpAny _ _ (Builtin.Tuple.tupleItemsOf (.ref t) >>= _) _ _ s;refine aaa (tupleItemsOf_ ht ?_);refine aaa (wpAny_typeOf hTs ?_);rw[if_pos (by decide)];refine aaa (du hs pl pu ?_);show wpAny _ _ (if (((sIx items.size 0 lo:Nat):Int)==0&&(1:Int)==1&&(sIx items.size items.size hi - sIx items.size 0 lo)==items.size)=true then _ else _) _ _ s;rw[if_pos (by rw[hw.1,hw.2];simp)];refine aaa (m:=Builtin.Tuple.tupleIsExact _) (aaa (wpAny_typeOf ht.typeIs (aae ?_)));rw[if_pos (by decide)]
 first
  |exact aaa (abH (aae ⟨_,rfl,aae h⟩))
  |exact aaa (abH (aaa (aae (aae ⟨_,rfl,aae h⟩))))
  |exact aaa (aaa (abH (aae (aae ⟨_,rfl,aae h⟩))))
  |exact aaa (aaa (abH (aae ⟨_,rfl,aae h⟩)))
end
end HT
namespace L2
open PySem PySem.Spec PyProof.Rows
variable{X:Cx}
def Jc(K:Frag):V->Option Int->Option Int->Hp->VK->Prop:=λ x lo hi H Q=>∃ a xs,x=.ref a/\SqT K H a xs/\HT.sIx xs.length 0 lo=0/\HT.sIx xs.length xs.length hi=xs.length/\Q (.ref a) H
theorem Ec:SlR X (Jc X.K):=by
 intro pins s σ H x v vl vu lo hi sl Q I rx hs pl pu h;obtain⟨a,xs,rfl,hx,w1,w2,q⟩:=h;cases rx;obtain⟨its,r,ht,hz⟩:=I.tuple hx;have hlen:its.toArray.size=xs.length:=by rw[abT];exact r.length.symm
 refine⟨"tuple", _,PyProof.Rows.slot_tuple_getitem.lookup,ht.typeIs,?_⟩;exact HT.getItem_tuple_all ht hs pl pu (by rw[hlen];exact⟨w1,w2⟩) ⟨.ref a,H,I,rfl,q⟩
def NJ(K:Frag):V->Option Int->Option Int->Hp->VK->Prop:=λ x lo hi H Q=>Hg K x lo hi H Q∨Jc K x lo hi H Q
theorem tf{a:Expr}{lo hi:Option Expr}{ta:TE}{tl th:TO}{pos spos:Pos}(K:Frag)(ha:BE X a ta)(hl:BO X lo tl)(hh:BO X hi th)(hK:X.K=K):BE X (.Subscript a (.Slice lo hi none spos) pos) (tSl (NJ K) ta tl th):=by
 subst hK;exact⟨mZ (Am.or Ec) ha.h hl.h hh.h⟩
section
variable {K:Frag} {μ:List Nat}
theorem tj{α:Type}{xs:List α}{lo hi:Option Int}(h1:HT.sIx xs.length 0 lo=0)(h2:HT.sIx xs.length xs.length hi=xs.length):g0 xs lo hi=xs:=by
 unfold g0;rw[h1,h2];simp
def MD:D->Option Int->Option Int->(OV->Prop)->Prop
 |.str z,lo,hi,P=>z.length<=sizeLine/\P (.fz (.str (jO z lo hi)))
 |.lst ds,lo,hi,P=>P (.fl (g0 ds lo hi))
 |.tup ds,lo,hi,P=>P (.fz (.tup (g0 ds lo hi)))
 |_,_,_,_=>False
theorem ME:SlF K (NJ K) MD:=⟨by
 intro F H x d lo hi Q P s hx f n;unfold MD at f;split at f
 ·exact .inl (jP.h s hx (by unfold aSl;exact f) n)
 ·exact .inl (jP.h s hx (by unfold aSl;exact f) n)
 ·rename_i ds;by_cases hw:HT.sIx ds.length 0 lo=0/\HT.sIx ds.length ds.length hi=ds.length
  ·have e:=tj hw.1 hw.2;rw[e] at f;have hx':=hx;obtain⟨a,xs,rfl,h1,h2⟩:=hx.asT s;refine .inr ⟨a,xs,rfl,h1,by rw[h2.length];exact hw.1,by rw[h2.length];exact hw.2,?_⟩
   cases hx' with
   |fz hd=>exact aG s n hd f
  ·exact .inl (jP.h s hx (by unfold aSl;exact⟨hw,f⟩) n)
 ·exact f.elim⟩
theorem xL{o e f:Expr}{apos cpos:Pos}{td ty tx:TE}(hu:X.A.units+64<cLine)(ho:BE X o td)(he:BE X e ty)(hf:BE X f tx)(m:M2 X o "get" apos e f cpos):BE X (.Call (.Attribute o "get" apos) [e,f] [] cpos) (rf td ty tx):=⟨wl (by nofun) ho.h he.h hf.h m⟩
end
mutual
def depD:D->Nat
 |.lst xs=>depDs xs+1
 |.tup xs=>depDs xs+1
 |_=>0
def depDs:List D->Nat
 |[]=>0
 |d::ds=>max (depD d) (depDs ds)
end
mutual
def okS:D->Bool
 |.lst xs=>okSs xs
 |.tup xs=>okSs xs
 |.dct _ _=>false
 |.ty _=>false
 |.gt _=>false
 |.dt _ _=>false
 |_=>true
def okSs:List D->Bool
 |[]=>true
 |d::ds=>okS d&&okSs ds
end
section
variable  {pins:List (Addr×Obj)} {σ:St} {H:Hp} {s:Shared}
end
section
variable {K:Frag}
end
end L2
namespace L2
open PySem PySem.Spec PyProof.Rows
open PySem.Builtin PySem.Builtin.Str
section
variable {X:Cx}
end
section
variable {K:Frag} {μ:List Nat}
end
end L2
namespace L2
open PySem PySem.Builtin PySem.Builtin.Str PySem.StrLaws
theorem fB(z:Str):z.length=z.cps.toList.length:=by simp[Str.length]
end L2
namespace L2
open PySem PySem.Spec PyProof.Rows PySem.W
section
variable {n:Nat} {lt:Nat->Nat->Bool}
end
section
variable {prog:Program} {w:World} {A:Around} {s:Shared} {C:Bool->Shared->Prop} {bb fn:Bool}
end
section
variable {X:Cx}
end
section
variable {K:Frag}
end
end L2
namespace L2
open PySem PySem.Spec PyProof.Rows
open PySem.Builtin PySem.Builtin.Str
section
variable {X:Cx}
end
section
variable {K:Frag} {μ:List Nat}
end
end L2
namespace L2
open PySem PySem.Spec PyProof.Rows
variable{X:Cx}{μ:List Nat}{A:Around}{E:Value->Shared->Prop}{s:Shared}
section
variable {K:Frag} 
end
section
variable {M:Model}   
end
section
variable {prog:Program} {w:World}   {R:Result->Shared->Prop} 
end
section
variable  {pins:List (Addr×Obj)} {σ:St} {H:Hp}  {T F:List Str} {ixs:List Nat} {scope:Scope} {fp:List Addr}
end
section
variable {K:Frag}  {G:Hp->Prop}
end
end L2
namespace L2
open PySem PySem.W PySem.Spec PyProof.Rows
variable{X:Cx}
end L2
namespace L2
open PySem PySem.Spec PyProof.Rows
section
variable {X:Cx}
end
section
variable {K:Frag} {μ:List Nat}
end
end L2
namespace L2
open PySem PySem.Spec PyProof.Rows
open PySem.Builtin PySem.Builtin.Str PySem.StrLaws
section
variable {X:Cx}
end
section
variable {K:Frag} {μ:List Nat}
end
end L2
namespace L2
open PySem PySem.Spec PyProof.Rows
variable{μ ixs T m:List Nat}{n no i j c k ix:Nat}{te tv td ty:TE}{fe fk fo:FE}{g:TG}{fg:FG}{tc:TT}{fc:FT}{t:TA}{fa:FA}{wi:TI}{ds:List D}{os:List OV}{X:Cx}{pos p:Pos}{y v:V}{x f q mn:Str}{e:Expr}{es:List Expr}{st:Stmt}{oc doc pm cdv ct:Value}{od an:Option Addr}{osl:Array (Option Value)}{Z F F' H H':Hp}{fd:FuncData}{ps:List FV}{σ:St}{ρ:FSt}{A B:List Addr}{a C:Addr}{o:Obj}{vs xs:List V}{α K:Type}{d:D}{cc:Ct}{prog:Program}{w:World}{E:Value->Shared->Prop}{s:Shared}{Q:Option Value->Shared->Prop}{ks:List (List Key)}
def eR(fa:FE):FT:=aH fa
def ci(_:List Nat)(no:Nat)(fi:FI)(fg:FG)(ft:FT)(fe:FE):FE:=IA no fi fg ft fe
def tm(_:List Nat)(no i:Nat)(fg:FG)(ft:FT)(fe:FE):FE:=nM no i fg ft fe
def tp(_:List Nat)(no i:Nat)(fg:FG)(ft:FT)(fe:FE):FE:=AB no i fg ft fe
def tq(_:List Nat)(no i:Nat)(fg:FG)(ft:FT)(fe:FE):FE:=nN MC no i fg ft fe
section
variable {K:Frag}    
theorem MF(h:j<n)(hg:GF K (muC no ixs (List.range n)) T g fg)(hT:∀ i∈T,i<no)(hix:∀ j∈ixs,j<(List.range n).length)
  (hc:TF K (muC no ixs (List.range n)) tc fc) (he:EF K (muC no ixs (List.range n)) te fe):EF K (List.range n) (pY (et no ixs (lh Ja (db j)) g tc te)) (tq ixs no j fg fc fe):=nO Eb (by simp[h]) hix hg hT hc he
theorem tf_B(ha:EF K μ te fe):TF K μ (tB te) (eR fe):=⟨(sq ha).h⟩
theorem xM{c:Ct}(ha:AF K μ t fa):EF K μ (ph (spM K c) [] E0 t) (am c fa):=su ha
theorem MG(h:μ[μ.idxOf i]?=some i):EF K μ (db (μ.idxOf i)) (ab i):=so h
theorem gf_c(h:decide (i<no)=true)(hn:(muC no ixs μ).Nodup):GF K (muC no ixs μ) [i] (eM i) (ac i):=sv (by
 unfold muC;rw[List.getElem?_append_left (by rw[ab4];exact of_decide_eq_true h)];simp[of_decide_eq_true h]) hn
theorem MH{fi:FI}(hi:ITF K μ wi fi)(hg:GF K (muC no ixs μ) T g fg)(hT:∀ i∈T,i<no)(hix:∀ j∈ixs,j<μ.length)
  (hc:TF K (muC no ixs μ) tc fc) (he:EF K (muC no ixs μ) te fe):EF K μ (et no ixs wi g tc te) (ci ixs no fi fg fc fe):=Dx hi hix hg hT hc he
theorem MI(h:j<n)(hg:GF K (muC no ixs (List.range n)) T g fg)(hT:∀ i∈T,i<no)(hix:∀ j∈ixs,j<(List.range n).length)
  (hc:TF K (muC no ixs (List.range n)) tc fc) (he:EF K (muC no ixs (List.range n)) te fe):EF K (List.range n) (et no ixs (l7 K (db j)) g tc te) (tm ixs no j fg fc fe):=sU h hix hg hT hc he
theorem MJ(h:j<n)(hg:GF K (muC no ixs (List.range n)) T g fg)(hT:∀ i∈T,i<no)(hix:∀ j∈ixs,j<(List.range n).length)
  (hc:TF K (muC no ixs (List.range n)) tc fc) (he:EF K (muC no ixs (List.range n)) te fe):EF K (List.range n) (pY (et no ixs (lh Gj (db j)) g tc te)) (tp ixs no j fg fc fe):=sZ h hix hg hT hc he
end
def Ed:List D->List Str
 |.str z::ds=>z::Ed ds
 |_=>[]
theorem MK{K:Frag}(h:(Ed ds).map D.str=ds):EF K μ (tGU K ((Ed ds).map V.str)) (fC (.gt ds)):=Mw λ _=>by
 conv=>arg 4;rw[← h]
 exact Dens.strs _
def Lv(m:List Nat):Nat->List OV->Bool
 |_,[]=>true
 |i,o::os=>(m.contains i || sC o)&&Lv m (i+1) os
theorem tt{m:List Nat}:∀ {os:List OV} {i:Nat},Lv m i os=true->∀ j o,os[j]?=some o->i+j∉m->sC o=true
 |[],_,_,_,_,e,_=>nomatch e
 | a::os,i,h,j,o,e,n=>by
  rw[Lv,abY,Bool.or_eq_true] at h
  cases j with
  | zero=>
   cases e;exact h.1.elim (λ z=>absurd (List.contains_iff_mem.mp z) n) id
  |succ j=>exact tt h.2 j o e (by rw [Nat.add_right_comm];exact n)
theorem lo_of(h1:os.length=n)(h2:Lv m 0 os=true):os.length=n/\∀ j o,os[j]?=some o->j∉m->sC o=true:=⟨h1,λ j o e hj=>tt h2 j o e (by rw[Nat.zero_add];exact hj)⟩
def tgN:Expr->List Str
 |.Name x _=>[x]
 | .Tuple es _ _=>es.filterMap λ e=>match e with
  |.Name x _=>some x
  |_=>none
 |_=>[]
def fvN(X:Cx)(ixs:List Nat):List Str:=ixs.map λ i=>X.N.getD i ""
theorem ML{l:List Str}(h:decide l.Nodup=true):l.Nodup:=of_decide_eq_true h
section
variable    {scope:Scope} {elt tg iter:Expr} {ifs:List Expr}     
theorem MM(hT:(tgN tg).length=no)(hc:X.calm=true)(S:CompScope X (tgN tg) (fvN X ixs) ixs scope)(hi:BI X tg iter wi)
  (hg:∀ C s H fp,BG (bC X (tgN tg++fvN X ixs) scope (aM X.env scope.names []) C s H fp) tg g) (ht:∀ C s H fp,BIf (bC X (tgN tg++fvN X ixs) scope (aM X.env scope.names []) C s H fp) ifs tc) (he:∀ C s H fp,BE (bC X (tgN tg++fvN X ixs) scope (aM X.env scope.names []) C s H fp) elt te)
  (hs:∀ x,foldedSetIterable iter X.env x=pure x):BE X (.ListComp elt [⟨tg,iter,ifs,0⟩] scope pos) (et no ixs wi g tc te):=hT ▸ CB hc S hi hg ht he hs
theorem MN{y:Str}{py spos:Pos}(hsw:swapsWith (.ListComp elt [⟨tg,iter,ifs,0⟩] scope pos) (some (.Name y py)) spos.line X.env=pure true)(hT:(tgN tg).length=no)(hc:X.calm=true)(S:CompScope X (tgN tg) (fvN X ixs) ixs scope)(hi:BI X tg iter wi)
  (hg:∀ C s H fp,BG (bC X (tgN tg++fvN X ixs) scope (aM X.env scope.names []) C s H fp) tg g) (ht:∀ C s H fp,BIf (bC X (tgN tg++fvN X ixs) scope (aM X.env scope.names []) C s H fp) ifs tc) (he:∀ C s H fp,BE (bC X (tgN tg++fvN X ixs) scope (aM X.env scope.names []) C s H fp) elt te)
  (hs:∀ x,foldedSetIterable iter X.env x=pure x) (hN:X.N.Nodup) (hix:X.N[i]?=some y) (hx:Loc X.env.scope y) (hf:X.fn y=true∨X.env.scope.names.lookup y=some .local) :
  BS X (.Assign [.Name y py] (.ListComp elt [⟨tg,iter,ifs,0⟩] scope pos) spos) (o5 (et no ixs wi g tc te) (eM i)):=hT ▸ Dc hc S hi hg ht he hs hN hix hx hsw hf
theorem xN{f:Value}{r:List V->Hp->VK->Prop}(hc:BCall X f r)(hm:X.mg x=none)(hv:bootBuiltins x=some f)(hf:(∃ id,f=.builtin id)∨∃ T,f=.type T)(ha:BA X (e::es) t)(hg:X.env.kindOf x=some .globalImplicit)(hns:(e::es).all bx=true)(hn:(x == "__name__")=false)
  (hdb:(x==("__debug__" : Str))=false):BE X (.Call (.Name x p) (e::es) [] pos) (tCB r t):=by
 have hn':x ≠ "__name__" := λ z=>by rw[z] at hn;exact absurd hn (by decide)
 rcases hf with ⟨id,rfl⟩|⟨T,rfl⟩
 ·exact wD hc hm hv ha hg hns hn' hdb
 ·exact wF hc hm hv ha hg hns hn' hdb
end
structure Df(K:Frag)(x:Str)(st:Stmt)(f:Addr)(fd:FuncData):Prop where
 ns:PySem.W.nsIn K mainGlobals x=some (some (.ref f))
 fn:Fun K x x st f fd
theorem df_mk{K:Frag}{f:Addr}{kV:Value}(a:PySem.W.nsIn K mainGlobals x=some (some (.ref f)))(l:K.lookup f=some ⟨oc,od,.func (PySem.W.fnOf x x (cG st) (bF st) (au st) .none kV doc pm an cdv ct),osl⟩)
  (c:PySem.W.codeIn K cdv x=true) (k:PySem.W.keepIn K (.ref f)=true):Df K x st f (PySem.W.fnOf x x (cG st) (bF st) (au st) .none kV doc pm an cdv ct):=⟨a,Ak l c k⟩
abbrev Lh(c:Ct)(n:Nat)(m:List Nat):Prop:=∀ os P,c os P->os.length=n/\∀ j o,os[j]?=some o->j∉m->sC o=true
abbrev Hh(c:Ct)(f:FS)(m:List Nat)(n:Nat):Prop:=∀ os P,c os P->f { nx:=fin m os P (.fz .non),rt:=fin m os P } (aj n os)
structure Zz where
 P:Program
 w:World
 K:Frag
 mg:Str->Option Value
 base:Heap
 h:Heap
structure TopZ(Z:Zz)(T:Prop):Prop where
 X:Z.K.In Z.h
 G:Z.h.Ns mainGlobals Z.mg
 T:T
abbrev cP(Z:Zz)(x:Str)(k:Nat)(ps:List Str)(c:Ct):Prop:=Own Z.P Z.w Z.K Z.mg Z.base x k ps (spM Z.K c)
section
variable {Z:Zz} {T:Prop}   {f:Addr}  {ps:List Str} {c:Ct} {fs:FS}  
theorem jW(N:List Str)(t:TopZ Z T)(D:Fun Z.K x q st f fd)(hlen:Lh c ps.length m)(hc:Hh c fs m n)(S:FnScope N ps (au st))
  (hbody:∀ (cdv:Value) (A:Around) (outer:List Env) (s:Shared) (H:Hp) (E:XK),T->N.Nodup->Room k (A.deeper (envOfC q (au st) s.heap.objs.size f cdv)) ->
   ∃ t,SF Z.K n m t fs/\BSs (qT CX0 Z.P Z.w Z.K Z.mg Z.base N q (au st) f cdv A outer s H E).nox (bF st) t) (hn:autoParam (N.length=n) L2.aR._auto_1) (hN:autoParam (ps.length<=n) L2.aD._auto_1) (hm:autoParam (∀ i∈m,i<ps.length) L2.aD._auto_1):FnOk Z.P Z.w Z.K Z.mg Z.base CX0 (k+1) f fd ps (spM Z.K c):=
 Fun.okG n m D S hn hN hlen hm (λ cdv A outer s H E hr=>let ⟨t,a,b⟩:=hbody cdv A outer s H E t.T S.nd hr;⟨t,b,a⟩) hc
theorem ax(N:List Str)(t:TopZ Z T)(D:Df Z.K x st f fd)(hlen:Lh c ps.length m)(hc:Hh c fs m n)
  (hb:∀ (kV doc pm:Value) (an:Option Addr) (cdv ct:Value) (us:List Value),us.length=ps.length->bindArgs (PySem.W.fnOf x x (cG st) (bF st) (au st) .none kV doc pm an cdv ct) ⟨us,[]⟩=pure (ps.zip us)) (S:FnScope N ps (au st))
  (hbody:∀ (cdv:Value) (A:Around) (outer:List Env) (s:Shared) (H:Hp) (E:XK),T->N.Nodup->Room k (A.deeper (envOfC x (au st) s.heap.objs.size f cdv)) ->
   ∃ t,SF Z.K n m t fs/\BSs (qT CX0 Z.P Z.w Z.K Z.mg Z.base N x (au st) f cdv A outer s H E).nox (bF st) t) (hn:autoParam (N.length=n) L2.aR._auto_1) (hN:autoParam (ps.length<=n) L2.aD._auto_1) (hm:autoParam (∀ i∈m,i<ps.length) L2.aD._auto_1):cP Z x (k+1) ps c:=
 ⟨f,fd,jW N t D.fn hlen hc S hbody hn hN hm,aaQ t.X t.G D.ns,D.fn.kp,D.fn.binds hb⟩
end
structure ClsF(K:Frag)(c:Nat)(C:Addr):Prop where
 ns:PySem.W.nsIn K mainGlobals (Dd c)=some (some (.ref C))
 cl:Cls K C
 na:∀ f∈cn c,NoAttr K C f
theorem dq(c:Nat):(cn c).Nodup:=by
 match c with
 |0=>decide +kernel
 |1=>exact aaB
 |_+2=>exact aaB
def unO(ρ:FSt)(i c:Nat):Option (Addr×List FV):=match ρ[i]? with
 | some (some (.ob ⟨a,c',ps⟩))=>(match Nat.beq c' c with
  |true=>some (a,ps)
  |false=>none)
 |_=>none
def Lw(a:Addr):OV->Option FV
 |.fz d=>some (.fz d)
 |.fl ds=>some (.fl a ds)
 |.fd ks ds=>some (.fd a ks ds)
 |.ft ks ds=>some (.ft a ks ds)
 |_=>none
def tu(as:Nat->Addr):Nat->List OV->Option (List FV)
 |_,[]=>some []
 | i,o::os=>match Lw (as i) o with
  | some p=>match tu as (i+1) os with
   |some ps=>some (p::ps)
   |none=>none
  |none=>none
def Jd(ps:List FV)(k:Nat)(g:FV):Option (List FV):=match Nat.blt k ps.length with
 |true=>some (ps.set k g)
 | false=>(match Nat.beq k ps.length with
  |true=>some (ps++[g])
  |false=>none)
section
variable {K:Frag}     
theorem tw(h:unO ρ i c=some (a,ps)):ρ[i]?=some (some (.ob ⟨a,c,ps⟩)):=by
 unfold unO at h;split at h
 ·rename_i a' c' ps' e;split at h
  ·rename_i e2;cases h;rw[e,Nat.eq_of_beq_eq_true e2]
  ·cases h
 ·cases h
def adr:V->Addr
 |.ref a=>a
 |_=>0
theorem Ow.part{o:OV}{g:FV}(h:Ow K F H v o B)(e:Lw (adr v) o=some g):Fw K F H v g B:=by
 cases h with
 |fz h=>cases e;exact .fz h
 |fl h t=>cases e;exact .fl h t
 |fd h q t=>cases e;exact .fd h q t
 |ft h q t=>cases e;exact .ft h q t
 |_=>cases e
theorem Ows.parts{as:Nat->Addr}(h:Ows K F H vs os B):∀ {ps:List FV} {i:Nat},(∀ j v,vs[j]?=some v->as (i+j)=adr v)->tu as i os=some ps->Fws K F H vs ps B:=by
 induction h with
 |nil=>intro ps i _ e;cases e;exact .nil
 | @cons v o _ os _ _ h t ih=>
  intro ps i ha e;unfold tu at e;have h0:as i=adr v:=ha 0 v rfl
  cases e1:Lw (as i) o with
  |none=>rw [e1] at e;cases e
  | some p=>
   cases e2:tu as (i+1) os with
   |none=>rw[e1,e2] at e;cases e
   | some ps'=>
    rw[e1,e2] at e;cases e;exact .cons (h.part (h0 ▸ e1)) (ih (λ j w hj=>by rw[show i+1+j=i+(j+1) by nofun];exact ha (j+1) w hj) e2)
theorem Fws.length{xs:List V}{ps:List FV}{B:List Addr}(h:Fws K F H xs ps B):xs.length=ps.length:=by
 induction h with
 |nil=>rfl
 |cons _ _ ih=>exact congrArg (·+1) ih
theorem Fws.at_(h:Fws K F H xs ps B):∀ {k:Nat} {g:FV},ps[k]?=some g->∃ x C B',xs[k]?=some x/\Fw K F H x g C/\B.Perm (C++B') /\
  ∀ F' H' y g' C',Same F F'->(∀ a u,a∈B'->H a=some u->H' a=some u)->Fw K F' H' y g' C'->∃ B'',Fws K F' H' (xs.set k y) (ps.set k g') B''/\B''.Perm (C'++B'):=by
 induction h with
 |nil=>intro k g e;cases e
 | @cons x o xs os A1 B1 h t ih=>
  intro k g e
  cases k with
  | zero=>
   cases e;exact⟨x,A1,B1,rfl,h,aaD _,λ F' H' y g' C' s k w=>⟨_,.cons w (t.keep s k),aaD _⟩⟩
  | succ k=>
   obtain⟨y,C,B',h1,h2,h3,h4⟩:=ih (k:=k) e
   have sw:∀ (C:List Addr),(A1++(C++B')).Perm (C++(A1++B')):=λ C=>by
    rw[← aas,← aas];exact abd _ abh
   refine⟨y,C,A1++B',h1,h2,(aaS A1 h3).trans (sw C),λ F' H' y' g' C' s k w=>?_⟩;obtain⟨B'',w1,w2⟩:=h4 F' H' y' g' C' s (λ a u ha=>k a u (aai _ ha)) w;exact⟨_,.cons (h.keep s λ a u ha=>k a u (aam _ ha)) w1,(aaS A1 w2).trans (sw C')⟩
theorem Fws.snoc{C:List Addr}{g:FV}(h:Fws K F H xs ps B)(w:Fw K F H y g C):∃ B',Fws K F H (xs++[y]) (ps++[g]) B'/\B'.Perm (C++B):=by
 induction h with
 |nil=>exact⟨_,.cons w .nil,aaD _⟩
 | @cons x o xs os A1 B1 h t ih=>
  obtain⟨B',h1,h2⟩:=ih;refine⟨_,.cons h h1,(aaS A1 h2).trans ?_⟩;rw[← aas,← aas];exact abd _ abh
theorem Rel.away(R:Rel K F Z H σ ρ A)(k:∀ a u,a∉B->H a=some u->H' a=some u)(f:∀ b∈B,F b=none/\Z b=none/\b∉A):Rel K F Z H' σ ρ A:=
 ⟨R.sl.keep (Same.refl _) λ a u ha h=>k a u (λ z=>(f a z).2.2 ha) h,R.nd,R.fr,λ a u h=>k a u (λ z=>by rw[(f a z).1] at h;cases h) (R.fh a u h),⟨λ a u h=>k a u (λ z=>by rw[(f a z).2.1] at h;cases h) (R.zh.s a u h),R.zh.n⟩,R.dj⟩
theorem Rel.chg{o:OV}(R:Rel K F Z H σ ρ A)(e:ρ[i]?=some (some o)):∃ v B,σ[i]?=some (some v)/\Ow K F H v o B/\B.Nodup/\(∀ b∈B,b∈A) /\
  ∀ H' o' B',(∀ a u,a∉B->H a=some u->H' a=some u)->Ow K F H' v o' B'->B'.Nodup->(∀ b∈B',b∈B∨(F b=none/\Z b=none/\b∉A))->∃ A',Rel K F Z H' σ (ρ.set i (some o')) A':=by
 obtain⟨v,B,A',h1,h2,R',f',pm⟩:=R.takeI e;refine⟨v,B,h1,h2,f'.nd,λ b hb=>pm.mem_iff.mpr (abL.mpr (.inl hb)),λ H' o' B' k w nd m=>?_⟩;obtain⟨A3,R3,_⟩:=(R'.away k f'.fr).putI (dX e) h1 w ⟨nd,λ b hb=>(m b hb).elim (f'.fr b) λ z=>⟨z.1,z.2.1,λ y=>z.2.2 (pm.mem_iff.mpr (abL.mpr (.inr y)))⟩⟩;rw[abA] at R3;exact⟨A3,R3⟩
theorem tD{fs:List (Str×V)}:∀ {k:Nat} {f:Str} {x:V},(fs.map (·.1)).Nodup->(fs.map (·.1))[k]?=some f->(fs.map (·.2))[k]?=some x->fs.lookup f=some x:=by
 induction fs with
 |nil=>intro k f x _ h;cases h
 | cons p fs ih=>
  intro k f x n h1 h2;obtain⟨n1,n2⟩:=abS.mp n
  cases k with
  |zero=>cases h1;cases h2;simp [List.lookup]
  | succ k=>
   have hm:f∈fs.map (·.1):=List.mem_of_getElem? h1;have:(f==p.1)=false:=beq_eq_false_iff_ne.mpr λ z=>n1 (show p.1∈_ from z ▸ hm);rw[aaG,this];exact ih (k:=k) n2 h1 h2
theorem Ee{fs:List (Str×V)}(h:f∉fs.map (·.1)):fs.lookup f=none:=by
 induction fs with
 |nil=>rfl
 | cons p fs ih=>
  rw[abM,abQ,not_or] at h;rw[aaG,beq_eq_false_iff_ne.mpr h.1];exact ih h.2
theorem Ef{fs:List (Str×V)}:∀ {k:Nat} {f:Str},(fs.map (·.1)).Nodup->(fs.map (·.1))[k]?=some f->(eY f y fs).map (·.1)=fs.map (·.1)/\(eY f y fs).map (·.2)=(fs.map (·.2)).set k y:=by
 induction fs with
 |nil=>intro k f _ h;cases h
 | cons p fs ih=>
  intro k f n h1;obtain⟨n1,n2⟩:=abS.mp n;obtain⟨g,x⟩:=p
  cases k with
  |zero=>cases h1;unfold eY;rw [if_pos rfl];exact ⟨rfl,rfl⟩
  | succ k=>
   have hm:f∈fs.map (·.1):=List.mem_of_getElem? h1;unfold eY;rw[if_neg λ z:g=f=>n1 (show g∈_ from z.symm ▸ hm)];obtain⟨h3,h4⟩:=ih (k:=k) n2 h1;exact⟨by rw[abM,abM,h3],by rw[abM,abM,h4];rfl⟩
theorem nP{y:V}{f:Str}:∀ {fs:List (Str×V)},f∉fs.map (·.1)->eY f y fs=fs++[(f,y)]
 |[],_=>rfl
 | (g,x)::fs,h=>by
  rw[abM,abQ,not_or] at h;unfold eY;rw[if_neg λ z=>h.1 z.symm,nP h.2];rfl
theorem Rel.obj(R:Rel K F Z H σ ρ A)(hC:ClsF K c C)(e:unO ρ i c=some (a,ps)):∃ dx fs B,σ[i]?=some (some (.ref a))/\H a=some (.ins C dx fs)/\fs.map (·.1)=(cn c).take ps.length/\ps.length<=(cn c).length/\Fws K F H (fs.map (·.2)) ps B/\(a::B).Nodup/\(∀ b∈a::B,b∈A) /\
  ∀ H' fs' ps' B',(∀ b u,b∉a::B->H b=some u->H' b=some u)->H' a=some (.ins C dx fs')->fs'.map (·.1)=(cn c).take ps'.length->ps'.length<=(cn c).length->Fws K F H' (fs'.map (·.2)) ps' B'->(a::B').Nodup->(∀ b∈B',b∈B∨(F b=none/\Z b=none/\b∉A))->∃ A',Rel K F Z H' σ (ρ.set i (some (.ob ⟨a,c,ps'⟩))) A':=by
 obtain⟨v,B0,h1,h2,n,m,g⟩:=R.chg (tw e)
 cases h2 with
 | ob h2=>
  cases h2 with
  | @mk _ C' dx _ fs _ B hH hns hf hl hp=>
   have:C'=C:=by
    have:=hns.symm.trans hC.ns;cases this;rfl
   subst this;refine⟨dx,fs,B,h1,hH,hf,hl,hp,n,m,λ H' fs' ps' B' k ha hf' hl' hp' n' m'=>g H' _ (a::B') k (.ob (.mk ha hns hf' hl' hp')) n' λ b hb=>?_⟩;rcases abQ.mp hb with z|z
   ·exact .inl (z ▸ aab ..)
   ·exact(m' b z).imp (aad _) id
theorem fX{l:List α}{x:α}(h:l[k]?=some x)(hk:k<n):(l.take n)[k]?=some x:=by rw[List.getElem?_take_of_lt hk];exact h
def gz(c i k:Nat):FE:=λ ρ Q=>match unO ρ i c with
 | some (_,ps)=>(match ps[k]? with
  |some (.fz d)=>Q (.ov (.fz d)) ρ
  |_=>False)
 |none=>False
theorem Je(hC:ClsF K c C)(hj:μ[j]?=some i)(hf:(cn c)[k]?=some f):EF K μ (vZ K (db j) f) (gz c i k):=⟨by
 intro F Z H τ σ ρ A Q P vw R h q;unfold gz at h;split at h
 ·rename_i a ps e;split at h
  ·rename_i d ed;obtain⟨dx,fs,B,h1,h2,h3,h4,h5,_⟩:=R.obj hC e;obtain⟨x,C1,B1,g1,g2,_⟩:=h5.at_ ed;have hk:k<ps.length:=(List.getElem?_eq_some_iff.mp ed).1;have hl:fs.lookup f=some x:=tD (k:=k) (by rw[h3];exact(aaV ..).nodup (dq c)) (by rw[h3];exact fX hf hk) g1
   cases g2 with
   |fz dn=>exact⟨.ref a,(vw j i hj).1.trans h1,a,C,dx,fs,x,rfl,h2,hC.cl,hC.na f (List.mem_of_getElem? hf),hl,q _ _ _ _ _ _ _ h (Same.refl _) R (.fz dn) Fresh.nil⟩
  ·exact h.elim
 ·exact h.elim⟩
theorem tE(c:Nat):(cn c).length<1000:=by
 match c with
 |0=>decide
 |1=>decide
 |_+2=>show (0:Nat)<1000;decide
theorem Rel.setF{ps':List FV}{g:FV}{B1:List Addr}(R:Rel K F Z H σ ρ A)(hC:ClsF K c C)(hf:(cn c)[k]?=some f)(e:unO ρ i c=some (a,ps))(w:Fw K F H y g B1)(fr:Fresh F Z A B1)(ep:Jd ps k g=some ps') :
  ∃ dx fs,σ[i]?=some (some (.ref a))/\H a=some (.ins C dx fs)/\fs.length<1000/\∃ A',Rel K F Z (upd H a (.ins C dx (eY f y fs))) σ (ρ.set i (some (.ob ⟨a,c,ps'⟩))) A':=by
 obtain⟨dx,fs,B,h1,h2,h3,h4,h5,nd,mA,mk⟩:=R.obj hC e;obtain⟨nd1,nd2⟩:=abS.mp nd;have hl5:=h5.length;rw[abK] at hl5;have haA:a∈A:=mA a (aab ..);have hB1:∀ b∈B1,b≠a:=λ b hb z=>(fr.fr b hb).2.2 (z ▸ haA);have out:∀ b u,b≠a->H b=some u->upd H a (.ins C dx (eY f y fs)) b=some u:=λ b u hb q=>by rw[af hb];exact q
 have w':Fw K F (upd H a (.ins C dx (eY f y fs))) y g B1:=w.keep (Same.refl _) λ b u hb q=>out b u (hB1 b hb) q;have nf:(fs.map (·.1)).Nodup:=by rw[h3];exact(aaV ..).nodup (dq c)
 refine⟨dx,fs,h1,h2,by have:=tE c;nofun,?_⟩;unfold Jd at ep;split at ep
 ·rename_i hk;have hk:k<ps.length:=Nat.le_of_ble_eq_true hk;cases ep;obtain⟨x,C0,B',g1,g2,pm,g4⟩:=h5.at_ (List.getElem?_eq_getElem hk);obtain⟨p1,p2⟩:=Ef (y:=y) (k:=k) nf (by rw[h3];exact fX hf hk);have hB':∀ b∈B',b∈B:=λ b hb=>pm.mem_iff.mpr (abL.mpr (.inr hb));obtain⟨B2,w2,pm2⟩:=g4 F (upd H a (.ins C dx (eY f y fs))) y g B1 (Same.refl _) (λ b u hb q=>out b u (λ z=>nd1 (z ▸ hB' b hb)) q) w';obtain⟨_,n2,_⟩:=bh pm nd2;refine mk _ _ _ B2 (λ b u hb q=>out b u (λ z=>hb (z ▸ aab ..)) q) ae (by rw[p1,h3,aaN]) (by rw[aaN];exact h4) (by rw[p2];exact w2) (abS.mpr ⟨λ hb=>?_,pm2.nodup_iff.mpr (abV.mpr ⟨fr.nd,n2,λ b hb b' hb' z=>?_⟩)⟩) λ b hb=>?_
  ·rcases abL.mp (pm2.mem_iff.mp hb) with z|z
   ·exact hB1 a z rfl
   ·exact nd1 (hB' a z)
  ·exact(fr.fr b hb).2.2 (mA b (aad _ (hB' b (z ▸ hb'))))
  ·rcases abL.mp (pm2.mem_iff.mp hb) with z|z
   ·exact .inr (fr.fr b z)
   ·exact .inl (hB' b z)
 ·split at ep
  ·rename_i hk;have hk:k=ps.length:=Nat.eq_of_beq_eq_true hk;subst hk;cases ep;have hlt:ps.length<(cn c).length:=(List.getElem?_eq_some_iff.mp hf).1
   have hnew:f∉fs.map (·.1):=λ z=>by
    rw[h3] at z;obtain⟨j,hj⟩:=List.mem_iff_getElem?.mp z
    have hj2:j<ps.length:=by
     have:=(List.getElem?_eq_some_iff.mp hj).1;rw[aao] at this;nofun
    rw[List.getElem?_take_of_lt hj2] at hj;have:=(List.getElem?_inj (by nofun) (dq c)).mp (hj.trans hf.symm);nofun
   have h5':Fws K F (upd H a (.ins C dx (eY f y fs))) (fs.map (·.2)) ps B:=h5.keep (Same.refl _) λ b u hb q=>out b u (λ z=>nd1 (z ▸ hb)) q;obtain⟨B2,w2,pm2⟩:=h5'.snoc w';have pe:=nP (y:=y) hnew;have e2:(eY f y fs).map (·.2)=fs.map (·.2)++[y]:=by rw[pe,aaf];rfl
   refine mk _ _ _ B2 (λ b u hb q=>out b u (λ z=>hb (z ▸ aab ..)) q) ae ?_ (by rw[aag];exact hlt) (by rw[e2];exact w2) (abS.mpr ⟨λ hb=>?_,pm2.nodup_iff.mpr (abV.mpr ⟨fr.nd,nd2,λ b hb b' hb' z=>?_⟩)⟩) λ b hb=>?_
   ·rw[pe,aaf,h3,aag,show ps.length+[g].length=ps.length+1 from rfl,List.take_add_one,hf];rfl
   ·rcases abL.mp (pm2.mem_iff.mp hb) with z|z
    ·exact hB1 a z rfl
    ·exact nd1 z
   ·exact(fr.fr b hb).2.2 (mA b (aad _ (z ▸ hb')))
   ·rcases abL.mp (pm2.mem_iff.mp hb) with z|z
    ·exact .inr (fr.fr b z)
    ·exact .inl z
  ·cases ep
def iV(c i k:Nat)(fe:FE):FS:=λ E ρ=>fe ρ λ r ρ1=>match fzR r ρ1 with
 | some (d,ρ2)=>(match unO ρ2 i c with
  | some (a,ps)=>(match Jd ps k (.fz d) with
   |some ps'=>E.nx (ρ2.set i (some (.ob ⟨a,c,ps'⟩)))
   |none=>False)
  |none=>False)
 |none=>False
def AC(c i k:Nat)(fe:FE):FS:=λ E ρ=>fe ρ λ r ρ1=>match takeR r ρ1 with
 | some (o,ρ2)=>∀ b:Addr,(match Lw b o with
  | some g=>(match unO ρ2 i c with
   | some (a,ps)=>(match Jd ps k g with
    |some ps'=>E.nx (ρ2.set i (some (.ob ⟨a,c,ps'⟩)))
    |none=>False)
   |none=>False)
  |none=>False)
 |none=>False
def pZ(c i k:Nat)(fe:FE):FS:=λ E ρ=>match unO ρ i c with
 | some (_,ps0)=>(match ps0[k]? with
  | some (.fz (.int x))=>fe ρ fun r ρ1=>on1 ρ1 r fun d=>(match d with
   | .int y=>(match unO ρ1 i c with
    | some (a,ps)=>(match Jd ps k (.fz (.int (x+y))) with
     |some ps'=>E.nx (ρ1.set i (some (.ob ⟨a,c,ps'⟩)))
     |none=>False)
    |none=>False)
   |_=>False)
  |_=>False)
 |none=>False
theorem Eg(hC:ClsF K c C)(hf:(cn c)[k]?=some f)(he:EF K (List.range n) te fe):SF K n m (Lf K (db i) te f) (iV c i k fe):=⟨by
 intro F Z H σ0 σ ρ A D fD R p E h;refine he.h (View.id p.1) R h λ r ρ1 v F1 H1 A1 B1 p1 s1 R1 v1 f1=>?_;split at p1
 ·rename_i d ρ2 e2;obtain⟨F2,A2,s2,R2,dn,_,_⟩:=R1.frz v1 f1 e2;split at p1
  ·rename_i a ps e3;split at p1
   ·rename_i ps' e4;obtain⟨dx,fs,h1,h2,h3,A3,R3⟩:=R2.setF hC hf e3 (.fz dn) Fresh.nil e4;exact⟨.ref a,h1,a,C,dx,fs,rfl,h2,hC.cl,hC.na f (List.mem_of_getElem? hf),h3,E.nx _ _ _ _ _ (s1.trans s2) R3 p p1⟩
   ·exact p1.elim
  ·exact p1.elim
 ·exact p1.elim⟩
theorem xO(hC:ClsF K c C)(hf:(cn c)[k]?=some f)(he:EF K (List.range n) te fe):SF K n m (Lf K (db i) te f) (AC c i k fe):=⟨by
 intro F Z H σ0 σ ρ A D fD R p E h;refine he.h (View.id p.1) R h λ r ρ1 v F1 H1 A1 B1 p1 s1 R1 v1 f1=>?_;split at p1
 ·rename_i o ρ2 e2;obtain⟨C1,A2,R2,ow,f2,_,_⟩:=R1.takeR v1 f1 e2;have p1:=p1 (adr v);split at p1
  ·rename_i g eg;split at p1
   ·rename_i a ps e3;split at p1
    ·rename_i ps' e4;obtain⟨dx,fs,h1,h2,h3,A3,R3⟩:=R2.setF hC hf e3 (ow.part eg) f2 e4;exact⟨.ref a,h1,a,C,dx,fs,rfl,h2,hC.cl,hC.na f (List.mem_of_getElem? hf),h3,E.nx _ _ _ _ _ s1 R3 p p1⟩
    ·exact p1.elim
   ·exact p1.elim
  ·exact p1.elim
 ·exact p1.elim⟩
theorem Rel.fld(R:Rel K F Z H σ ρ A)(hC:ClsF K c C)(hf:(cn c)[k]?=some f)(e:unO ρ i c=some (a,ps))(ed:ps[k]?=some (.fz d)):∃ dx fs x,σ[i]?=some (some (.ref a))/\H a=some (.ins C dx fs)/\fs.lookup f=some x/\Den K F x d:=by
 obtain⟨dx,fs,B,h1,h2,h3,h4,h5,_⟩:=R.obj hC e;obtain⟨x,C1,B1,g1,g2,_⟩:=h5.at_ ed;have hk:k<ps.length:=(List.getElem?_eq_some_iff.mp ed).1
 cases g2 with
 |fz dn=>exact⟨dx,fs,x,h1,h2,tD (k:=k) (by rw[h3];exact(aaV ..).nodup (dq c)) (by rw[h3];exact fX hf hk) g1,dn⟩
theorem Eh(hC:ClsF K c C)(hf:(cn c)[k]?=some f)(he:EF K (List.range n) te fe):SF K n m (l8 K (db i) te LV f) (pZ c i k fe):=⟨by
 intro F Z H σ0 σ ρ A D fD R p E h;unfold pZ at h;split at h
 ·rename_i a0 ps0 e0;split at h
  ·rename_i x ed;obtain⟨dx,fs,z,h1,h2,h3,dn⟩:=R.fld hC hf e0 ed;refine⟨.ref a0,h1,a0,C,dx,fs,z,rfl,h2,hC.cl,hC.na f (List.mem_of_getElem? hf),h3,?_⟩;refine he.h (View.id p.1) R h λ r ρ1 v F1 H1 A1 B1 p1 s1 R1 v1 f1=>?_;obtain⟨d,ed1,p2⟩:=bP p1;split at p2
   ·rename_i y;refine⟨x,y,dn.int_eq,(R1.acc v1 ed1).int_eq,?_⟩;split at p2
    ·rename_i a ps e3;split at p2
     ·rename_i ps' e4;obtain⟨dx',fs',g1,g2,g3,A3,R3⟩:=R1.setF (y:=.int (x+y)) hC hf e3 (.fz (.int _)) Fresh.nil e4;have:a=a0:=by rw[h1] at g1;cases g1;rfl
      subst this;exact⟨dx',fs',g2,g3,E.nx _ _ _ _ _ s1 R3 p p2⟩
     ·exact p2.elim
    ·exact p2.elim
   ·exact p2.elim
  ·exact h.elim
 ·exact h.elim⟩
end
section
variable {K:Frag}     
theorem nQ{l:List α}{x:α}(h:l[k]?=some x):l.set k x=l:=by
 apply List.ext_getElem?;intro j;by_cases hj:k=j
 ·subst hj;rw[h,List.getElem?_set_self (List.getElem?_eq_some_iff.mp h).1]
 ·rw[List.getElem?_set_ne hj]
theorem Rel.fldL{b:Addr}(R:Rel K F Z H σ ρ A)(hC:ClsF K c C)(hf:(cn c)[k]?=some f)(e:unO ρ i c=some (a,ps))(ed:ps[k]?=some (.fl b ds)) :
  ∃ dx fs xs,σ[i]?=some (some (.ref a))/\H a=some (.ins C dx fs)/\fs.lookup f=some (.ref b)/\H b=some (.lst xs)/\Dens K F xs ds/\∀ xs' ds',Dens K F xs' ds'->∃ A',Rel K F Z (upd H b (.lst xs')) σ (ρ.set i (some (.ob ⟨a,c,ps.set k (.fl b ds')⟩))) A':=by
 obtain⟨dx,fs,B,h1,h2,h3,h4,h5,nd,mA,mk⟩:=R.obj hC e;obtain⟨nd1,nd2⟩:=abS.mp nd;obtain⟨x,C1,B1,g1,g2,pm,g4⟩:=h5.at_ ed;have hk:k<ps.length:=(List.getElem?_eq_some_iff.mp ed).1
 cases g2 with
 | @fl _ xs _ hb dn=>
  have hbB:b∈B:=pm.mem_iff.mpr (by simp);have hab:a≠b:=λ z=>nd1 (z ▸ hbB);obtain⟨_,n2,n3⟩:=bh pm nd2;refine⟨dx,fs,xs,h1,h2,tD (k:=k) (by rw[h3];exact(aaV ..).nodup (dq c)) (by rw[h3];exact fX hf hk) g1,hb,dn,λ xs' ds' dn'=>?_⟩;obtain⟨B2,w2,pm2⟩:=g4 F (upd H b (.lst xs')) (.ref b) (.fl b ds') [b] (Same.refl _) (λ y u hy q=>by rw[af (show y≠b from λ z=>n3 b (by simp) (z ▸ hy))];exact q) (.fl ae dn');rw[nQ g1] at w2;have mB:∀ y∈B2,y∈B:=λ y hy=>pm.mem_iff.mpr (pm2.mem_iff.mp hy);exact mk _ fs _ B2 (λ y u hy q=>by rw[af (show y≠b from λ z=>hy (z ▸ aad _ hbB))];exact q) (by rw[af hab];exact h2) (by rw[aaN];exact h3) (by rw[aaN];exact h4) w2 (abS.mpr ⟨λ z=>nd1 (mB a z),(pm2.trans pm.symm).nodup_iff.mpr nd2⟩) λ y hy=>.inl (mB y hy)
def xP(c i k:Nat)(fe:FE):FE:=λ ρ Q=>match unO ρ i c with
 | some (_,ps0)=>(match ps0[k]? with
  | some (.fl b _)=>fe ρ fun r ρ1=>(match fzR r ρ1 with
   | some (d,ρ2)=>(match unO ρ2 i c with
    | some (a,ps)=>(match ps[k]? with
     |some (.fl b' ds)=>b'=b/\ds.length<sizeLine/\Q (.ov (.fz .non)) (ρ2.set i (some (.ob ⟨a,c,ps.set k (.fl b' (ds++[d]))⟩)))
     |_=>False)
    |none=>False)
   |none=>False)
  |_=>False)
 |none=>False
theorem Ei(hC:ClsF K c C)(hj:μ[j]?=some i)(hf:(cn c)[k]?=some f)(he:EF K μ te fe):EF K μ (tBM K "list" dG (vZ K (db j) f) (cZ te iN)) (xP c i k fe):=⟨by
 intro F Z H τ σ ρ A Q P vw R h q;unfold xP at h;split at h
 ·rename_i a0 ps0 e0;split at h
  ·rename_i b ds0 ed0;obtain⟨dx,fs,xs,h1,h2,h3,h4,_⟩:=R.fldL hC hf e0 ed0;refine⟨.ref a0,(vw j i hj).1.trans h1,a0,C,dx,fs,.ref b,rfl,h2,hC.cl,hC.na f (List.mem_of_getElem? hf),h3,.inl ⟨rfl,xs,SqL.of h4⟩,?_⟩;refine he.h vw R h λ r ρ1 v F1 H1 A1 B1 p1 s1 R1 v1 f1=>?_;split at p1
   ·rename_i d ρ2 e2;obtain⟨F2,A2,s2,R2,dy,_,_⟩:=R1.frz v1 f1 e2;split at p1
    ·rename_i a ps e3;split at p1
     ·rename_i b' ds e4;obtain⟨rfl,p2,p3⟩:=p1;obtain⟨dx',fs',xs',g1,g2,g3,g4,g5,mt⟩:=R2.fldL hC hf e3 e4;obtain⟨A3,R3⟩:=mt (xs'++[v]) (ds++[d]) (g5.snoc dy);exact⟨b',xs',v,rfl,rfl,g4,by rw[g5.length];exact p2,q _ _ _ _ _ _ _ p3 (s1.trans s2) R3 (.fz .non) Fresh.nil⟩
     ·exact p1.elim
    ·exact p1.elim
   ·exact p1.elim
  ·exact h.elim
 ·exact h.elim⟩
def dD(_:Str)(c i:Nat)(cc:Ct)(fa:FA):FE:=λ ρ Q=>match unO ρ i c with
 |some _=>am cc (aa (ab i) fa) ρ Q
 |none=>False
theorem Ej(hC:ClsF K c C)(hj:μ[j]?=some i)(hm:(cn c).contains mn=false)(ha:AF K μ t fa):EF K μ (pi C mn (spM K cc) [] E0 (db j) t) (dD mn c i cc fa):=⟨by
 intro F Z H τ σ ρ A Q P vw R h q;unfold dD at h;split at h
 ·rename_i ap e;obtain⟨a,ps⟩:=ap;obtain⟨dx,fs,B,h1,h2,h3,h4,h5,_⟩:=R.obj hC e;obtain⟨v,hv,hq⟩:=(su (E:=E0) (sr (so hj) ha)).h vw R h q
  have:v=.ref a:=by
   have:=hv.symm.trans ((vw j i hj).1.trans h1);cases this;rfl
  subst this;refine⟨.ref a,hv,a,dx,fs,rfl,h2,Ee λ z=>?_,hq⟩;rw[h3] at z;rw[List.contains_eq_mem,decide_eq_false_iff_not] at hm;exact hm (abD z)
 ·exact h.elim⟩
end
section
variable {K:Frag}     
theorem Rel.call{c:Ct}{C:List Addr}{P:OV->List OV->Prop}{Q:VK}{E:XK}(R:Rel K F Z H σ ρ A)(o2:Ows K F H vs os C)(f2:Fresh F Z A C)(h:c os P)
  (q:∀ o os' v F3 H3 C3 B,P o os'->Same F F3->Rel K F3 Z H3 σ ρ A->Ows K F3 H3 vs os' C3->Ow K F3 H3 v o B->Fresh F3 Z A (C3++B)->Q v H3):spM K c vs H Q E:=by
 obtain⟨Z',hin,hout⟩:=mix A H Z;have hz:∀ a,a∈A->Z a=none:=λ a ha=>(R.fr a ha).2;have sz:Same Z Z':=λ a o z=>by rw[hout a λ y=>by rw[hz a y] at z;cases z];exact z
 refine⟨F,Z',os,C,P,R.fh,⟨λ a o z=>?_,λ a xs z=>?_⟩,λ a o z=>?_,o2,f2.nd,λ a ha=>⟨(f2.fr a ha).1,by rw[hout a (f2.fr a ha).2.2];exact(f2.fr a ha).2.1⟩,h,λ o os' v F3 H3 C3 B p s3 fh zh dj w3 w4 nd fr=>?_⟩
 ·by_cases y:a∈A
  ·rw[hin a y] at z;exact z
  ·rw[hout a y] at z;exact R.zh.s a o z
 ·by_cases y:a∈A
  ·rw[hin a y] at z;exact R.sl.nt a y xs z
  ·rw[hout a y] at z;exact R.zh.n a xs z
 ·rw[hout a λ y=>by rw[(R.fr a y).1] at z;cases z];exact R.dj a o z
 ·have nA:∀ a∈A,∃ u,Z' a=some u:=λ a ha=>by
   obtain⟨u,hu⟩:=R.sl.live a ha;exact⟨u,by rw[hin a ha];exact hu⟩
  have R3:Rel K F3 Z H3 σ ρ A:=⟨R.sl.keep s3 λ a u ha hu=>zh a u (by rw[hin a ha];exact hu),R.nd,λ a ha=>⟨(by
   cases z:F3 a with
   |none=>rfl
   | some u=>
    have:=dj a u z;obtain⟨w,hw⟩:=nA a ha;rw[hw] at this;exact nomatch this),(R.fr a ha).2⟩,fh,⟨sz.trans zh,R.zh.n⟩,λ a o z=>sz.free (dj a o z)⟩
  exact q o os' v F3 H3 C3 B p s3 R3 w3 w4 ⟨nd,λ b hb=>⟨(fr b hb).1,sz.free (fr b hb).2,λ y=>by
   obtain⟨w,hw⟩:=nA b y;rw[(fr b hb).2] at hw;cases hw⟩⟩
def Jf(c:Nat)(cc:Ct)(fa:FA):FE:=λ ρ Q=>fa ρ λ rs ρ1=>match takeL rs ρ1 with
 | some (os,ρ2)=>∀ a:Addr,cc (.ob ⟨a,c,[]⟩::os) λ o os'=>(match o,os' with
  |.fz .non,o1::os2=>Q (.ov o1) (putL rs os2 ρ2)
  |_,_=>False)
 |none=>False
theorem Ek(hC:ClsF K c C)(ha:AF K μ t fa):EF K μ (BU C (spM K cc) [] E0 t) (Jf c cc fa):=⟨by
 intro F Z H τ σ ρ A Q P vw R h q;refine ha.h vw R h λ rs ρ1 vs F1 H1 A1 B1 h1 s1 R1 v1 f1=>?_;rw[aay];intro x dx hx hdx hne;split at h1
 ·rename_i os ρ2 e;obtain⟨C1,A2,R2,o2,f2,m2,c2⟩:=R1.takeL v1 f1 e;have hx1:upd H1 dx (.own x) x=none:=by rw[af (abk hne)];exact hx
  have hh:Same H1 (upd (upd H1 dx (.own x)) x (.ins C dx [])):=(bp hdx).trans (bp hx1);have R3:=R2.step (F':=F1) (H':=upd (upd H1 dx (.own x)) x (.ins C dx [])) ⟨Same.refl _,hh,R2.fh.trans hh,λ a o h n=>by rw[n] at h;cases h⟩;have o3:=o2.keep (Same.refl F1) λ a u _ h=>hh a u h;have fx:F1 x=none:=R2.fh.free hx;have zx:Z x=none:=R2.zh.free hx;have nx:x∉A2:=λ z=>by obtain⟨u,hu⟩:=R2.sl.live x z;rw[hx] at hu;cases hu
  have nC:x∉C1:=λ z=>by obtain⟨u,hu⟩:=o2.live x z;rw[hx] at hu;cases hu
  refine R3.call (.cons (.ob (.mk ae hC.ns rfl (aaq _) .nil)) o3) ⟨abS.mpr ⟨nC,f2.nd⟩,λ b hb=>?_⟩ (h1 x) λ o os' v F4 H4 C4 B p s4 R4 w4 w5 f4=>?_
  ·rcases abQ.mp hb with z|z
   ·rw[z];exact⟨fx,zx,nx⟩
   ·exact f2.fr b z
  ·split at p
   ·rename_i o1 os2
    cases w5 with
    | fz dn=>
     cases w4 with
     | @cons _ _ _ _ D1 D2 w6 w7=>
      rw[aay] at f4;obtain⟨n1,n2,n3⟩:=bh (aaD (D1++D2)) f4.nd;obtain⟨A5,R5,m5⟩:=R4.putL v1 w7 ⟨n2,λ b hb=>f4.fr b (abL.mpr (.inr hb))⟩;refine⟨dn.non_eq,q _ _ _ _ _ _ _ p (s1.trans s4) R5 w6 ⟨n1,λ b hb=>?_⟩⟩;have:=f4.fr b (abL.mpr (.inl hb));exact⟨this.1,this.2.1,λ z=>(m5 b z).elim this.2.2 λ y=>n3 b hb y⟩
   ·exact p.elim
 ·exact h1.elim⟩
def xQ(c i k:Nat):FE:=λ ρ Q=>match unO ρ i c with
 | some (a,ps)=>(match ps[k]? with
  |some g=>Q (.ov (.fz (hX g))) (ρ.set i (some (.ob ⟨a,c,ps.set k (.fz (hX g))⟩)))
  |none=>False)
 |none=>False
theorem El(hC:ClsF K c C)(hj:μ[j]?=some i)(hf:(cn c)[k]?=some f):EF K μ (vZ K (db j) f) (xQ c i k):=⟨by
 intro F Z H τ σ ρ A Q P vw R h q;unfold xQ at h;split at h
 ·rename_i a ps e;split at h
  ·rename_i g eg;obtain⟨v,B,A',h1,h2,R',f',pm⟩:=R.takeI (tw e);have hk:k<ps.length:=(List.getElem?_eq_some_iff.mp eg).1
   cases h2 with
   | ob h2=>
    cases h2 with
    | @mk _ C' dx _ fs _ B hH hns hf' hl hp=>
     have:C'=C:=by have:=hns.symm.trans hC.ns;cases this;rfl
     subst this;obtain⟨nd1,nd2⟩:=abS.mp f'.nd;obtain⟨x,C1,B1,g1,g2,pm1,g4⟩:=hp.at_ eg;have mC:∀ b∈C1,b∈a::B:=λ b hb=>aad _ (pm1.mem_iff.mpr (abL.mpr (.inl hb)));have mB:∀ b∈B1,b∈B:=λ b hb=>pm1.mem_iff.mpr (abL.mpr (.inr hb));obtain⟨n1,n2,n3⟩:=bh pm1 nd2;obtain⟨F2,s2,R2,k2,w2⟩:=R'.grow g2.live λ b hb=>f'.fr b (mC b hb);have dn:=g2.freeze s2 k2;obtain⟨B2,w3,pm3⟩:=g4 F2 H x (.fz (hX g)) [] s2 (λ _ _ _ h=>h) (.fz dn);rw[nQ g1] at w3
     have hF2:∀ b∈a::B2,F2 b=none/\Z b=none/\b∉A':=λ b hb=>by
      have hb':b∈a::B:=by
       rcases abQ.mp hb with z|z
       ·exact z ▸ aab ..
       ·exact aad _ (mB b (pm3.mem_iff.mp z))
      refine⟨?_,(f'.fr b hb').2⟩
      cases z:F2 b with
      |none=>rfl
      | some u=>
       have hc:=w2 b u z (f'.fr b hb').1;rcases abQ.mp hb with y|y
       ·exact absurd (pm1.mem_iff.mpr (abL.mpr (.inl (y ▸ hc)))) nd1
       ·exact absurd (pm3.mem_iff.mp y) (n3 b hc)
     obtain⟨A3,R3,_⟩:=R2.putI (o:=.ob ⟨a,c,ps.set k (.fz (hX g))⟩) (dX (tw e)) h1 (.ob (.mk hH hns (by rw[aaN];exact hf') (by rw[aaN];exact hl) w3)) ⟨abS.mpr ⟨λ z=>nd1 (mB a (pm3.mem_iff.mp z)),pm3.nodup_iff.mpr n2⟩,hF2⟩;rw[abA] at R3;exact⟨.ref a,(vw j i hj).1.trans h1,a,C',dx,fs,x,rfl,hH,hC.cl,hC.na f (List.mem_of_getElem? hf),tD (k:=k) (by rw[hf'];exact(aaV ..).nodup (dq c)) (by rw[hf'];exact fX hf hk) g1,q _ _ _ _ _ _ _ h s2 R3 (.fz dn) Fresh.nil⟩
  ·exact h.elim
 ·exact h.elim⟩
end
section
variable {K:Frag}     
theorem Obs.length{xs:List V}{os:List Oo}{B:List Addr}(h:Obs K F H xs os B):xs.length=os.length:=by
 induction h with
 |nil=>rfl
 |cons _ _ ih=>exact congrArg (·+1) ih
theorem Ob.at_{o:Oo}(h:Ob K F H v o B):v=.ref o.a:=by cases h;rfl
def Jg(fe:FE):FE:=λ ρ Q=>fe ρ λ r ρ1=>match r with
 |.ov (.ob o)=>Q (.ov (.obs [o])) ρ1
 |_=>False
theorem Em(he:EF K μ te fe):EF K μ (Li (cZ te iN)) (Jg fe):=⟨by
 intro F Z H τ σ ρ A Q P vw R h q;refine he.h vw R h λ r ρ1 v F1 H1 A1 B1 p1 s1 R1 v1 f1=>⟨by rw[sizeLine_eq];exact(by decide:(1:Nat)<=16777216),λ p hp=>?_⟩;split at p1
 ·rename_i o
  cases v1 with
  | ob v1=>
   have hf:F1 p=none:=R1.fh.free hp;have R2:=R1.step (Pure.new (o:=.lst [v]) R1.fh hp);have w:Obs K F1 (upd H1 p (.lst [v])) [v] [o] (B1++[]):=.cons (v1.keep (Same.refl _) λ a u _ h=>bp hp a u h) .nil;rw[aay] at w;have np:p∉B1:=λ z=>by obtain⟨u,hu⟩:=v1.live p z;rw[hp] at hu;cases hu
   refine q _ _ _ _ _ _ _ p1 s1 R2 (.obs ae w) ⟨abS.mpr ⟨np,f1.nd⟩,λ b hb=>?_⟩;rcases abQ.mp hb with z|z
   ·rw[z];exact⟨hf,R1.zh.free hp,λ y=>by obtain⟨u,hu⟩:=R1.sl.live p y;rw[hp] at hu;cases hu⟩
   ·exact f1.fr b z
 ·exact p1.elim⟩
def xR(i:Nat):FE:=λ ρ Q=>match ρ[i]? with
 |some (some (.obs os))=>Q (.ov (.fz (.int os.length))) ρ
 |some (some (.obh os _))=>Q (.ov (.fz (.int (os.length+1:Nat)))) ρ
 |_=>False
theorem En(hj:μ[j]?=some i):EF K μ (tCB (Gg K) (cZ (db j) iN)) (xR i):=⟨by
 intro F Z H τ σ ρ A Q P vw R h q;unfold xR at h;split at h
 ·rename_i os e;obtain⟨v,B,h1,h2,_⟩:=R.chg e
  cases h2 with
  | @obs a xs _ _ hH ho=>
   refine⟨.ref a,(vw j i hj).1.trans h1,.inr (.inl ⟨a,_,rfl,.inl (SqL.of hH),?_⟩)⟩;rw[abq,ho.length];exact q _ _ _ _ _ _ _ h (Same.refl _) R (.fz (.int _)) Fresh.nil
 ·rename_i os b e;obtain⟨v,B,h1,h2,_⟩:=R.chg e
  cases h2 with
  | @obh a _ xs _ _ hH ho=>
   refine⟨.ref a,(vw j i hj).1.trans h1,.inr (.inl ⟨a,_,rfl,.inl (SqL.of hH),?_⟩)⟩;rw[abq,abO,ho.length];exact q _ _ _ _ _ _ _ h (Same.refl _) R (.fz (.int _)) Fresh.nil
 ·exact h.elim⟩
def nR(i:Nat):FE:=λ ρ Q=>match ρ[i]? with
 |some (some (.obs (o::os)))=>Q (.ov (.ob o)) (ρ.set i (some (.obh os o.a)))
 |_=>False
theorem xS(hj:μ[j]?=some i):EF K μ (tOp (Lr K) (db j) (tUn (rU λ i=>.int (-i)) (tC (.int 1)))) (nR i):=⟨by
 intro F Z H τ σ ρ A Q P vw R h q;unfold nR at h;split at h
 ·rename_i o os e;obtain⟨v,B,A',h1,h2,R',f',pm⟩:=R.takeI e
  cases h2 with
  | @obs a xs _ _ hH ho=>
   cases ho with
   | @cons x _ xs _ B1 B2 h3 h4=>
    have ex:=h3.at_;subst ex;obtain⟨nd1,nd2⟩:=abS.mp f'.nd;obtain⟨n1,n2,n3⟩:=bh (aaD (B1++B2)) nd2
    obtain⟨A3,R3,p3⟩:=R'.putI (o:=.obh os o.a) (dX e) h1 (.obh hH h4) ⟨abS.mpr ⟨λ z=>nd1 (abL.mpr (.inr z)),n2⟩,λ b hb=>f'.fr b (by
     rcases abQ.mp hb with z|z
     ·exact z ▸ aab ..
     ·exact aad _ (abL.mpr (.inr z)))⟩
    rw[abA] at R3;refine⟨.ref a,(vw j i hj).1.trans h1,1,rfl,.inl (.inl ⟨a,_,-1,.ref o.a,rfl,rfl,SqL.of hH,(by rw[List.reverse_cons];exact v9 _ _),q _ _ _ _ _ _ _ h (Same.refl _) R3 (.ob h3) ⟨n1,λ b hb=>?_⟩⟩)⟩;have hb':=f'.fr b (aad _ (abL.mpr (.inl hb)));refine⟨hb'.1,hb'.2.1,λ z=>?_⟩;rcases abL.mp (p3.mem_iff.mp z) with y|y
    ·rcases abQ.mp y with y|y
     ·exact nd1 (y ▸ abL.mpr (.inl hb))
     ·exact n3 b hb y
    ·exact hb'.2.2 y
 ·exact h.elim⟩
def Eo(i:Nat):FE:=λ ρ Q=>match ρ[i]? with
 |some (some (.obh os _))=>Q (.ov (.fz .non)) (ρ.set i (some (.obs os)))
 |_=>False
theorem Ep :SF K n m (vQ (Lj K "list" LZ (db i))) (b5 (Eo i)):=⟨by
 intro F Z H σ0 σ ρ A D fD R p E h;unfold b5 Eo at h;split at h
 ·rename_i os b e;obtain⟨v,B,h1,h2,nd,mA,mk⟩:=R.chg e
  cases h2 with
  | @obh a _ xs _ B hH ho=>
   obtain⟨A3,R3⟩:=mk (upd H a (.lst xs.reverse)) (.obs os) (a::B) (λ y u hy q=>by rw[af (show y≠a from λ z=>hy (z ▸ aab ..))];exact q) (.obs ae (ho.keep (Same.refl _) λ y u hy q=>by rw[af (show y≠a from λ z=>(abS.mp nd).1 (z ▸ hy))];exact q)) nd λ y hy=>.inl hy;refine⟨.ref a,h1,.inl ⟨rfl,_,SqL.of hH⟩,a,_,.ref b,rfl,rfl,hH,?_,?_⟩
   ·rw[abq,abO,List.reverse_cons,List.getElem?_append_right (by rw[abq];nofun)];simp
   ·have:((V.ref b::xs).reverse).dropLast=xs.reverse:=by rw[List.reverse_cons,List.dropLast_concat]
    rw[this];exact E.nx _ _ _ _ _ (Same.refl _) R3 p h
 ·exact h.elim⟩
def xT(i:Nat)(fe:FE):FE:=λ ρ Q=>(match ρ[i]? with
 | some (some (.obs _))=>fe ρ λ r ρ1=>(match r,ρ1[i]? with
  |.ov (.ob o),some (some (.obs os))=>os.length<sizeLine/\Q (.ov (.fz .non)) (ρ1.set i (some (.obs (o::os))))
  |_,_=>False)
 |_=>False)
theorem Er(hj:μ[j]?=some i)(he:EF K μ te fe):EF K μ (tBM K "list" dG (db j) (cZ te iN)) (xT i fe):=⟨by
 intro F Z H τ σ ρ A Q P vw R h q;unfold xT at h;split at h
 ·rename_i os0 e0;obtain⟨v0,B0,h1,h2,_⟩:=R.chg e0
  cases h2 with
  | @obs a xs0 _ _ hH0 ho0=>
   refine⟨.ref a,(vw j i hj).1.trans h1,.inl ⟨rfl,_,SqL.of hH0⟩,?_⟩;refine he.h vw R h λ r ρ1 v F1 H1 A1 B1 p1 s1 R1 v1 f1=>?_;split at p1
   ·rename_i o os e1;obtain⟨v',B,g1,g2,nd,mA,mk⟩:=R1.chg e1;rw[h1] at g1;cases g1
    cases v1 with
    | ob v1=>
     cases g2 with
     | @obs _ xs _ B hH ho=>
      have na:∀ b∈B1,b≠a:=λ b hb z=>(f1.fr b hb).2.2 (mA b (z ▸ aab ..));have hk:∀ (y:Addr) (u:HO),y≠a->H1 y=some u->upd H1 a (.lst (v::xs).reverse) y=some u:=λ y u hy q=>by rw[af hy];exact q
      obtain⟨A3,R3⟩:=mk (upd H1 a (.lst (v::xs).reverse)) (.obs (o::os)) (a::(B1++B)) (λ y u hy q=>hk y u (λ z=>hy (z ▸ aab ..)) q) (.obs ae (.cons (v1.keep (Same.refl _) λ y u hy q=>hk y u (na y hy) q) (ho.keep (Same.refl _) λ y u hy q=>hk y u (λ z=>(abS.mp nd).1 (z ▸ hy)) q)))
       (abS.mpr ⟨λ z=>(abL.mp z).elim (λ y=>na a y rfl) (abS.mp nd).1,abV.mpr ⟨f1.nd,(abS.mp nd).2,λ y hy y' hy' z=>(f1.fr y hy).2.2 (mA y (aad _ (z ▸ hy')))⟩⟩)
       (λ y hy=>by
        rcases abQ.mp hy with z|z
        ·exact .inl (z ▸ aab ..)
        ·exact(abL.mp z).elim (λ z=>.inr (f1.fr y z)) λ z=>.inl (aad _ z))
      refine⟨a,_,v,rfl,rfl,hH,by rw[abq,ho.length];exact p1.1,?_⟩;rw[← List.reverse_cons];exact q _ _ _ _ _ _ _ p1.2 s1 R3 (.fz .non) Fresh.nil
   ·exact p1.elim
 ·exact h.elim⟩
def bk(i ix:Nat)(ρ:FSt)(k:FSt->Prop):Prop:=match ρ[i]? with
 | some (some (.obh os b))=>(match ρ[ix]? with
  |some (some (.ob o))=>o.a=b/\k ((ρ.set ix none).set i (some (.obs (o::os))))
  |_=>False)
 |_=>k ρ
theorem Rel.bk{k:FSt->Prop}(R:Rel K F Z H σ ρ A)(h:L2.bk i ix ρ k):∃ ρ' A',Rel K F Z H σ ρ' A'/\k ρ':=by
 unfold L2.bk at h;split at h
 ·rename_i os b e;split at h
  ·rename_i o eo;obtain⟨rfl,h⟩:=h;obtain⟨v,B,A',h1,h2,R',f',pm⟩:=R.takeI eo;have hne:ix≠i:=λ z=>by rw[z,e] at eo;cases eo
   have e':(ρ.set ix none)[i]?=some (some (.obh os o.a)):=by rw[List.getElem?_set_ne hne];exact e
   obtain⟨w,B2,g1,g2,nd,mA,mk⟩:=R'.chg e'
   cases h2 with
   | ob h2=>
    cases g2 with
    | @obh a _ xs _ B2 hH ho=>
     have ex:=h2.at_;subst ex;have na:a∉B:=λ z=>(f'.fr a z).2.2 (mA a (aab ..))
     obtain⟨A3,R3⟩:=mk H (.obs (o::os)) (a::(B++B2)) (λ _ _ _ q=>q) (.obs hH (.cons h2 ho)) (abS.mpr ⟨λ z=>(abL.mp z).elim na (abS.mp nd).1,abV.mpr ⟨f'.nd,(abS.mp nd).2,λ y hy y' hy' z=>(f'.fr y hy).2.2 (mA y (aad _ (z ▸ hy')))⟩⟩)
      (λ y hy=>by
       rcases abQ.mp hy with z|z
       ·exact .inl (z ▸ aab ..)
       ·exact(abL.mp z).elim (λ z=>.inr (f'.fr y z)) λ z=>.inl (aad _ z))
     exact⟨_,A3,R3,h⟩
  ·exact h.elim
 ·exact⟨ρ,A,R,h⟩
def tF(i ix:Nat)(f:FS):FS:=λ E ρ=>bk i ix ρ λ ρ'=>f E ρ'
theorem xU{t:TS}{f:FS}(h:SF K n m t f):SF K n m t (tF i ix f):=⟨λ R p E q=>by
 obtain⟨ρ',A',R',q'⟩:=R.bk q;exact h.h R' p E q'⟩
def Jh(i ix:Nat)(f:FS):FS:=λ E ρ=>f { E with nx:=λ ρ=>bk i ix ρ E.nx,ct:=λ ρ=>bk i ix ρ E.ct } ρ
theorem Es{t:TS}{f:FS}(h:SF K n m t f):SF K n m t (Jh i ix f):=⟨fun {F Z H σ0 σ ρ A D fD} R p E q=>h.h (fD:={ fD with nx:=λ ρ=>bk i ix ρ fD.nx,ct:=λ ρ=>bk i ix ρ fD.ct }) R p ⟨λ F' H' σ' ρ' A' s R' p' h'=>by
  obtain⟨ρ2,A2,R2,q2⟩:=R'.bk h';exact E.nx _ _ _ _ _ s R2 p' q2,E.rt,E.bk,λ F' H' σ' ρ' A' s R' p' h'=>by
  obtain⟨ρ2,A2,R2,q2⟩:=R'.bk h';exact E.ct _ _ _ _ _ s R2 p' q2⟩ q⟩
end
section
variable {K:Frag}     
def Et(fa:FA):FE:=λ ρ Q=>fa ρ λ rs ρ1=>match takeL rs ρ1 with
 | some (os,ρ2)=>∀ as:Nat->Addr,(match tu as 0 os with
  |some ps=>ps.length<=sizeLine/\Q (.ov (.ot ps)) ρ2
  |none=>False)
 |none=>False
theorem Eu(ha:AF K μ t fa):EF K μ (Lg t) (Et fa):=⟨by
 intro F Z H τ σ ρ A Q P vw R h q;refine ha.h vw R h λ rs ρ1 vs F1 H1 A1 B1 h1 s1 R1 v1 f1=>?_;split at h1
 ·rename_i os ρ2 e;obtain⟨C,A2,R2,o2,f2,m2,c2⟩:=R1.takeL v1 f1 e;have h2:=h1 λ j=>adr (vs.getD j .non);split at h2
  ·rename_i ps ep;have w:=o2.parts (i:=0) (λ j v hj=>by rw[Nat.zero_add,List.getD_eq_getElem?_getD,hj];rfl) ep;refine⟨by rw[w.length];exact h2.1,λ p hp=>?_⟩;have R3:=R2.step (Pure.frz (o:=.tup vs) R2.fh hp);have np:p∉C:=λ z=>by obtain⟨u,hu⟩:=o2.live p z;rw[hp] at hu;cases hu
   have hf:F1 p=none:=R2.fh.free hp;refine q _ _ _ _ _ _ _ h2.2 (s1.trans (bp hf)) R3 (.ot ae (w.keep (bp hf) λ a u _ h=>bp hp a u h)) ⟨f2.nd,λ b hb=>⟨?_,(f2.fr b hb).2⟩⟩;rw[af (show b≠p from λ z=>np (z ▸ hb))];exact(f2.fr b hb).1
  ·exact h2.elim
 ·exact h1.elim⟩
theorem nS{l:List α}{x:α}(h:l[k]?=some x):atI l (k:Int)=some x:=by
 have:=(List.getElem?_eq_some_iff.mp h).1;unfold atI ixN;rw[if_pos (Int.natCast_nonneg k),if_pos (by nofun)];exact h
def Ji(c k:Nat)(fe:FE):FE:=λ ρ Q=>fe ρ λ r ρ1=>match r with
 | .ov (.ob ⟨_,c',ps⟩)=>(match Nat.beq c' c with
  | true=>(match ps[k]? with
   |some g=>Q (.ov (.fz (hX g))) ρ1
   |none=>False)
  |false=>False)
 |_=>False
theorem Ew(hC:ClsF K c C)(hf:(cn c)[k]?=some f)(he:EF K μ te fe):EF K μ (vZ K te f) (Ji c k fe):=⟨by
 intro F Z H τ σ ρ A Q P vw R h q;refine he.h vw R h λ r ρ1 v F1 H1 A1 B1 p1 s1 R1 v1 f1=>?_;split at p1
 ·rename_i a c' ps;split at p1
  ·rename_i ec;obtain rfl:c'=c:=Nat.eq_of_beq_eq_true ec;split at p1
   ·rename_i g eg
    cases v1 with
    | ob v1=>
     cases v1 with
     | @mk _ C' dx _ fs _ B hH hns hf' hl hp=>
      have:C'=C:=by have:=hns.symm.trans hC.ns;cases this;rfl
      subst this;have hk:k<ps.length:=(List.getElem?_eq_some_iff.mp eg).1;obtain⟨x,C1,B2,g1,g2,pm1,_⟩:=hp.at_ eg;obtain⟨F2,s2,R2,k2,_⟩:=R1.grow g2.live λ b hb=>f1.fr b (aad _ (pm1.mem_iff.mpr (abL.mpr (.inl hb))));exact⟨a,C',dx,fs,x,rfl,hH,hC.cl,hC.na f (List.mem_of_getElem? hf),tD (k:=k) (by rw[hf'];exact(aaV ..).nodup (dq c')) (by rw[hf'];exact fX hf hk) g1,q _ _ _ _ _ _ _ p1 (s1.trans s2) R2 (.fz (g2.freeze s2 k2)) Fresh.nil⟩
   ·exact p1.elim
  ·exact p1.elim
 ·exact p1.elim⟩
end
section
variable  {o value:Expr}   {pos' tpos apos:Pos} {ta:TE}    {ps:List Str} {sp:Sp}
theorem Jj(K:Frag)(he:BE X e ta)(hb:attributeBase e f X.env (eval e X.env)=eval e X.env)(hK:X.K=K):BE X (.Attribute e f pos) (vZ K ta f):=by subst hK;exact⟨GS he.h hb⟩
theorem Jk(K:Frag)(ha:BE X o ta)(hv:BE X value tv)(hs:swapsWith value (some (.Attribute o f pos')) pos.line X.env=pure false)(hK:X.K=K):BS X (.Assign [.Attribute o f pos'] value pos) (Lf K ta tv f):=by subst hK;exact⟨GT ha.h hv.h hs⟩
theorem Jl(K:Frag)(ha:BE X o ta)(hv:BE X value tv)(hK:X.K=K):BS X (.AugAssign (.Attribute o f tpos) .Add value pos) (l8 K ta tv LV f):=by subst hK;exact⟨qR ha.h hv.h GU⟩
structure OwnM(P:Program)(w:World)(K:Frag)(mg:Str->Option Value)(base:Heap)(C:Addr)(x:Str)(k:Nat)(ps:List Str)(sp:Sp):Prop where
 ex:∃ (f:Addr) (fd:FuncData),FnOk P w K mg base CX0 k f fd ps sp/\Meth K C x f/\Binds K fd ps []
theorem Jm{m:Str}(O:OwnM X.prog X.w X.K X.mg X.base C m k ps sp)(c:Cls X.K C)(hr:Room k X.A)(he:BE X o ta)(ha:BA X (e::es) t)(hn:(e::es).all bx=true)
  (ht:∃ pl:Sem Bool,eval (.Call (.Attribute o m apos) (e::es) [] pos) X.env=(do
   let ov ← eval o X.env
   standAt apos.atName
   let (f,first) ← holding [ov] (getMethod ov m pl)
   callWith pos f first (backTo pos (starEach (e::es) X.env)) (backToKw pos (keywordEach [] X.env)))):BE X (.Call (.Attribute o m apos) (e::es) [] pos) (pi C m sp [] E0 ta t):=by
 obtain⟨f,fd,F,hm,hb⟩:=O.ex;obtain⟨pl,ht⟩:=ht;have h:=hn;rw[aaO,abY] at h;exact⟨BX (pl:=pl) he.h c hm F hr hb .nil wq ha.h (bj h.1) (c5 h.2) ht⟩
theorem Ex{m:Str}(O:OwnM X.prog X.w X.K X.mg X.base C m k ps sp)(c:Cls X.K C)(hr:Room k X.A)(he:BE X o ta)
  (ht:∃ pl:Sem Bool,eval (.Call (.Attribute o m apos) [] [] pos) X.env=(do
   let ov ← eval o X.env
   standAt apos.atName
   let (f,first) ← holding [ov] (getMethod ov m pl)
   callWith pos f first (backTo pos (starEach [] X.env)) (backToKw pos (keywordEach [] X.env)))):BE X (.Call (.Attribute o m apos) [] [] pos) (pi C m sp [] E0 ta iN):=by
 obtain⟨f,fd,F,hm,hb⟩:=O.ex;obtain⟨pl,ht⟩:=ht;exact⟨v5 (pl:=pl) he.h c hm F hr hb .nil wq ht⟩
structure OwnI(P:Program)(w:World)(K:Frag)(mg:Str->Option Value)(base:Heap)(x:Str)(C:Addr)(k:Nat)(ps:List Str)(sp:Sp):Prop where
 ex:∃ (f:Addr) (fd:FuncData),FnOk P w K mg base CX0 k f fd ps sp/\Mk K C f/\mg x=some (.ref C)/\Binds K fd ps []
theorem MO(O:OwnI X.prog X.w X.K X.mg X.base x C k ps sp)(hr:Room (k+1) X.A)(ha:BA X (e::es) t)(hg:X.env.kindOf x=some .globalImplicit)(hn:(e::es).all bx=true)(hdb:(x==("__debug__" : Str))=false):BE X (.Call (.Name x p) (e::es) [] pos) (BU C sp [] E0 t):=by
 obtain⟨f,fd,F,hm,hx,hb⟩:=O.ex;have h:=hn;rw[aaO,abY] at h;exact⟨BY hm F hr hg hx hb .nil wq ha.h hdb (bj h.1) (c5 h.2)⟩
theorem Jn{t:TE}(K:Frag)(h:BE X (.Attribute o f pos) t)(hK:X.K=K):BT X (.Attribute o f pos) (Mh K t):=by subst hK;exact⟨mX h.h (λ _=>rfl)⟩
theorem Jo(K:Frag)(h:X.K=K):BMt X "list.pop" LZ:=⟨G5⟩
theorem xV:BE X (.Dict [] [] pos) rb:=⟨wf⟩
theorem Ey(hu:X.A.units+64<cLine)(ho:BE X o td)(he:BE X e ty)(m:M1 X o "get" apos e pos):BE X (.Call (.Attribute o "get" apos) [e] [] pos) (re td ty):=⟨wj (by nofun) ho.h he.h m⟩
end
theorem tG:typeLookup (.type "list") "keys" = pure none:=am_miss_of_fast (by decide +kernel)
section
variable   {A:Around}  
theorem Ez{xs:Array Value}(hx:s.heap.get? a=some o)(hc:o.cls=.type "list")(hdat:o.data=.seq xs k)(hd:o.dict=none)(hA:A.handled=none)
  (h:∀ h' tk,(∀ b u,s.heap.get? b=some u->h'.get? b=some u)->Q none { s with heap:=h',toks:=tk }):wpAny (model prog w) A (getAttr? (.ref a) "keys") Q E s:=by
 obtain⟨c,dct,dat,sl⟩:=o;simp only at hc hdat hd;subst hc hdat hd;obtain⟨hp,g,d,tk,os⟩:=s;have hT:∀ tk',(⟨hp,g,d,tk',os⟩:Shared).TypeIs (.ref a) "list" := λ _=>⟨_,hx,rfl⟩;have f1:=sub_AttributeError;have f3:=F.slot_list_getattribute.lookup;have f4:=F.slot_list_getattribute.bind (.ref a);have f5:=am_list_getattr_none;unfold getAttr? getAttrBy? getAttrBy
 repeat (any_goals (first|assumption|exact hT _|((with_reducible show wpAny _ _ (call (Value.builtin "list.__getattribute__") _ _) _ _ _);refine call_meets F.slot_list_getattribute (hT _) am_entry_list_getattribute (F.args_list_getattribute_2 _ _) (meets_getattribute_miss_list a xs k sl "keys" _ tG (by decide +kernel) (by decide +kernel)) ⟨hx,hA,λ h' tk' e hx'=>?_⟩)|wp_step))
 obtain⟨t',u',he⟩:=hx'.there;show wpAny _ _ (getattributeRaised _ _ _ _ _ _ _) _ _ _;unfold getattributeRaised
 repeat (any_goals (first|assumption|wp_step))
 exact h _ _ hx'.keeps
theorem nT:entryFor table "dict.update.loop" = some Builtin.«dict.update.loop»:=entryFor_of_tree (by kernel_rfl)
theorem gH:plainId "dict.update.loop" = true:=by decide +kernel
variable  [DecidableEq K] {knd:KeyKind prog w K}
def xW(kv:Nat->K×Value)(i:Nat):List (K×Value):=((List.range i).map kv).foldl (λ m p=>stored m p.1 p.2) []
theorem ir(kv:Nat->K×Value)(i:Nat):xW kv (i+1)=stored (xW kv i) (kv i).1 (kv i).2:=by
 unfold xW;rw[List.range_succ,aaf,abj];rfl
theorem p8{t:Addr}{k v:Value}{m:Nat}{Q:List Value->Shared->Prop}(h1:s.heap.get? t=some o)(h2:o.cls=.type "tuple")(h3:o.data=.seq #[k,v] m)(h:Q [k,v] s):wpAny (model prog w) A (Builtin.Dict.pairItems (.ref t)) Q E s:=by
 obtain⟨c,dct,dat,sl⟩:=o;simp only at h2 h3;subst h2 h3;obtain⟨hp,g,d,tk,os⟩:=s;have hT:(⟨hp,g,d,tk,os⟩:Shared).TypeIs (.ref t) "tuple" := ⟨_,h1,rfl⟩;unfold Builtin.Dict.pairItems
 repeat (any_goals (first|assumption|wp_step))
theorem nU(kv:Nat->K×Value):∀ i,(xW kv i).length<=i
 |0=>aac _
 |i+1=>by rw[ir];exact aau (stored_length_le ..) (abo (nU kv i))
theorem tH{R:Result->Shared->Prop}{I:Addr}{fp wr:List Addr}{G:Array GenState->Array GenState->Prop}{P:Nat->Value->Prop}{St:Nat->Shared->Prop}(W:WalksS prog w A.in1 I fp wr G n P St)(d:Addr)(hdf:d∉fp)
  (kv:Nat->K×Value) (hn:n<=sizeLine):∀ (k i:Nat) (s:Shared),n - i=k->i<=n->St i s ->
   (∀ i v,P i v->∃ t o key m,v=.ref t/\s.heap.get? t=some o/\o.cls=.type "tuple" /\ o.data=.seq #[key,(kv i).2] m/\knd.is (kv i).1 key=true/\t∉d::wr)->s.heap.DictOf knd d (xW kv i) ->
   (∀ s',Moved (d::wr) G s s'->s'.heap.DictOf knd d (xW kv n)->R (.ok (.ret .none)) s') ->
   codeAny (model prog w) A (.builtin "dict.update.loop" ⟨[.ref d,.ref I,rawInt i,.none],[]⟩) R s:=by
 have hSw:d∉wr:=λ h=>hdf (W.sub _ h);have hsub:∀ b∈wr,b∈d::wr:=λ b hb=>aad _ hb;intro k
 induction k with
 | zero=>
  intro i s hk hi hst hT hS hR;obtain rfl:i=n:=by nofun
  refine codeAny_builtin nT ?_;rw[aaJ gH _];show wpAny _ A.in1 (pyNext (.ref I) >>= _) _ _ s;refine aaa (W.done s _ _ hst λ s' hm=>?_);show wpAny _ A.in1 (Builtin.Dict.addKeywords d [] >>= λ _=>ret Value.none) _ _ s';obtain⟨o,es,ep,ho,r⟩:=hS;exact aaa (aae (aae (hR s' (hm.mono hsub) ⟨o,es,ep,hm.heap d o hSw ho,r⟩)))
 | succ k ih=>
  intro i s hk hi hst hT hS hR;have hlt:i<n:=by nofun
  refine codeAny_builtin nT ?_;rw[aaJ gH _];show wpAny _ A.in1 (pyNext (.ref I) >>= _) _ _ s;refine aaa (W.item i s _ _ hlt hst λ v s' hP hst' hm=>?_);obtain⟨t,o,key,m,rfl,h1,h2,h3,h4,h5⟩:=hT i v hP;have keep:∀ b u,b∉wr->s.heap.get? b=some u->s'.heap.get? b=some u:=λ b u hb q=>hm.heap b u hb q
  have hS':s'.heap.DictOf knd d (xW kv i):=by
   obtain⟨o,es,ep,ho,r⟩:=hS;exact⟨o,es,ep,keep d o hSw ho,r⟩
  show wpAny _ A.in1 (holding [Value.ref t] _ >>= _) _ _ s';refine aaa (aaI ?_);refine aaa (wpAny_tryCatch ?_);refine p8 (keep t o (λ z=>h5 (hsub t z)) h1) h2 h3 ?_;show wpAny _ A.in1 (holding [key,(kv i).2] (dictSet d key (kv i).2)) _ _ s';refine aaI (wpAny_dictSet_pairs h4 hS' (λ h' hd' hsb=>?_) (aau (nU kv i) (by nofun)));rw[← ir] at hd';refine aae ⟨plainId_quiet gH _,ih (i+1) _ (by nofun) hlt (W.frame _ s' _ _ hst' (aaX _) λ b hb o e=>?_) (λ j v hj=>?_) hd' λ s'' hm'' hS''=>?_⟩
  ·rw[hsb.2 b (λ h:b=d=>hdf (by rw[← h];exact hb))];exact e
  ·obtain⟨t',o',key',m',e1,e2,e3,e4,e5,e6⟩:=hT j v hj;exact⟨t',o',key',m',e1,(hsb.2 t' λ z=>e6 (z ▸ aab ..)).trans (keep t' o' (λ z=>e6 (hsub t' z)) e2),e3,e4,e5,e6⟩
  ·refine hR s'' (Moved.trans W.gtrans ((hm.mono hsub).then_heap (aaX _) λ b o hb e=>?_) hm'') hS'';rw[hsb.2 b (λ h:b=d=>hb (by rw[h];exact aab))];exact e
theorem li{l:Addr}{ol:Obj}{items:Array Value}{nl:Nat}{Q:Value->Shared->Prop}(hl:s.heap.get? l=some ol)(hc:ol.cls=.type "list")(hdat:ol.data=.seq items nl)(hdn:ol.dict=none)(hh:A.handled=none)(kv:Nat->K×Value)
  (hT:∀ (i:Nat) v,items[i]?=some v->∃ t o key m,v=.ref t/\s.heap.get? t=some o/\o.cls=.type "tuple" /\ o.data=.seq #[key,(kv i).2] m/\knd.is (kv i).1 key=true) (hn:items.size<=sizeLine)
  (h:∀ h' tk,h'.DictOf knd s.heap.objs.size (xW kv items.size)->(∀ b o,s.heap.get? b=some o->h'.get? b=some o)->Q (.ref s.heap.objs.size) { s with heap:=h',toks:=tk }) :
  wpAny (model prog w) A (call (.type "dict") [.ref l]) Q E s:=by
 refine callType_codes (Q₁:=λ obj s₁=>obj=.ref s.heap.objs.size/\s₁={ s with heap:=s.heap.push { cls:=.type "dict", data:=.dict #[] } }) F.kt_called_dict (F.kt_typeCall_dict_1 _) F.entry_dict_init (kt_code_dict_new _ ⟨rfl,rfl⟩) ?_;rintro obj s₁ ⟨rfl,rfl⟩;have hnew:(s.heap.push { cls:=.type "dict", data:=.dict #[] }).DictOf knd s.heap.objs.size []:=Heap.DictOf.new s.heap;have hl1:(s.heap.push { cls:=.type "dict", data:=.dict #[] }).get? l=some ol:=Heap.get?_push_of_some _ hl;refine⟨hnew.typeIs,F.args_dict_init_2 _ _,?_⟩;unfold Builtin.«dict.__init__»;refine aaa ?_;unfold Builtin.Dict.selfAndRest;refine aaa (wpAny_notOrdered_dict hnew.typeIs ?_);show wpAny _ _ (pure (s.heap.objs.size,[Value.ref l])) _ _ _;refine aae ?_;show wpAny _ _ (Builtin.Dict.updateFrom "dict.__init__" s.heap.objs.size (.ref l) [] .none) _ _ _;unfold Builtin.Dict.updateFrom;refine aaa (wpAny_typeOf (T := "list") ⟨ol,hl1,hc⟩ ?_);rw[if_pos (by decide)];refine aaa (Ez hl1 hc hdat hdn (by simp[hh]) λ h1 tk1 k1=>?_);rw[if_pos (show (none:Option Value).isNone=true from rfl)];refine aaa (abH ?_);have hl2:h1.get? l=some ol:=k1 l ol hl1;refine aaa (wpAny_pyIter_list (items:=items) ⟨ol,hl2,hc,nl,hdat⟩ ?_)
 have hd1:h1.DictOf knd s.heap.objs.size []:=by
  obtain⟨o,es,ep,ho,r⟩:=hnew;exact⟨o,es,ep,k1 _ _ ho,r⟩
 have hsz:s.heap.objs.size<h1.objs.size:=by
  obtain⟨o,es,ep,ho,r⟩:=hd1;exact aah ho
 have hlt:l<s.heap.objs.size:=aah hl;have up:∀ b u,s.heap.get? b=some u->h1.get? b=some u:=λ b u q=>k1 b u (Heap.get?_push_of_some _ q);refine aae ⟨plainId_quiet gH _,tH (knd:=knd) (A:=A.in1) ((Walks.list (by simp[hh]) _ l (aak (aah hl2)) items).toS) s.heap.objs.size ?_ kv hn (items.size - 0) 0 _ rfl (aaq _) ?_ ?_ ?_ ?_⟩
 ·simp only[List.mem_cons,List.not_mem_nil,or_false,not_or];exact⟨aak hsz,Nat.ne_of_gt hlt⟩
 ·exact⟨⟨_,Heap.get?_push_size _ rfl,rfl,rfl⟩,⟨ol,Heap.get?_push_of_some _ hl2,hc,nl,hdat⟩⟩
 ·intro i v hv;obtain⟨t,o,key,m,e1,e2,e3,e4,e5⟩:=hT i v hv;refine⟨t,o,key,m,e1,Heap.get?_push_of_some _ (up t o e2),e3,e4,e5,?_⟩;simp only[List.mem_cons,List.not_mem_nil,or_false,not_or];have:=aah e2;exact⟨aak this,aak (aca this hsz)⟩
 ·exact hd1.push _
 ·intro s' hm hd';obtain⟨h',g',d',tk',os'⟩:=s';have eg:g'=s.gens:=hm.gens;have ed:d'=s.drawn:=hm.drawn;have eo:os'=s.os:=hm.os;subst eg ed eo;refine⟨rfl,h h' tk' hd' λ b o q=>?_⟩;have hb:=aah q;refine hm.heap b o ?_ (Heap.get?_push_of_some _ (up b o q));simp only[List.mem_cons,List.not_mem_nil,or_false,not_or];exact⟨aak hb,aak (aca hb hsz)⟩
end
theorem p9[DecidableEq K]{L:List (K×Value)}{df:K×Value}(hn:(L.map (·.1)).Nodup):∀ i,i<=L.length->xW (λ i=>L.getD i df) i=L.take i:=by
 intro i
 induction i with
 |zero=>intro _;rfl
 | succ i ih=>
  intro hi;rw[ir,ih (by nofun)];have he:L[i]?=some (L.getD i df):=by rw[List.getD_eq_getElem?_getD,List.getElem?_eq_getElem (by nofun)];rfl
  have hne:(L.take i).any (λ kv=>decide (kv.1=(L.getD i df).1))=false:=by
   rw[List.any_eq_false];intro p hp;rw[decide_eq_true_eq];intro z;obtain⟨j,hj⟩:=List.mem_iff_getElem?.mp hp;have hj2:j<i:=by have:=(List.getElem?_eq_some_iff.mp hj).1;rw[aao] at this;nofun
   rw[List.getElem?_take_of_lt hj2] at hj;have e1:(L.map (·.1))[j]?=some p.1:=by rw[List.getElem?_map,hj];rfl
   have e2:(L.map (·.1))[i]?=some p.1:=by rw[List.getElem?_map,he,z];rfl
   have:=(List.getElem?_inj (by rw[abK];nofun) hn).mp (e1.trans e2.symm);nofun
  unfold stored;rw[hne,if_neg (by decide),List.take_add_one,he];rfl
def tI(K:Frag):List V->Hp->VK->Prop:=λ xs H Q=>∃ (l:Addr) (rows:List (Addr×Str×V)),xs=[.ref l]/\SqL K H l (rows.map λ r=>.ref r.1)/\(∀ r∈rows,SqT K H r.1 [.str r.2.1,r.2.2])/\(rows.map (·.2.1)).Nodup /\
 ∀ p,H p=none->Q (.ref p) (upd H p (.dK (rows.map λ r=>(.inr r.2.1,r.2.2))))
theorem EA{pins:List (Addr×Obj)}(I:Inv X pins σ H s):∀ {rows:List (Addr×Str×V)},(∀ r∈rows,SqT X.K H r.1 [.str r.2.1,r.2.2]) ->
  ∃ L:List (Key×Value),KV (rows.map λ r=>((.inr r.2.1:Key),r.2.2)) L/\∀ (i:Nat) r,rows[i]?=some r->∃ o key val m,s.heap.get? r.1=some o/\o.cls=.type "tuple" /\ o.data=.seq #[key,val] m/\L[i]?=some (.inr r.2.1,val)/\(aq X.prog X.w).is (.inr r.2.1) key=true:=by
 intro rows
 induction rows with
 |nil=>exact λ _=>⟨[],.nil,λ i r h=>nomatch h⟩
 | cons r rows ih=>
  intro h;obtain⟨L,h1,h2⟩:=ih λ x hx=>h x (aad _ hx);obtain⟨its,rv,⟨o,e1,e2,n,e3⟩,_⟩:=I.tuple (h r (aab ..));obtain⟨key,val,rfl,k1,k2⟩:=vW rv;refine⟨(.inr r.2.1,val)::L,.cons ⟨rfl,k2⟩ h1,λ i x hx=>?_⟩
  cases i with
  |zero=>cases hx;exact ⟨o,key,val,n,e1,e2,e3,rfl,gT (k:=.inr r.2.1) k1⟩
  |succ i=>exact h2 i x hx
theorem qa(hc:X.calm=true):CallR X (.type "dict") (tI X.K):=by
 intro pins s σ H xs us Q I r h;obtain⟨l,rows,rfl,h1,h2,h3,q⟩:=h;obtain⟨u,rfl,rx⟩:=dF r;cases rx;obtain⟨its,rv,⟨ol,nl,e1,e2,e3,e4⟩,hz⟩:=I.list h1;obtain⟨L,k1,k2⟩:=EA I h2;have hL:L.length=rows.length:=by have:=k1.length;rw[abK] at this;exact this.symm
 have hi:its.length=rows.length:=by have:=rv.length;rw[abK] at this;exact this.symm
 rw[abK] at hz
 have hk:L.map (·.1)=rows.map λ r=>(.inr r.2.1:Key):=by
  apply List.ext_getElem?;intro i;rw[List.getElem?_map,List.getElem?_map]
  cases e:rows[i]? with
  | none=>
   have:L[i]?=none:=by rw[List.getElem?_eq_none_iff] at e ⊢;nofun
   rw[this];rfl
  | some r=>
   obtain⟨_,_,val,_,_,_,_,e5,_⟩:=k2 i r e;rw[e5];rfl
 have hn:(L.map (·.1)).Nodup:=by
  rw[hk];have:(rows.map λ r=>(.inr r.2.1:Key))=(rows.map (·.2.1)).map Sum.inr:=by rw[aav];rfl
  rw[this];exact List.Pairwise.map _ (λ a b (z:a≠b) y=>z (aa6 y)) h3
 refine li (knd:=aq X.prog X.w) e1 e2 e4 e3 (I.ok.hd hc) (λ i=>L.getD i (.inl 0,.none)) (λ i v hv=>?_) (by rw[abT];nofun) λ h' tk dd hk'=>?_
 ·have hv':its[i]?=some v:=by rw[← Array.getElem?_toList] at hv;exact hv
  have hlt:i<rows.length:=by have:=(List.getElem?_eq_some_iff.mp hv').1;nofun
  obtain⟨o,key,val,m,g1,g2,g3,g4,g5⟩:=k2 i _ (List.getElem?_eq_getElem hlt);have hx:(rows.map λ r=>V.ref r.1)[i]?=some (.ref (rows[i]).1):=by rw[List.getElem?_map,List.getElem?_eq_getElem hlt];rfl
  obtain⟨u,hu,ru⟩:=rv.get hx;rw[hv'] at hu;cases hu;refine⟨_,o,key,m,ru,g1,g2,?_,?_⟩
  ·rw[List.getD_eq_getElem?_getD,g4];exact g3
  ·rw[List.getD_eq_getElem?_getD,g4];exact g5
 ·have hsz:its.toArray.size=L.length:=by rw[abT];nofun
  rw[hsz,p9 hn L.length (aac _),List.take_length] at dd;refine⟨.ref s.heap.objs.size,_,I.laid (a:=s.heap.objs.size) (o:=.dK (rows.map λ r=>(.inr r.2.1,r.2.2))) (t':=tk) hk' (aac _) (gX (by rw[abK];exact hz) (beq_eq_false_iff_ne.mpr (abk (aak I.big))) k1 dd),rfl,q _ (I.hok.fresh (aac _))⟩
theorem xX(K:Frag)(hc:X.calm=true)(h:X.K=K):BCall X (.type "dict") (tI K):=by subst h;exact⟨qa hc⟩
section
variable {K:Frag}
def mF:List D->Option (List (Str×D))
 |[]=>some []
 | .tup [.str z,d]::ds=>(match mF ds with
  |some r=>some ((z,d)::r)
  |none=>none)
 |_=>none
def nV:List D->(OV->Prop)->Prop
 | [.lst ds],P=>(match mF ds with
  |some rs=>(rs.map (·.1)).Nodup/\P (.fd (rs.map fun r=>.inr r.1) (rs.map (·.2)))
  |none=>False)
 |_,_=>False
theorem tJ(s:Same F H):∀ {ds:List D} {xs:List V} {rs:List (Str×D)},Dens K F xs ds->mF ds=some rs->∃ rows:List (Addr×Str×V),xs=rows.map (λ r=>.ref r.1)/\(∀ r∈rows,SqT K H r.1 [.str r.2.1,r.2.2])/\rows.map (·.2.1)=rs.map (·.1)/\Dens K F (rows.map (·.2.2)) (rs.map (·.2)):=by
 intro ds
 induction ds with
 |nil=>intro xs rs h e;cases h;cases e;exact⟨[],rfl,(λ _ z=>nomatch z),rfl,.nil⟩
 | cons d ds ih=>
  intro xs rs h e
  cases h with
  | @cons x _ xs _ h t=>
   unfold mF at e;split at e
   ·rename_i heq;cases heq
   ·rename_i z d' ds' heq;cases heq;split at e
    ·rename_i r er;cases e;obtain⟨rows,rfl,h2,h3,h4⟩:=ih t er
     cases h with
     | @tup a ys _ ha hd=>
      cases hd with
      | cons q1 q2=>
       cases q2 with
       | @cons v _ _ _ q2 q3=>
        cases q3;rw[q1.str_eq] at ha;refine⟨(a,z,v)::rows,rfl,λ r hr=>?_,by rw[abM,abM,h3],.cons q2 h4⟩;rcases abQ.mp hr with y|y
        ·rw[y];exact SqT.of (s _ _ ha)
        ·exact h2 r y
    ·cases e
   ·cases e
theorem xY:CallF K (tI K) nV:=⟨by
 intro F H xs ds Q P s ha f n;unfold nV at f;split at f
 ·rename_i ds';split at f
  ·rename_i rs er;obtain⟨x,rfl,hx⟩:=b8 ha;obtain⟨a,ys,rfl,h1,h2⟩:=hx.asL s;obtain⟨rows,rfl,g2,g3,g4⟩:=tJ s h2 er;refine⟨a,rows,rfl,h1,g2,by rw[g3];exact f.1,λ q hq=>n _ (.ref q) F _ [q] f.2 (Pure.new s hq) (.fd ae ?_ ?_) (New.one hq (s.free hq))⟩
   ·rw[aav];have:(rows.map (·.2.1)).map (Sum.inr (α:=Int))=(rs.map (·.1)).map Sum.inr:=by rw[g3]
    rw[aav,aav] at this;exact this
   ·rw[aav];exact g4
  ·exact f.elim
 ·exact f.elim⟩
end
section
variable {K:Frag}     
def tK:FE:=λ ρ Q=>Q (.ov (.ft [] [])) ρ
theorem xZ:EF K μ rb tK:=⟨by
 intro F Z H τ σ ρ A Q P vw R h q p hp;have hf:F p=none:=R.fh.free hp;exact R.after (P:=λ o=>P (.ov o) ρ) (λ o v F3 H3 B p s3 R3 ow fr=>q _ _ _ _ _ _ _ p s3 R3 ow fr) _ _ F _ [p] h (Pure.new R.fh hp) (.ft ae rfl .nil) (New.one hp hf)⟩
def tL(ks:List (List Key))(ds:List D)(k:List Key)(d:D):List (List Key)×List D:=
 if sJ ks k=true then (ks,(ks.zip ds).map λ kd=>if kd.1=k then d else kd.2) else (ks++[k],ds++[d])
theorem tM{ys:List (List Key×V)}{k:List Key}(hk:ys.map (·.1)=ks)(dn:Dens K F (ys.map (·.2)) ds)(dv:Den K F v d):(gR ys k v).map (·.1)=(tL ks ds k d).1/\Dens K F ((gR ys k v).map (·.2)) (tL ks ds k d).2:=by
 unfold tL gR;have hq:sJ ks k=(ys.any λ kv=>decide (kv.1=k)):=by rw[← hk,sJ,acd];rfl
 by_cases hm:sJ ks k=true
 ·have hany:(ys.any λ kv=>decide (kv.1=k))=true:=hq ▸ hm;rw[if_pos hany,if_pos hm];constructor
  ·rw[aav,← hk];refine aa9 λ kv _=>?_;show (if kv.1=k then (kv.1,v) else kv).1=kv.1;split <;> rfl
  ·subst hk;clear hm hany hq
   induction ys generalizing ds with
   |nil=>cases dn;exact .nil
   | cons y ys ih=>
    cases dn with
    | cons d1 d2=>
     refine .cons ?_ (ih d2);show Den K F (if y.1=k then (y.1,v) else y).2 (if y.1=k then d else _);split
     ·exact dv
     ·exact d1
 ·have hany:¬ (ys.any λ kv=>decide (kv.1=k))=true:=hq ▸ hm;rw[if_neg hany,if_neg hm];refine⟨by rw[aaf,hk];rfl,?_⟩;rw[aaf];exact dn.snoc dv
def unT(ρ:FSt)(i:Nat):Option (List (List Key)×List D):=match ρ[i]? with
 |some (some (.ft ks ds))=>some (ks,ds)
 |_=>none
theorem Rel.mutT(R:Rel K F Z H σ ρ A)(h:unT ρ i=some (ks,ds)):∃ a ys,σ[i]?=some (some (.ref a))/\H a=some (.dT ys)/\ys.map (·.1)=ks/\Dens K F (ys.map (·.2)) ds /\
  ∀ ys' ks' ds',ys'.map (·.1)=ks'->Dens K F (ys'.map (·.2)) ds'->∃ A',Rel K F Z (upd H a (.dT ys')) σ (ρ.set i (some (.ft ks' ds'))) A':=by
 have e:ρ[i]?=some (some (.ft ks ds)):=by
  unfold unT at h;split at h
  ·rename_i e;cases h;exact e
  ·cases h
 obtain⟨v,B,h1,h2,nd,mA,mk⟩:=R.chg e
 cases h2 with
 | @ft a ys _ _ hH hk dn=>
  refine⟨a,ys,h1,hH,hk,dn,λ ys' ks' ds' hk' dn'=>mk _ _ [a] (λ y u hy q=>by rw[af (show y≠a from λ z=>hy (z ▸ aab ..))];exact q) (.ft ae hk' dn') nd λ y hy=>.inl hy⟩
def tN(i:Nat)(fe fk:FE):FS:=λ E ρ=>fe ρ λ r ρ1=>match fzR r ρ1 with
 | some (d,ρ2)=>(unT ρ2 i).isSome=true/\fk ρ2 λ s ρ3=>on1 ρ3 s λ dk=>(match dk with
  | .tup kd=>(match iS kd,unT ρ3 i with
   |some k,some (ks,ds)=>ks.length<sizeLine/\E.nx (ρ3.set i (some (.ft (tL ks ds k d).1 (tL ks ds k d).2)))
   |_,_=>False)
  |_=>False)
 |none=>False
theorem x2(he:EF K (List.range n) tv fe)(hk:EF K (List.range n) ty fk):SF K n m (wb (db i) ty tv) (tN i fe fk):=⟨by
 intro F Z H σ0 σ ρ A D fD R p E h;refine he.h (View.id p.1) R h λ r ρ1 v F1 H1 A1 B1 p1 s1 R1 v1 f1=>?_;split at p1
 ·rename_i d ρ2 e2;obtain⟨F2,A2,s2,R2,dy,_,_⟩:=R1.frz v1 f1 e2;obtain⟨h0,p1⟩:=p1;obtain⟨⟨ks0,ds0⟩,e0⟩:=abZ.mp h0;obtain⟨a,xs,h1,h2,h3,_⟩:=R2.mutT e0;refine⟨.ref a,h1,?_⟩;refine hk.h (View.id p.1) R2 p1 λ s ρ3 w F3 H3 A3 B3 p3 s3 R3 v3 f3=>?_;obtain⟨dk,ek,p4⟩:=bP p3;split at p4
  ·rename_i kd;split at p4
   ·rename_i k ks ds e4 e3;obtain⟨a',ys,h1',h2',hk',h3',mt⟩:=R3.mutT e3;rw[h1] at h1';cases h1';obtain⟨b,rfl,hb⟩:=jM R3.fh (R3.acc v3 ek) e4;obtain⟨q1,q2⟩:=tM (k:=k) hk' h3' (dy.mono s3);obtain⟨A4,R4⟩:=mt (gR ys k v) _ _ q1 q2;have hl:ys.length=ks.length:=by rw[← hk',abK]
    exact⟨a,_,rfl,.inr ⟨ys,k,b,h2',rfl,hb,by rw[hl];exact p4.1,rfl⟩,E.nx _ _ _ _ _ ((s1.trans s2).trans s3) R4 p p4.2⟩
   ·exact p4.elim
  ·exact p4.elim
 ·exact p1.elim⟩
def Jp(fo fk:FE):FE:=λ ρ Q=>fo ρ λ r ρ1=>on1 ρ1 r λ d0=>(match d0 with
 | .dct _ _=>fk ρ1 λ s ρ2=>on2 ρ2 r s λ d e=>(match d,lW e with
  |.dct ks ds,some k=>Q (.ov (.fz ((gq ks ds k).getD .non))) ρ2
  |_,_=>False)
 |_=>False)
theorem tO{ys:List (Key×V)}{ks:List Key}{k:Key}{z:V}{dz:D}(hk:ys.map (·.1)=ks)(h:Dens K F (ys.map (·.2)) ds)(hz:Den K F z dz):Den K F ((gh ys k).getD z) ((gq ks ds k).getD dz):=by
 cases e:gq ks ds k with
 | some d=>
  obtain⟨v,h1,h2⟩:=jN hk h e;rw[h1];exact h2
 | none=>
  have:gh ys k=none:=by
   have h1:=nG (k:=k) hk
   cases q:gh ys k with
   |none=>rfl
   | some v=>
    rw[q] at h1;have hm:pT ks k=true:=h1.symm;unfold pT at hm;rw[aaZ] at hm;obtain⟨x,hx,hxk⟩:=hm;rw[decide_eq_true_eq] at hxk;subst hxk;unfold gq at e;rw[Option.map_eq_none_iff,List.find?_eq_none] at e;have hl:ks.length=ds.length:=by rw[← hk,abK];simpa using h.length
    obtain⟨i,hi⟩:=List.mem_iff_getElem?.mp hx;have hi2:i<ds.length:=by have:=(List.getElem?_eq_some_iff.mp hi).1;nofun
    have:=e (x,ds[i]) (List.mem_iff_getElem?.mpr ⟨i,by rw[List.getElem?_zip_eq_some];exact⟨hi,List.getElem?_eq_getElem hi2⟩⟩);simp at this
  rw[this];exact hz
theorem EB(ho:EF K μ td fo)(hk:EF K μ ty fk):EF K μ (re td ty) (Jp fo fk):=⟨by
 intro F Z H τ σ ρ A Q P vw R h q;refine ho.h vw R h λ r1 ρ1 x F1 H1 A1 B1 h1 s1 R1 v1 f1=>?_;obtain⟨d0,e0,h1⟩:=bP h1;split at h1
 ·obtain⟨a,ys0,rfl,g1,_⟩:=(R1.acc v1 e0).asD R1.fh;refine⟨a,rfl,.inl ⟨_,g1⟩,?_⟩;obtain⟨Z',sz,R1',zl,back⟩:=R1.hold v1.live v1.nt f1;refine hk.h vw R1' h1 λ r2 ρ2 y F2 H2 A2 B2 h2 s2 R2 v2 f2=>?_;obtain⟨R2',f1',k1⟩:=back _ _ _ _ s2 R2;obtain⟨d,e,e1,e2,h3⟩:=nk h2;split at h3
  ·rename_i ks ds k ek;obtain⟨a',ys,ea,g2,g3,g4⟩:=(R2'.acc (v1.keep s2 k1) e1).asD R2'.fh;cases ea;refine⟨gh ys k,by rw[dM (R2'.acc v2 e2) ek];exact DGet.kR g2,q _ _ _ _ _ _ _ h3 (s1.trans s2) R2' (.fz (tO g3 g4 .non)) Fresh.nil⟩
  ·exact h3.elim
 ·exact h1.elim⟩
def Jq(fo fk fx:FE):FE:=λ ρ Q=>fo ρ λ r ρ1=>on1 ρ1 r λ d0=>(match d0 with
 | .dct _ _=>fk ρ1 λ s ρ2=>on1 ρ2 s λ e=>(match lW e with
  | some k=>fx ρ2 fun t ρ3=>(match fzR t ρ3 with
   | some (dz,ρ4)=>on1 ρ4 r λ d=>(match d with
    |.dct ks ds=>Q (.ov (.fz ((gq ks ds k).getD dz))) ρ4
    |_=>False)
   |none=>False)
  |none=>False)
 |_=>False)
theorem EC{tx:TE}{fx:FE}(ho:EF K μ td fo)(hk:EF K μ ty fk)(hx:EF K μ tx fx):EF K μ (rf td ty tx) (Jq fo fk fx):=⟨by
 intro F Z H τ σ ρ A Q P vw R h q;refine ho.h vw R h λ r1 ρ1 x F1 H1 A1 B1 h1 s1 R1 v1 f1=>?_;obtain⟨d0,e0,h1⟩:=bP h1;split at h1
 ·obtain⟨a,ys0,rfl,g1,_⟩:=(R1.acc v1 e0).asD R1.fh;refine⟨a,rfl,.inl ⟨_,g1⟩,?_⟩;obtain⟨Z',sz,R1',zl,back⟩:=R1.hold v1.live v1.nt f1;refine hk.h vw R1' h1 λ r2 ρ2 y F2 H2 A2 B2 h2 s2 R2 v2 f2=>?_;obtain⟨e,e2,h3⟩:=bP h2;split at h3
  ·rename_i k ek;have ey:=dM (R2.acc v2 e2) ek;refine hx.h vw R2 h3 λ r3 ρ3 z F3 H3 A3 B3 h4 s3 R3 v3 f3=>?_;split at h4
   ·rename_i dz ρ4 ez;obtain⟨F4,A4,s4,R4,dnz,_,_⟩:=R3.frz v3 f3 ez;obtain⟨R4',f1',k1⟩:=back _ _ _ _ ((s2.trans s3).trans s4) R4;obtain⟨d,e1,h5⟩:=bP h4;split at h5
    ·rename_i ks ds;obtain⟨a',ys,ea,g2,g3,g4⟩:=(R4'.acc (v1.keep ((s2.trans s3).trans s4) k1) e1).asD R4'.fh;cases ea;exact⟨gh ys k,by rw[ey];exact DGet.kR g2,q _ _ _ _ _ _ _ h5 (s1.trans ((s2.trans s3).trans s4)) R4' (.fz (tO g3 g4 dnz)) Fresh.nil⟩
    ·exact h5.elim
   ·exact h4.elim
  ·exact h3.elim
 ·exact h1.elim⟩
def AD(fk fv:FE):FE:=λ ρ Q=>fk ρ λ r ρ1=>on1 ρ1 r λ d=>(match lW d with
 | some k=>fv ρ1 λ s ρ2=>(match fzR s ρ2 with
  |some (d2,ρ3)=>Q (.ov (.fd [k] [d2])) ρ3
  |none=>False)
 |none=>False)
theorem ya{tk:TE}{fv:FE}(hk:EF K μ tk fk)(hv:EF K μ tv fv):EF K μ (Cg [(tk,tv)]) (AD fk fv):=⟨by
 intro F Z H τ σ ρ A Q P vw R h q p hp;have R0:=R.step (Pure.new (o:=.dK []) R.fh hp);have fp:Fresh F Z A [p]:=R.fresh (New.one hp (R.fh.free hp));obtain⟨Z',sz,R1,zl,back⟩:=R0.hold (B:=[p]) (λ b hb=>⟨.dK [],by rw[abN.mp hb];exact ae⟩) (.one ae (λ _ z=>nomatch z) .nil) fp;refine hk.h vw R1 h λ r1 ρ1 x F1 H1 A1 B1 h1 s1 R2 v1 f1=>?_;obtain⟨d,e1,h2⟩:=bP h1;split at h2
 ·rename_i k ek;have ey:=dM (R2.acc v1 e1) ek;refine hv.h vw R2 h2 λ r2 ρ2 y F2 H2 A2 B2 h3 s2 R3 v2 f2=>?_;split at h3
  ·rename_i d2 ρ3 ez;obtain⟨F3,A3,s3,R4,dn,_,_⟩:=R3.frz v2 f2 ez;obtain⟨R5,f5,k5⟩:=back _ _ _ _ ((s1.trans s2).trans s3) R4;have fb:=f5.fr p (aab ..);have R6:=R5.write (o:=.dK [(k,y)]) fb.2.2 fb.1 fb.2.1;exact⟨k5 p _ (aab ..) ae,[(k,y)],by rw[ey];rfl,(by decide:(1:Nat)<=15),q _ _ _ _ _ _ _ h3 ((s1.trans s2).trans s3) R6 (.fd ae rfl (.cons dn .nil)) f5⟩
  ·exact h3.elim
 ·exact h2.elim⟩
end
section
variable {K:Frag}        
theorem rg(h:i<n):(List.range n)[i]?=some i:=by simp[h]
theorem ED(hC:ClsF K c C)(h:i<n)(hf:(cn c)[k]?=some f):EF K (List.range n) (vZ K (db i) f) (gz c i k):=Je hC (rg h) hf
theorem yb(hC:ClsF K c C)(h:i<n)(hf:(cn c)[k]?=some f):EF K (List.range n) (vZ K (db i) f) (xQ c i k):=El hC (rg h) hf
theorem yc(hC:ClsF K c C)(h:i<n)(hf:(cn c)[k]?=some f)(he:EF K (List.range n) te fe):EF K (List.range n) (tBM K "list" dG (vZ K (db i) f) (cZ te iN)) (xP c i k fe):=Ei hC (rg h) hf he
theorem yd(hC:ClsF K c C)(h:i<n)(hm:(cn c).contains mn=false)(ha:AF K (List.range n) t fa):EF K (List.range n) (pi C mn (spM K cc) [] E0 (db i) t) (dD mn c i cc fa):=Ej hC (rg h) hm ha
theorem ye(h:i<n):EF K (List.range n) (tCB (Gg K) (cZ (db i) iN)) (xR i):=En (rg h)
theorem tP(h:i<n):EF K (List.range n) (tOp (Lr K) (db i) (tUn (rU λ i=>.int (-i)) (tC (.int 1)))) (nR i):=xS (rg h)
theorem yf(h:i<n)(he:EF K (List.range n) te fe):EF K (List.range n) (tBM K "list" dG (db i) (cZ te iN)) (xT i fe):=Er (rg h) he
end
structure DfM(K:Frag)(C:Addr)(x q:Str)(st:Stmt)(f:Addr)(fd:FuncData):Prop where
 me:Meth K C x f
 fn:Fun K x q st f fd
theorem dfm_mk{K:Frag}{f:Addr}{kV:Value}(a:PySem.W.findIn K (.ref C) x=some (some (.ref f)))(i:PySem.W.isFn K (.ref f)=true)
  (l:K.lookup f=some ⟨oc,od,.func (PySem.W.fnOf x q (cG st) (bF st) (au st) .none kV doc pm an cdv ct),osl⟩) (c:PySem.W.codeIn K cdv q=true) (k:PySem.W.keepIn K (.ref f)=true):DfM K C x q st f (PySem.W.fnOf x q (cG st) (bF st) (au st) .none kV doc pm an cdv ct):=⟨⟨a,i,k⟩,Ak l c k⟩
theorem Jr{K:Frag}(a:PySem.W.nsIn K mainGlobals (Dd c)=some (some (.ref C)))(pg:PySem.W.plainGet K C Str.empty=true)(hd:PySem.W.hasDictIn K C=true)(po:PySem.W.plainOver K C=true)(sa:PySem.W.findIn K (.ref C) "__setattr__" = some (some (.builtin "object.__setattr__")))(na:∀ f∈cn c,NoAttr K C f):ClsF K c C:=⟨a,⟨pg,hd,po,sa⟩,na⟩
abbrev mG(Z:Zz)(C:Addr)(x:Str)(k:Nat)(ps:List Str)(c:Ct):Prop:=OwnM Z.P Z.w Z.K Z.mg Z.base C x k ps (spM Z.K c)
abbrev Js(Z:Zz)(C:Addr)(x:Str)(k:Nat)(ps:List Str)(c:Ct):Prop:=OwnI Z.P Z.w Z.K Z.mg Z.base x C k ps (spM Z.K c)
section
variable {Z:Zz} {T:Prop} {y:Str}  {f:Addr}  {ps:List Str} {c:Ct}  {h:Heap}
theorem fZ(D:DfM Z.K C x q st f fd)(ok:FnOk Z.P Z.w Z.K Z.mg Z.base CX0 k f fd ps (spM Z.K c))
  (hb:∀ (kV doc pm:Value) (an:Option Addr) (cdv ct:Value) (us:List Value),us.length=ps.length->bindArgs (PySem.W.fnOf x q (cG st) (bF st) (au st) .none kV doc pm an cdv ct) ⟨us,[]⟩=pure (ps.zip us)):mG Z C x k ps c:=⟨f,fd,ok,D.me,D.fn.binds hb⟩
theorem EE(t:TopZ Z T)(D:DfM Z.K C "__init__" q st f fd)(a:PySem.W.nsIn Z.K mainGlobals y=some (some (.ref C)))(mk:PySem.W.makesIn Z.K C=true)(kc:PySem.W.keepIn Z.K (.ref C)=true)(ok:FnOk Z.P Z.w Z.K Z.mg Z.base CX0 k f fd ps (spM Z.K c))
  (hb:∀ (kV doc pm:Value) (an:Option Addr) (cdv ct:Value) (us:List Value),us.length=ps.length->bindArgs (PySem.W.fnOf "__init__" q (cG st) (bF st) (au st) .none kV doc pm an cdv ct) ⟨us,[]⟩=pure (ps.zip us)):Js Z C y k ps c:=⟨f,fd,ok,⟨mk,D.me.at_,D.me.fn,kc⟩,aaQ t.X t.G a,D.fn.binds hb⟩
end
def qb(i j:Int):Prop:=i.natAbs<2 ^ 1000/\j.natAbs<2 ^ 1000
theorem EG:OpR X (binaryOp .Mult) (rI qb λ i j=>.int (i*j)):=opI λ i j _ _ _ _ _ hc q=>mul_int q (.of_le (intBits_le hc.1) (intBits_le hc.2) (by decide))
theorem yg:BOp X (binaryOp .Mult) (rI qb λ i j=>.int (i*j)):=⟨EG⟩
def tQ(i j:Int):Prop:=0<=j/\j<=8/\i.natAbs<2 ^ 1000
theorem EH:OpR X (binaryOp .Pow) (rI tQ λ i j=>.int (i ^ j.toNat)):=opI λ i j _ _ _ _ _ hc q=>by
 refine pow_int hc.1 ?_ q;have hb:Builtin.Int.intBits i<=1000:=intBits_le hc.2.2;have h2:=hc.2.1;have h1:(Builtin.Int.intBits i:Int)*j<=1000*j:=Int.mul_le_mul_of_nonneg_right (by nofun) hc.1;nofun
theorem yh:BOp X (binaryOp .Pow) (rI tQ λ i j=>.int (i ^ j.toNat)):=⟨EH⟩
section
variable {K:Frag}
theorem yi:OpF K (rI qb λ i j=>.int (i*j)) (aIC qb λ i j=>.int (i*j)):=jc λ _ _ _=>.int _
theorem yj:OpF K (rI tQ λ i j=>.int (i ^ j.toNat)) (aIC tQ λ i j=>.int (i ^ j.toNat)):=jc λ _ _ _=>.int _
end
def mH:V->List V->Hp->VK->Prop:=λ x vs H Q=>∃ l b xs ys,x=.ref l/\vs=[.ref b]/\H l=some (.dK xs)/\Rd H b (.dK ys)/\l≠b/\xs.length+ys.length<=sizeLine/\Q .non (upd H l (.dK (e8 xs ys)))
theorem tR:MtM X "dict.update" mH:=by
 intro pins s σ H x vs v us Q I rx rv h;obtain⟨l,b,xs,ys,rfl,rfl,hH,hB,hne,hz,q⟩:=h;cases rx;obtain⟨u,rfl,ru⟩:=rv.one;cases ru;obtain⟨z,hd,v1,r1,d1⟩:=qY I.hok hH;obtain⟨z2,hd2,v2,r2,d2⟩:=gU I.hok hB;refine call_meetsIn PySem.F.slot_dict_update d1.typeIs PySem.F.entry_dict_update (PySem.F.args_dict_update_2 _ _) (meets_dict_update (aq X.prog X.w) l b hne hd2) ⟨v1,v2,d1,d2,by rw[← r1.length,← r2.length];exact hz,λ h' e1 _ hs=>?_⟩;have he:∃ q,h'.get? l=some q:=let ⟨q,_,_,hq,_⟩:=e1;⟨q,hq⟩;exact⟨.non,_,fO I (by rw[hH];exact True.intro) hs he (gX (aau (de ys xs) hz) hd (r2.merge r1) e1),rfl,q⟩
theorem tS:BMt X "dict.update" mH:=⟨tR⟩
section
variable {K:Frag}     
def EI:List Key->List D->List Key->List D->List Key×List D
 |ks,ds,k::es,d::fs=>EI (fL ks ds k d).1 (fL ks ds k d).2 es fs
 |ks,ds,_,_=>(ks,ds)
theorem yk:∀ {ys xs:List (Key×V)} {ks es:List Key} {ds fs:List D},xs.map (·.1)=ks->Dens K F (xs.map (·.2)) ds->ys.map (·.1)=es->Dens K F (ys.map (·.2)) fs->(e8 xs ys).map (·.1)=(EI ks ds es fs).1/\Dens K F ((e8 xs ys).map (·.2)) (EI ks ds es fs).2:=by
 intro ys
 induction ys with
 |nil=>intro xs ks es ds fs h1 h2 h3 h4;subst h3;cases h4;exact⟨h1,h2⟩
 | cons y ys ih=>
  intro xs ks es ds fs h1 h2 h3 h4;subst h3
  cases h4 with
  | cons d1 d2=>
   obtain⟨q1,q2⟩:=nE (k:=y.1) h1 h2 d1;have r:=ih (xs:=gR xs y.1 y.2) q1 q2 rfl d2;exact r
theorem Rel.mutDF{ks:List Key}(R:Rel K F Z H σ ρ A)(h:unD ρ i=some (ks,ds)):∀ a,σ[i]?=some (some (.ref a))->F a=none:=by
 obtain⟨v,B,A',h1,h2,R',f',pm⟩:=R.takeI (kW h);intro a ha
 cases h2 with
 | @fd b ys ks os hl hk dn=>
  rw[h1] at ha;cases ha;exact(f'.fr a (aab ..)).1
def NK(i:Nat)(fe:FE):FE:=λ ρ Q=>(unD ρ i).isSome=true/\fe ρ λ r ρ1=>match fzR r ρ1 with
 | some (.dct es fs,ρ2)=>(match unD ρ2 i with
  |some (ks,ds)=>ks.length+es.length<=sizeLine/\Q (.ov (.fz .non)) (ρ2.set i (some (.fd (EI ks ds es fs).1 (EI ks ds es fs).2)))
  |none=>False)
 |_=>False
theorem EJ(h:j<n)(he:EF K (List.range n) te fe):EF K (List.range n) (tBM K "dict" mH (db j) (cZ te iN)) (NK j fe):=⟨by
 intro F Z H τ σ ρ A Q P vw R h' q;obtain⟨h0,h'⟩:=h';obtain⟨⟨ks0,ds0⟩,e0⟩:=abZ.mp h0;obtain⟨a,ys0,h1,h2,_,_,_⟩:=R.mutD e0;refine⟨.ref a,(vw j j (rg h)).1.trans h1,.inr (.inr (.inl ⟨rfl,.inl ⟨ys0,h2⟩⟩)),?_⟩;refine he.h vw R h' λ r ρ1 v F1 H1 A1 B1 p1 s1 R1 v1 f1=>?_;split at p1
 ·rename_i es fs ρ2 e2;obtain⟨F2,A2,s2,R2,dy,_,_⟩:=R1.frz v1 f1 e2;split at p1
  ·rename_i ks ds e3;obtain⟨a',xs,h1',h2',hk',h3',mt⟩:=R2.mutD e3;have hF:=R2.mutDF e3 a' h1';rw[h1] at h1';cases h1'
   cases dy with
   | @dct b ys _ _ g2 g3 g4=>
    have hne:a≠b:=λ z=>by
     rw[← z] at g2;rcases g2 with g|⟨o,g⟩
     ·rw[hF] at g;cases g
     ·rw[hF] at g;cases g
    obtain⟨q1,q2⟩:=yk hk' h3' g3 g4;obtain⟨A4,R4⟩:=mt (e8 xs ys) _ _ q1 q2;refine⟨a,b,xs,ys,rfl,rfl,h2',R2.fh.rd g2,hne,?_,q _ _ _ _ _ _ _ p1.2 (s1.trans s2) R4 (.fz .non) Fresh.nil⟩;have e1:xs.length=ks.length:=by rw[← hk',abK]
    have e2:ys.length=es.length:=by rw[← g3,abK]
    rw[e1,e2];exact p1.1
  ·exact p1.elim
 ·exact p1.elim⟩
end
section
variable   {A:Around}   {it d:Addr} {ep:Nat}  {es:Array DictEntry} {e:DictEntry} 
theorem yl(hI:s.heap.IsKeyIter it d i es.size ep)(hd:s.heap.get? d=some o)(hdat:o.data=.dict es ep)(he:es[i]?=some e)(q:∀ h',h'.IsKeyIter it d (i+1) es.size ep->Heap.SameBut it s.heap h'->Q (some e.key) { s with heap:=h' }):wpAny (model prog w) A (pyNext (.ref it)) Q E s:=by
 have hT:=hI.typeIs;obtain⟨oi,hi,hc,hf⟩:=hI;obtain⟨c1,dct,dat,sl⟩:=oi;simp only at hc hf;subst hc hf;obtain⟨c2,d2,dt2,sl2⟩:=o;simp only at hdat;subst hdat;obtain⟨hp,g,dr,tk,os⟩:=s;unfold pyNext;refine aaa (abF (wpAny_callSpecial?_slot hT abf (aaC abf hT F.entry_dict_keyiterator_next ?_ (F.args_dict_keyiterator_next_1 _))));unfold Builtin.«dict_keyiterator.__next__»
 repeat (any_goals (first|assumption|wp_step))
 have hx:(if (i:Int)<0 then none else es[(i:Int).toNat]?)=some e:=by rw[if_neg (by nofun)];simpa using he
 rw[hx]
 repeat (any_goals (first|assumption|(with_reducible refine wpAny_isOneOf_keyiter (by assumption) ?_)|wp_step))
 refine⟨_,rfl,aae (q _ ⟨_,Heap.get?_update_self _ hi rfl,rfl,?_⟩ ⟨?_,λ b hb=>Heap.get?_update_other _ _ (abk hb)⟩)⟩
 ·kernel_rfl
 ·exact Heap.size_update ..
theorem ym(hA:A.handled=none)(hI:s.heap.IsKeyIter it d i es.size ep)(hd:s.heap.get? d=some o)(hdat:o.data=.dict es ep)(he:es[i]?=none)(q:∀ h',Heap.ExtBut it s.heap h'->Q none { s with heap:=h' }):wpAny (model prog w) A (pyNext (.ref it)) Q E s:=by
 have hT:=hI.typeIs;obtain⟨oi,hi,hc,hf⟩:=hI;obtain⟨c1,dct,dat,sl⟩:=oi;simp only at hc hf;subst hc hf;obtain⟨c2,d2,dt2,sl2⟩:=o;simp only at hdat;subst hdat;obtain⟨hp,g,dr,tk,os⟩:=s;unfold pyNext;refine aaa (abF (wpAny_callSpecial?_slot hT abf (aaC abf hT F.entry_dict_keyiterator_next ?_ (F.args_dict_keyiterator_next_1 _))));unfold Builtin.«dict_keyiterator.__next__»
 repeat (any_goals (first|assumption|wp_step))
 have hx:(if (i:Int)<0 then none else es[(i:Int).toNat]?)=none:=by rw[if_neg (by nofun)];simpa using he
 rw[hx]
 repeat (any_goals (first|assumption|wp_step))
 refine wpAny_raiseNew_none (by simp[hA]) ?_;have f1:=isSubtype_stop
 repeat (any_goals (first|assumption|wp_step))
 exact q _ λ b o hb e=>Heap.get?_push_of_some _ (Heap.get?_push_of_some _ ((Heap.get?_update_other _ _ (abk hb)).trans e))
theorem yn{Q:Value->Shared->Prop}(hd:s.heap.get? d=some o)(hc:o.cls=.type "dict")(hdat:o.data=.dict es ep)(hm:(d==sysModules)=false)(q:Q (.ref s.heap.objs.size) { s with heap:=s.heap.push { cls:=.type "dict_keyiterator", data:=.fields #[.ref d,.int 0 0,.int es.size 0,.int ep 0] } }):wpAny (model prog w) A (pyIter (.ref d)) Q E s:=by
 have hT:s.TypeIs (.ref d) "dict" := ⟨_,hd,hc⟩;obtain⟨c2,d2,dt2,sl2⟩:=o;simp only at hdat hc;subst hdat hc;obtain⟨hp,g,dr,tk,os⟩:=s;refine wpAny_pyIter_slot hT F.slot_dict_iter (aaC F.slot_dict_iter hT F.entry_dict_iter ?_ (F.args_dict_iter_1 _));unfold Builtin.«dict.__iter__» Builtin.Dict.dictSlotNone;refine aaa (aaa (wpAny_notOrdered_dict hT ?_));unfold Builtin.Dict.showsAll
 repeat (any_goals (first|assumption|wp_step))
 refine⟨_,rfl, "dict_keyiterator", _,⟨_,Heap.get?_push_size _ rfl,rfl⟩,F.slot_dict_keyiterator_next.lookup,q⟩
theorem EK(hE:o.ExactDict)(hdat:o.data=.dict es ep)(hm:(d==sysModules)=false):PySem.W.KdlSrc prog w "dict" d d es.size (λ i v=>∃ e,es[i]?=some e/\v=e.key) (λ h=>h.get? d=some o) where
 type:=λ s h=>⟨_,h,hE.1⟩
 there:=λ h e=>⟨aah e,aah e⟩
 keep:=λ h h' e k=>k d (.inl rfl) o e
 notList:=by decide
 notTuple:=by decide
 hint:=λ A E s Q h q=>PySem.W.kdl_hint_dict ⟨_,h,hE.1⟩ q
 iter:=λ A s hA h=>by
  refine⟨_,λ i h'=>h'.IsKeyIter s.heap.objs.size d i es.size ep/\h'.get? d=some o,λ E Q q=>yn h hE.1 hdat hm q,?_,⟨_,Heap.get?_push_size _ rfl,rfl,rfl⟩,Heap.get?_push_of_some _ h⟩;have hne:d≠s.heap.objs.size:=aak (aah h);refine⟨λ b hb=>by simp at hb;simp[hb],λ i h1 h2 hs k=>⟨?_,k d (by simp) o hs.2⟩,λ i s1 Q E hi hs q=>?_,λ s1 Q E hs q=>?_,λ i s1 Q E hs q=>wpAny_pyIter_keyiter hs.1 q⟩
  ·obtain⟨oi,e1,e2⟩:=hs.1;exact⟨oi,k _ (by simp) oi e1,e2⟩
  ·refine yl hs.1 hs.2 hdat (Array.getElem?_eq_getElem hi) λ h' g1 g2=>q _ h' _ ⟨_,Array.getElem?_eq_getElem hi,rfl⟩ ⟨g1,(g2.2 d hne).trans hs.2⟩ λ b u hb e=>?_;rw[g2.2 b (by exists hb)];exact e
  ·refine ym hA hs.1 hs.2 hdat (Array.getElem?_eq_none (aac _)) λ h' g=>q h' _ λ b u hb e=>g b u (by exists hb) e
end
theorem EL{β:Type}{F:α->β->Prop}{l:List α}{m:List β}(h:Paired F l m):∀ {i:Nat} {a:α} {b:β},l[i]?=some a->m[i]?=some b->F a b:=by
 induction h with
 |nil=>intro i a b e;cases e
 | cons r t ih=>
  intro i a b e1 e2
  cases i with
  |zero=>cases e1;cases e2;exact r
  |succ i=>exact ih e1 e2
def tT:List V->Hp->VK->Prop:=λ xs H Q=>∃ (p:Addr) (kvs:List (List Key×V)),xs=[.ref p]/\Rd H p (.dT kvs)/\∀ (l:Addr) (bs:List Addr),H l=none->bs.length=kvs.length->(∀ (i:Nat) (b:Addr) (kv:List Key×V),bs[i]?=some b->kvs[i]?=some kv->H b=some (.tup (kv.1.map kV)))->Q (.ref l) (upd H l (.lst (bs.map .ref)))
theorem qc(hc:X.calm=true):CallR X (.type "list") tT:=by
 intro pins s σ H xs us Q I r h;obtain⟨p,kvs,rfl,hq,q⟩:=h;obtain⟨u,rfl,rx⟩:=dF r;cases rx;obtain⟨hz,hS,xs,rel,o,es,ep,h1,h2,h3,h4,h5⟩:=(show ObjOk X.prog X.w H s.heap p (.dT kvs) from hq.ok I.hok);have hl:kvs.length=xs.length:=aa1 rel;have hes:es.size=xs.length:=by rw[← abU,h4,abK]
 refine PySem.W.kdl_call (EK h2 h3 hS) (I.ok.hd hc) h1 (by rw[hes,← hl];exact hz) λ h' tk acc' c' hk hD hacc=>?_
 have hacc':acc'.toList=xs.map λ x=>Value.ref x.2.1:=by
  apply List.ext_getElem?;intro j;rw[List.getElem?_map]
  cases e:xs[j]? with
  | none=>
   rw[List.getElem?_eq_none_iff] at e;refine List.getElem?_eq_none ?_;rw[abU,hacc.1,hes];exact e
  | some x=>
   have hj:j<acc'.size:=by have:=(List.getElem?_eq_some_iff.mp e).1;rw[hacc.1,hes];exact this
   obtain⟨en,e1,e2⟩:=hacc.2 j acc'[j] (Array.getElem?_eq_getElem hj);rw[← Array.getElem?_toList,h4,List.getElem?_map,e] at e1;cases e1;rw[Array.getElem?_toList,Array.getElem?_eq_getElem hj,e2];rfl
 have hv:Vals ((xs.map λ x=>x.2.1).map V.ref) acc'.toList:=by
  rw[hacc',aav];clear hacc hacc' hD hes hl h4 h5 rel
  induction xs with
  |nil=>exact .nil
  |cons x xs ih=>exact .cons rfl ih
 refine⟨.ref s.heap.objs.size,_,I.laid (t':=tk) (o:=.lst ((xs.map λ x=>x.2.1).map V.ref)) hk (aac _) ⟨by rw[abK,abK,← hl];exact hz,acc'.toList,c',hv,by rw[abl];exact hD⟩,rfl,q _ _ (I.hok.fresh (aac _)) (by rw[abK,hl]) λ i b kv hb hkv=>?_⟩;rw[List.getElem?_map] at hb
 cases e:xs[i]? with
 |none=>rw[e] at hb;cases hb
 | some x=>
  rw[e] at hb;cases hb;exact(EL rel hkv e).2.1
theorem yo(hc:X.calm=true):BCall X (.type "list") tT:=⟨qc hc⟩
section
variable {K:Frag}     
theorem Rel.tups{bs:List Addr}(R:Rel K F Z H σ ρ A)(h:∀ b∈bs,∃ xs,H b=some (.tup xs)):∃ F',Same F F'/\Rel K F' Z H σ ρ A/\∀ b∈bs,F' b=H b:=by
 classical
 obtain⟨F',s,R',k,_⟩:=R.grow (B:=bs.filter λ b=>decide (F b=none)) (λ b hb=>by
  obtain⟨xs,e⟩:=h b (abX.mp hb).1;exact⟨_,e⟩) (λ b hb=>by
  obtain⟨xs,e⟩:=h b (abX.mp hb).1;refine⟨of_decide_eq_true (abX.mp hb).2,?_,λ z=>R.sl.nt b z xs e⟩
  cases z:Z b with
  |none=>rfl
  | some o=>
   have:=R.zh.s b o z;rw[e] at this;cases this;exact absurd z (R.zh.n b xs))
 refine⟨F',s,R',λ b hb=>?_⟩;obtain⟨xs,e⟩:=h b hb
 cases z:F b with
 |none=>rw[e];exact k b _ (abX.mpr ⟨hb,decide_eq_true z⟩) e
 |some o=>rw[s b o z];exact(R.fh b o z).symm
def NL(k:List Key):D:=.tup (k.map xt)
theorem lj{F:Hp}:∀ {ks:List (List Key)} {bs:List Addr},bs.length=ks.length->(∀ (i:Nat) b k,bs[i]?=some b->ks[i]?=some k->F b=some (.tup (k.map kV)))->Dens K F (bs.map .ref) (ks.map NL)
 |[],[],_,_=>.nil
 |k::ks,b::bs,hl,h=>.cons (.tup (h 0 b k rfl rfl) (fj k)) (lj (Nat.succ.inj hl) λ i b k e1 e2=>h (i+1) b k e1 e2)
def AE(fe:FE):FE:=λ ρ Q=>fe ρ λ r ρ1=>on1 ρ1 r λ d=>match d with
 |.dt ks _=>Q (.ov (.fl (ks.map NL))) ρ1
 |_=>False
theorem yp(he:EF K μ te fe):EF K μ (tCB tT (cZ te iN)) (AE fe):=⟨by
 intro F Z H τ σ ρ A Q P vw R h q;refine he.h vw R h λ r ρ1 x F1 H1 A1 B1 h1 s1 R1 v1 f1=>?_;obtain⟨d,e1,h2⟩:=bP h1;split at h2
 ·rename_i ks ds;obtain⟨a,ys,rfl,g1,g2,g3⟩:=(R1.acc v1 e1).asDT R1.fh;refine⟨a,ys,rfl,g1,λ l bs hl hlen hb=>?_⟩
  have at_:∀ (i:Nat) b,bs[i]?=some b->∃ kv,ys[i]?=some kv/\H1 b=some (.tup (kv.1.map kV)):=λ i b e=>by
   have hi:i<ys.length:=by have:=(List.getElem?_eq_some_iff.mp e).1;nofun
   exact⟨_,List.getElem?_eq_getElem hi,hb i b _ e (List.getElem?_eq_getElem hi)⟩
  obtain⟨F2,s2,R2,k2⟩:=R1.tups (bs:=bs) λ b hb=>by
   obtain⟨i,e⟩:=List.mem_iff_getElem?.mp hb;obtain⟨kv,_,e2⟩:=at_ i b e;exact⟨_,e2⟩
  have R3:=R2.step (Pure.new (o:=.lst (bs.map .ref)) R2.fh hl);refine q _ _ _ _ _ _ _ h2 (s1.trans s2) R3 (.fl ae (lj (by rw[hlen,← g2,abK]) λ i b k e1 e2=>?_)) (R2.fresh (New.one hl (R2.fh.free hl)));obtain⟨kv,e3,e4⟩:=at_ i b e1;rw[← g2,List.getElem?_map,e3] at e2;cases e2;rw[k2 b (List.mem_iff_getElem?.mpr ⟨i,e1⟩)];exact e4
 ·exact h2.elim⟩
def ofF:FV->OV
 |.fz d=>.fz d
 |.fl _ ds=>.fl ds
 |.fd _ ks ds=>.fd ks ds
 |.ft _ ks ds=>.ft ks ds
theorem Fw.own{p:FV}(h:Fw K F H v p B):Ow K F H v (ofF p) B:=by
 cases h with
 |fz h=>exact .fz h
 |fl h t=>exact .fl h t
 |fd h q t=>exact .fd h q t
 |ft h q t=>exact .ft h q t
def Jt(i j:Nat)(fe:FE):FS:=λ D ρ=>fe ρ λ r ρ1=>match r with
 |.ov (.ot [p,q])=>D.nx ((ρ1.set i (some (ofF p))).set j (some (ofF q)))
 |_=>False
theorem EM(he:EF K (List.range n) te fe)(hi:i∉m)(hj:j∉m):SF K n m (o5 te (GC K 2 (qA (eM i) (qA (eM j) Lb)))) (Jt i j fe):=⟨by
 intro F Z H σ0 σ ρ A D fD R p E h;refine he.h (View.id p.1) R h λ r ρ1 v F1 H1 A1 B1 h1 s1 R1 v1 f1=>?_;split at h1
 ·rename_i x y
  cases (show Ow K F1 H1 v (.ot [x,y]) B1 from v1) with
  | @ot a xs _ _ hF hp=>
   cases hp with
   | @cons u _ us _ B2 B3 g1 t=>
    cases t with
    | @cons w _ ws _ B4 B5 g2 t=>
     cases t;obtain⟨n1,n2,n3⟩:=bh (aaD (B2++(B4++[]))) f1.nd;obtain⟨A2,R2,m2⟩:=R1.assign (i:=i) g1.own ⟨n1,λ b hb=>f1.fr b (aam _ hb)⟩
     have f2:Fresh F1 Z A2 B4:=⟨by rw[aay] at n2;exact n2,λ b hb=>by
      have hb':b∈B4++[]:=by rw[aay];exact hb
      have f:=f1.fr b (aai _ hb');refine⟨f.1,f.2.1,λ z=>?_⟩;rcases m2 b z with y|y
      ·exact f.2.2 y
      ·exact n3 b y hb'⟩
     obtain⟨A3,R3,_⟩:=R2.assign (i:=j) g2.own f2;exact⟨_,_,rfl,SqT.of (R1.fh _ _ hF),rfl,_,_,rfl,_,_,rfl,rfl,E.nx _ _ _ _ _ s1 R3 ((p.set hi).set hj) h1⟩
 ·exact h1.elim⟩
end
section
variable {K:Frag}
end
end L2
local macro_rules|`(tactic|delta $c:ident) => `(tactic|(intro os P h;unfold $c at h;(repeat (obtain ⟨x,h⟩ := h));all_goals (subst_vars;exact L2.lo_of rfl rfl)))
namespace KR
open PySem L2
variable{z word w t n y nm:Str}{P:OV->List OV->Prop}{k c f far g m i G g':Nat}{a b:Addr}{d:D}{x:Option Nat}{zs ls p zs0 ps E ns pool xs:List Str}{ds:List D}{Q:D->Prop}{ks:List Key}{α β:Type}{mg:Str->Option Value}{base:Heap}{b1 b2 b0:Int}{rank:Str->Nat}{A B:Prop}{L:Str->Nat->Option Nat}
def top(i:Nat):Stmt:=PySem.Challenge.pw_keptreading_k13_again_and_again.main.body.getD i (.Pass ⟨0,0,0,0⟩)
def EN:Stmt->List Stmt
 |.ClassDef _ _ _ b _ _ _ _ _ _ _=>b
 |_=>[]
def mth(i j:Nat):Stmt:=(EN (top i)).getD j (.Pass ⟨0,0,0,0⟩)
structure Txt(K:Frag)(mg:Str->Option Value):Prop where
 n_len:mg "len" = none
 n_max:mg "max" = none
 n_min:mg "min" = none
 n_isinstance:mg "isinstance" = none
 n_all:mg "all" = none
 n_any:mg "any" = none
 n_sorted:mg "sorted" = none
 n_range:mg "range" = none
 n_str:mg "str" = none
 n_bool:mg "bool" = none
 n_int:mg "int" = none
 n_list:mg "list" = none
 n_tuple:mg "tuple" = none
 n_dict:mg "dict" = none
 n_set:mg "set" = none
 n_ord:mg "ord" = none
 n_ValueError:mg "ValueError" = none
 g_LETTERS:Glo mg "LETTERS" (.str "abcdefghijklmnopqrstuvwxyz")
 g_MOST_LETTERS:Glo mg "MOST_LETTERS" (.int 8)
 g_MOST_SIGNS:Glo mg "MOST_SIGNS" (.int 40)
 g_MOST_PARTS:Glo mg "MOST_PARTS" (.int 8)
 g_BARRED_SIGN:Glo mg "BARRED_SIGN" (.int 37)
 g_WORDS_ALONE:HY K mg "WORDS_ALONE" [.str "none", .str "any"]
 g_WORDS_WITH_ONE:HY K mg "WORDS_WITH_ONE" [.str "again", .str "ahead", .str "not"]
 g_WORDS_WITH_SOME:HY K mg "WORDS_WITH_SOME" [.str "row", .str "first"]
 g_WORDS_EVER_EMPTY:HY K mg "WORDS_EVER_EMPTY" [.str "none", .str "again", .str "ahead", .str "not"]
abbrev MP(a b:Addr)(form name:D)(place:Int):OV:=.ob ⟨a,0,[.fz form,.fz name,.fz (.int place),.fz (.int place),.fz (.int 0),.fl b [],.fz (.bl false),.fz .non]⟩
@[irreducible] def aJ:Ct:=λ os P=>∃ (a:Addr) (form name:D) (place:Int),os=[.ob ⟨a,0,[]⟩,.fz form,.fz name,.fz (.int place)]/\∀ b:Addr,P (.fz .non) [MP a b form name place,.fz form,.fz name,.fz (.int place)]
@[irreducible] def ay:Ct:=λ os P=>∃ (a:Addr) (p0 p1 p2 p3 p4 p5 p6 p7:FV) (d:D),os=[.ob ⟨a,0,[p0,p1,p2,p3,p4,p5,p6,p7]⟩,.fz d]/\P (.fz .non) [.ob ⟨a,0,[p0,p1,p2,p3,p4,p5,.fz (.bl true),.fz d]⟩,.fz d]
abbrev tU:Stmt:=mth 37 0
abbrev EO:FS:=
  (ao (iV 0 0 0 (ab 1))
  (ao (iV 0 0 1 (ab 2))
  (ao (iV 0 0 2 (ab 3))
  (ao (iV 0 0 3 (ab 3))
  (ao (iV 0 0 4 (fC (.int 0)))
  (ao (AC 0 0 5 (jD ag))
  (ao (iV 0 0 6 (fC (.bl false)))
  (iV 0 0 7 (fC .non)))))))))
abbrev AG:Stmt:=mth 37 1
abbrev Ju:FS:=
  (ao (iV 0 0 6 (fC (.bl true)))
  (iV 0 0 7 (ab 1)))
theorem EQ:Lh aJ 4 [0]:=by delta aJ
theorem ER:Hh aJ EO [0] 4:=by
 intro os P h;unfold aJ at h;obtain⟨a,form,name,place,rfl,q⟩:=h;ext;refine⟨aaq _,?_⟩;ext;intro b;ext;exact q b
theorem Jv:Lh ay 2 [0]:=by delta ay
theorem Jw:Hh ay Ju [0] 2:=by
 intro os P h;unfold ay at h;obtain⟨a,p0,p1,p2,p3,p4,p5,p6,p7,d,rfl,q⟩:=h;ext;exact q
def AH(l:List Nat):Prop:=∀ c∈l,97<=c/\c<=122
def cH(z:Str):Prop:=1<=z.cps.toList.length/\z.cps.toList.length<=8/\AH z.cps.toList
theorem jX{a b:List Nat}(ha:AH a)(hb:AH b):AH (a++b):=λ c h=>(abL.mp h).elim (ha c) (hb c)
abbrev abc:Str := "abcdefghijklmnopqrstuvwxyz"
theorem ES:AH abc.cps.toList:=by
 have h:(abc.cps.toList.all λ c=>decide (97<=c/\c<=122))=true:=by decide +kernel
 intro c hc;exact of_decide_eq_true (ab3.mp h c hc)
theorem mI:abc.cps.toList.length=26:=by decide +kernel
theorem jY(z:Str)(lo hi:Option Int):(jO z lo hi).cps.toList=g0 z.cps.toList lo hi:=by simp[jO]
theorem cE:sizeLine=16777216:=sizeLine_eq
def cR(z:Str):Prop:=1<=z.cps.toList.length/\z.cps.toList.length<=40/\z.cps.toList.Pairwise (·<·)/\∀ c∈z.cps.toList,32<=c/\c<=126/\c≠37
abbrev qd:Str := " !\"#$&'()*+,-./0123456789:;<=>?\x40ABCDEFGHIJKLMNOPQRSTUVWXYZ[\\]^_`abcdefghijklmnopqrstuvwxyz{|}~"
theorem tV:qd.cps.toList.length=94:=by decide +kernel
theorem nW:∀ c∈qd.cps.toList,32<=c/\c<=126/\c≠37:=by
 have h:(qd.cps.toList.all λ c=>decide (32<=c/\c<=126/\c≠37))=true:=by decide +kernel
 intro c hc;exact of_decide_eq_true (ab3.mp h c hc)
theorem yq(h:z.cps.toList.length=1):∃ c,z=⟨#[c]⟩:=by
 obtain⟨c,hc⟩:=List.length_eq_one_iff.mp h;exact⟨c,gZ (by rw[hc])⟩
theorem nX:∀ {ss:List Str},(∀ z∈ss,z.cps.toList.length=1)->∃ cs:List Nat,ss=cs.map λ c=>(⟨#[c]⟩:Str)
 |[],_=>⟨[],rfl⟩
 | s::ss,h=>by
  obtain⟨c,rfl⟩:=yq (h s (aab ..));obtain⟨cs,rfl⟩:=nX (ss:=ss) λ z hz=>h z (aad _ hz);exact⟨c::cs,rfl⟩
theorem jj:∀ cs:List Nat,((cs.map λ c=>(⟨#[c]⟩:Str)).map λ z=>z.cps.toList).flatten=cs
 |[]=>rfl
 |c::cs=>by simp only[List.map_cons,List.flatten_cons,jj cs];rfl
theorem qe{cs:List Nat}(h:(cs.map λ c=>(⟨#[c]⟩:Str)).Pairwise λ a b=>cO a b=true)(hn:(cs.map λ c=>(⟨#[c]⟩:Str)).Nodup):cs.Pairwise (·<·):=by
 rw[List.Nodup] at hn;have h2:=h.and hn;rw[List.pairwise_map] at h2;refine h2.imp fun {a b} hab=>?_;have h3:¬ ([b]<[a]):=dN.mp hab.1;have h4:¬ (b<a):=λ z=>h3 (List.Lex.rel z);have h5:a≠b:=λ z=>hab.2 (by rw[z]);nofun
def yr(zs:List Str)(word:Str)(rest:List Str):Prop:=
 ((word = "none" ∨ word = "any")/\rest=[])∨(word = "signs" /\ ∃ z,rest=[z]/\cR z) ∨
 ((word = "again" ∨ word = "ahead" ∨ word = "not")/\rest.length=1/\∀ z∈rest,z∈zs)∨((word = "row" ∨ word = "first")/\1<=rest.length/\rest.length<=8/\∀ z∈rest,z∈zs)
abbrev aK(word:Str)(rest:List Str):D:=.tup (.str word::rest.map .str)
abbrev Rw:=Str×Str×List Str
variable{rows rw':List Rw}
abbrev dZ(r:Rw):D:=.tup [.str r.1,aK r.2.1 r.2.2]
def ET(zs:List Str)(word:Str)(rest:List Str):Prop:=(∀ z∈zs,cH z)/\yr zs word rest
def iu(word:Str)(rest:List Str):Prop:=∃ zs:List Str,ET zs word rest
structure BookL(rows:List Rw):Prop where
 nd:(rows.map (·.1)).Nodup
 ok:∀ r∈rows,cH r.1/\iu r.2.1 r.2.2
 few:rows.length<=30
 pool:∃ zs:List Str,zs.length<=45/\∀ r∈rows,ET zs r.2.1 r.2.2
def bO(word:Str)(rest:List Str):List Str:=if word = "signs" then [] else rest
@[irreducible] def bi:Ct:=λ os P=>∃ (word:Str) (rest:List Str),os=[.fz (aK word rest)]/\P (.fl ((bO word rest).map .str)) os
abbrev tW:Stmt:=top 22
abbrev EU:FS:=
  (ao (fIf (aH (fOp aEq (fOp aIx (ab 0) (fC (.int 0))) (fC (.str "signs"))))
   (bE (jD ag))
   bc)
  (bE (fCB I8 (aa (fSl aSl (ab 0) (mo (fC (.int 1))) eO) ag))))
theorem EV:Lh bi 1 []:=by delta bi
theorem EW:Hh bi EU [] 1:=by
 intro os P h;unfold bi at h;obtain⟨word,rest,rfl,q⟩:=h;unfold bO at q
 have nw:nH (D.str word::rest.map D.str).length (some 1) none:=λ z=>by
  have e1:HT.sIx (D.str word::rest.map D.str).length 0 (some (1:Int))=1:=by
   rw[show (1:Int)=((1:Nat):Int) from rfl,HT.sIx_nat,abO];nofun
  rw[e1] at z;nofun
 have hcut:g0 (D.str word::rest.map D.str) (some 1) none=rest.map D.str:=kL _ 1;ext;refine aB ?_;ext;refine cV ?_;ext;refine⟨aO,?_⟩;ext;refine aw (word = "signs") bz (λ hw=>?_) (λ hw=>?_)
 ·ext;refine⟨aaq _,?_⟩;ext;rw[if_pos hw] at q;exact q
 ·ext;refine⟨nw,?_⟩;rw[if_neg hw] at q;rw[hcut];ext;exact q
theorem cS{rest:List Str}(h:P (.fl ((bO word rest).map .str)) [.fz (aK word rest)]):bi [.fz (aK word rest)] P:=by
 unfold bi;exact⟨word,rest,rfl,h⟩
inductive Leaf where
 |lack|none|any|signs (s:Str)
variable{l:Leaf}
def qf:Leaf->D
 |.lack=>.non
 |.none=>aK "none" []
 |.any=>aK "any" []
 |.signs s=>aK "signs" [s]
def Jx:Option Int->D
 |none=>.non
 |some i=>.int i
def lX(l:Leaf)(z:Str)(k:Nat):Option Int:=match l with
 |.lack=>none
 |.none=>some 0
 |.any=>if k<z.length then some 1 else none
 | .signs s=>match z.cps.toList[k]? with
  |some c=>if c∈s.cps.toList then some 1 else none
  |none=>none
theorem nY{s:Str}(h:z.cps.toList[k]?=none):lX (.signs s) z k=none:=by unfold lX;simp only[h]
theorem tX{s:Str}(h:z.cps.toList[k]?=some c):lX (.signs s) z k=if c∈s.cps.toList then some 1 else none:=by unfold lX;simp only[h]
@[irreducible] def aZ:Ct:=λ os P=>∃ (l:Leaf) (z:Str) (k:Nat),os=[.fz (qf l),.fz (.str z),.fz (.int k)]/\k<=z.length/\z.length<=sizeLine/\P (.fz (Jx (lX l z k))) os
abbrev nZ:Stmt:=top 38
abbrev yt:FS:=
  (ao (fIf (aH (fOp xF (ab 0) (fC .non)))
   (bE (fC .non))
   bc)
  (ao (fIf (aH (fOp aEq (fOp aIx (ab 0) (fC (.int 0))) (fC (.str "none"))))
   (bE (fC (.int 0)))
   bc)
  (ao (fIf (aH (fOp aEq (ab 2) (fCB eX (aa (ab 1) ag))))
   (bE (fC .non))
   bc)
  (bE (Lq (fOr (aH (fOp aEq (fOp aIx (ab 0) (fC (.int 0))) (fC (.str "any")))) (aH (fOp aIn (fOp aIx (ab 1) (ab 2)) (fOp aIx (ab 0) (fC (.int 1)))))) (fC (.int 1)) (fC .non))))))
theorem yu:Lh aZ 3 []:=by delta aZ
theorem yv:Hh aZ yt [] 3:=by
 intro os P h;unfold aZ at h;obtain⟨l,z,k,rfl,hk,hz,q⟩:=h;have sz:=cE
 cases l with
 | lack=>
  ext;refine aB ?_;ext;refine cU ?_;ext;exact q
 | none=>
  ext;refine aB ?_;ext;refine cY ?_;ext;refine aB ?_;ext;refine⟨aO,?_⟩;ext;refine aw _ bz (λ _=>?_) (λ hw=>absurd rfl hw);ext;exact q
 | any=>
  ext;refine aB ?_;ext;refine cY ?_;ext;refine aB ?_;ext;refine⟨aO,?_⟩;ext;refine aw _ bz (λ hw=>absurd hw (by decide +kernel)) (λ _=>?_);ext;refine aB ?_;ext;refine⟨hz,?_⟩;ext;refine⟨aX,?_⟩;ext;refine aw _ b9 (λ he=>?_) (λ he=>?_)
  ·ext;have hke:¬ k<z.length:=by nofun
   have:lX .any z k=none:=if_neg hke;rw[this] at q;exact q
  ·ext;have hkl:k<z.length:=by nofun
   refine⟨aO,?_⟩;ext;refine aw _ bz (λ _=>?_) (λ hw=>absurd rfl hw);ext;refine cU ?_;ext;have:lX .any z k=some 1:=if_pos hkl;rw[this] at q;exact q
 | signs s=>
  ext;refine aB ?_;ext;refine cY ?_;ext;refine aB ?_;ext;refine⟨aO,?_⟩;ext;refine aw _ bz (λ hw=>absurd hw (by decide +kernel)) (λ _=>?_);ext;refine aB ?_;ext;refine⟨hz,?_⟩;ext;refine⟨aX,?_⟩;ext;refine aw _ b9 (λ he=>?_) (λ he=>?_)
  ·ext;have hke:¬ k<z.length:=by nofun
   have:lX (.signs s) z k=none:=nY (List.getElem?_eq_none_iff.mpr (by rw[← fB];nofun));rw[this] at q;exact q
  ·ext;have hkl:k<z.length:=by nofun
   refine⟨aO,?_⟩;ext;refine aw _ bz (λ hw=>absurd hw (by decide +kernel)) (λ _=>?_);ext;have hc:z.cps.toList[k]?=some (z.cps.toList[k]'(by rw[← fB];exact hkl)):=List.getElem?_eq_getElem _;generalize z.cps.toList[k]'(by rw[← fB];exact hkl)=c at hc;rw[tX hc] at q;refine⟨hz,?_⟩;rw[nS hc];ext;refine aw _ decide_eq_true_iff (λ hm=>?_) (λ hm=>?_)
   ·ext;rw[if_pos hm] at q;exact q
   ·ext;rw[if_neg hm] at q;exact q
theorem fE(hk:k<=z.length)(hz:z.length<=sizeLine)(h:P (.fz (Jx (lX l z k))) [.fz (qf l),.fz (.str z),.fz (.int k)]):aZ [.fz (qf l),.fz (.str z),.fz (.int k)] P:=by
 unfold aZ;exact⟨l,z,k,rfl,hk,hz,h⟩
theorem n0{form name:D}{place:Int}(h:∀ b:Addr,P (.fz .non) [MP a b form name place,.fz form,.fz name,.fz (.int place)]):aJ [.ob ⟨a,0,[]⟩,.fz form,.fz name,.fz (.int place)] P:=by
 unfold aJ;exact⟨a,form,name,place,rfl,h⟩
theorem ca{p0 p1 p2 p3 p4 p5 p6 p7:FV}(h:P (.fz .non) [.ob ⟨a,0,[p0,p1,p2,p3,p4,p5,.fz (.bl true),.fz d]⟩,.fz d]):ay [.ob ⟨a,0,[p0,p1,p2,p3,p4,p5,p6,p7]⟩,.fz d] P:=by
 unfold ay;exact⟨a,p0,p1,p2,p3,p4,p5,p6,p7,d,rfl,h⟩
abbrev ask1(a b:Addr)(form name:D)(place:Int)(len:D):OV:=.ob ⟨a,0,[.fz form,.fz name,.fz (.int place),.fz (.int place),.fz (.int 0),.fl b [],.fz (.bl true),.fz len]⟩
@[irreducible] def cW:Ct:=λ os P=>∃ (ks:List Key) (ds:List D) (z n:Str) (k:Nat),os=[.fz (.dct ks ds),.fz (.str z),.fz (.str n),.fz (.int k)]/\k<=z.length/\z.length<=sizeLine /\
  ((∃ l,(gq ks ds (.inr n)).getD .non=qf l/\∀ a b,P (ask1 a b (qf l) (.str n) k (Jx (lX l z k))) os) ∨
   ∃ word rest,(gq ks ds (.inr n)).getD .non=aK word rest/\word ≠ "signs" /\ rest≠[]/\rest.length<=8/\∀ a b,P (MP a b (aK word rest) (.str n) k) os)
abbrev tY:Stmt:=top 39
abbrev EX:FS:=
  (ao (cg (Jp (ab 0) (ab 2)) (ac 4))
  (ao (cL 5 (Jf 0 aJ (aa (fFz (ab 4)) (aa (fFz (ab 2)) (aa (fFz (ab 3)) ag)))))
  (ao (fIf (fOr (aH (fOp xF (ab 4) (fC .non))) (aH (fOp aEq (fCB eX (aa (am bi (aa (fFz (ab 4)) ag)) ag)) (fC (.int 0)))))
   (b5 (dD "end" 0 5 ay (aa (fFz (am aZ (aa (fFz (ab 4)) (aa (fFz (ab 1)) (aa (fFz (ab 3)) ag))))) ag)))
   bc)
  (bE (ab 5)))))
theorem EY:Lh cW 4 []:=by delta cW
theorem EZ:Hh cW EX [] 6:=by
 intro os P h;unfold cW at h;obtain⟨ks,ds,z,n,k,rfl,hk,hz,h⟩:=h;ext;rcases h with ⟨l,e,q⟩|⟨word,rest,e,hw,hne,h8,q⟩
 ·rw[e];ext;intro a;refine n0 λ b=>?_;ext;refine aB ?_
  cases l with
  | lack=>
   ext;refine cU ?_;ext;refine cU ?_;ext;refine fE (l:=.lack) hk hz ?_;ext;refine ca ?_;ext;exact q a b
  | none=>
   ext;refine cY ?_;ext;refine cS ?_;ext;refine⟨aX,?_⟩;ext;refine aw _ b9 (λ _=>?_) (λ h0=>absurd (by decide +kernel) h0);ext;refine fE (l:=.none) hk hz ?_;ext;refine ca ?_;ext;exact q a b
  | any=>
   ext;refine cY ?_;ext;refine cS ?_;ext;refine⟨aX,?_⟩;ext;refine aw _ b9 (λ _=>?_) (λ h0=>absurd (by decide +kernel) h0);ext;refine fE (l:=.any) hk hz ?_;ext;refine ca ?_;ext;exact q a b
  | signs s=>
   ext;refine cY ?_;ext;refine cS ?_;ext;refine⟨aX,?_⟩;ext;refine aw _ b9 (λ _=>?_) (λ h0=>absurd (by rw[show bO "signs" [s]=[] from if_pos rfl];rfl) h0);ext;refine fE (l:=.signs s) hk hz ?_;ext;refine ca ?_;ext;exact q a b
 ·rw[e];ext;intro a;refine n0 λ b=>?_;ext;refine aB ?_;ext;refine cY ?_;ext;refine cS ?_;ext;refine⟨aX,?_⟩;ext;have hp:bO word rest=rest:=if_neg hw;refine aw _ b9 (λ h0=>?_) (λ _=>?_)
  ·rw[hp,abK] at h0;exact absurd (List.length_eq_zero_iff.mp (by nofun)) hne
  ·ext;exact q a b
inductive Rl where
 |leaf (l:Leaf)|comp (w:Str) (r:List Str)
def rlD:Rl->D
 |.leaf l=>qf l
 |.comp w r=>aK w r
def dc(o:Option Nat):D:=match o with
 |none=>.non
 |some k=>.int k
def eh(l:Leaf)(z:Str)(k:Nat):Option Nat:=match lX l z k with
 |none=>none
 |some i=>some i.toNat
theorem jZ(l:Leaf)(z:Str)(k:Nat):Jx (lX l z k)=dc (eh l z k):=by
 unfold eh
 cases e:lX l z k with
 |none=>rfl
 | some i=>
  have:0<=i:=by
   unfold lX at e;split at e
   ·cases e
   ·cases e;decide
   ·split at e
    ·cases e;decide
    ·cases e
   ·split at e
    ·split at e
     ·cases e;decide
     ·cases e
    ·cases e
  show D.int i=D.int ((i.toNat:Nat):Int);rw[Int.toNat_of_nonneg this]
abbrev Sp2:=Str×Nat
variable{root q:Sp2}{st:List Sp2}
def bL(s:Sp2):D:=.tup [.str s.1,.int s.2]
structure As where
 fm:Rl
 n:Str
 k:Nat
 t:Nat
 tn:Nat
 st:List Sp2
 dn:Bool
 ln:Option Nat
variable{s:As}
abbrev asA(a b:Addr)(s:As):Oo:=⟨a,0,[.fz (rlD s.fm),.fz (.str s.n),.fz (.int s.k),.fz (.int s.t),.fz (.int s.tn),.fl b (s.st.map bL),.fz (.bl s.dn),.fz (dc s.ln)]⟩
def ll(s:As)(x:Option Nat):As:={ s with dn:=true,ln:=x }
def qg(r:List Str)(s:As)(x:Option Nat):As:=match x with
 |none=>ll s none
 |some l=>if s.tn+1=r.length then ll { s with t:=s.t+l,tn:=s.tn+1 } (some (s.t+l - s.k)) else { s with t:=s.t+l,tn:=s.tn+1 }
def eG(r:List Str)(s:As)(x:Option Nat):As:=if x≠none∨s.tn+1=r.length then ll { s with tn:=s.tn+1 } x else { s with tn:=s.tn+1 }
def dB(s:As)(x:Option Nat):As:=if x=none∨x=some 0 then ll s (some (s.t - s.k)) else { s with t:=s.t+x.getD 0 }
def ah(r:List Str)(s:As):Sp2:=(r.getD s.tn "", s.t)
def cf(w:Str)(r:List Str)(s0:As)(x:Option Nat):As:=
 let s:={ s0 with st:=s0.st++[ah r s0] }
 if w = "row" then qg r s x else if w = "first" then eG r s x else if w = "again" then dB s x else if w = "ahead" then ll s (if x=none then none else some 0) else ll s (if x=none then some 0 else none)
@[irreducible] def aE:Ct:=λ os P=>∃ (a b:Addr) (s:As) (w:Str) (r:List Str),os=[.ob (asA a b s)]/\s.fm=.comp w r/\s.tn<r.length/\r.length<=8/\P (.fz (bL (ah r s))) os
@[irreducible] def ar:Ct:=λ os P=>∃ (a b:Addr) (s:As) (w:Str) (r:List Str) (x:Option Nat),os=[.ob (asA a b s),.fz (dc x)]/\s.fm=.comp w r/\r.length<=8/\s.k<=s.t/\P (.fz .non) [.ob (asA a b (qg r s x)),.fz (dc x)]
@[irreducible] def ak:Ct:=λ os P=>∃ (a b:Addr) (s:As) (w:Str) (r:List Str) (x:Option Nat),os=[.ob (asA a b s),.fz (dc x)]/\s.fm=.comp w r/\r.length<=8/\P (.fz .non) [.ob (asA a b (eG r s x)),.fz (dc x)]
@[irreducible] def al:Ct:=λ os P=>∃ (a b:Addr) (s:As) (x:Option Nat),os=[.ob (asA a b s),.fz (dc x)]/\s.k<=s.t/\P (.fz .non) [.ob (asA a b (dB s x)),.fz (dc x)]
@[irreducible] def aY:Ct:=λ os P=>∃ (a b:Addr) (s:As) (w:Str) (r:List Str) (x:Option Nat),os=[.ob (asA a b s),.fz (dc x)]/\s.fm=.comp w r/\s.tn<r.length/\r.length<=8/\s.k<=s.t/\s.st.length<sizeLine/\P (.fz .non) [.ob (asA a b (cf w r s x)),.fz (dc x)]
abbrev lm:Stmt:=mth 37 2
abbrev tZ:FS:=
  (bE (ib (aa (fOp aIx (gz 0 0 0) (fOp eC (fC (.int 1)) (gz 0 0 4))) (aa (gz 0 0 3) ag))))
abbrev AI:Stmt:=mth 37 4
abbrev Jy:FS:=
  (ao (fIf (aH (fOp xF (ab 1) (fC .non)))
   (ao (b5 (dD "end" 0 0 ay (aa (fC .non) ag)))
  Iu)
   bc)
  (ao (pZ 0 0 3 (ab 1))
  (ao (pZ 0 0 4 (fC (.int 1)))
  (fIf (aH (fOp aEq (gz 0 0 4) (fOp (aI0 λ i j=>.int (i - j)) (fCB eX (aa (gz 0 0 0) ag)) (fC (.int 1)))))
   (b5 (dD "end" 0 0 ay (aa (fFz (fOp (aI0 λ i j=>.int (i - j)) (gz 0 0 3) (gz 0 0 2))) ag)))
   bc))))
abbrev n5:Stmt:=mth 37 5
abbrev yw:FS:=
  (ao (pZ 0 0 4 (fC (.int 1)))
  (fIf (fOr (aH (fOp mD (ab 1) (fC .non))) (aH (fOp aEq (gz 0 0 4) (fOp (aI0 λ i j=>.int (i - j)) (fCB eX (aa (gz 0 0 0) ag)) (fC (.int 1))))))
   (b5 (dD "end" 0 0 ay (aa (fFz (ab 1)) ag)))
   bc))
abbrev n6:Stmt:=mth 37 6
abbrev yx:FS:=
  (fIf (fOr (aH (fOp xF (ab 1) (fC .non))) (aH (fOp aEq (ab 1) (fC (.int 0)))))
   (b5 (dD "end" 0 0 ay (aa (fFz (fOp (aI0 λ i j=>.int (i - j)) (gz 0 0 3) (gz 0 0 2))) ag)))
   (pZ 0 0 3 (ab 1)))
abbrev t0:Stmt:=mth 37 3
abbrev E1:FS:=
  (ao (b5 (xP 0 0 5 (dD "wanted" 0 0 aE ag)))
  (ao (cg (fOp aIx (gz 0 0 0) (fC (.int 0))) (ac 2))
  (fIf (aH (fOp aEq (ab 2) (fC (.str "row"))))
   (b5 (dD "take_in_row" 0 0 ar (aa (fFz (ab 1)) ag)))
   (fIf (aH (fOp aEq (ab 2) (fC (.str "first"))))
   (b5 (dD "take_in_first" 0 0 ak (aa (fFz (ab 1)) ag)))
   (fIf (aH (fOp aEq (ab 2) (fC (.str "again"))))
   (b5 (dD "take_in_again" 0 0 al (aa (fFz (ab 1)) ag)))
   (fIf (aH (fOp aEq (ab 2) (fC (.str "ahead"))))
   (b5 (dD "end" 0 0 ay (aa (fFz (Lq (aH (fOp xF (ab 1) (fC .non))) (fC .non) (fC (.int 0)))) ag)))
   (b5 (dD "end" 0 0 ay (aa (fFz (Lq (aH (fOp xF (ab 1) (fC .non))) (fC (.int 0)) (fC .non))) ag)))))))))
theorem t4:Lh aE 1 [0]:=by delta aE
theorem t5:Hh aE tZ [0] 1:=by
 intro os P h;unfold aE at h;obtain⟨a,b,s,w,r,rfl,hf,ht,hr,q⟩:=h;obtain⟨fm,n,k,t,tn,st,dn,ln⟩:=s;simp only at hf ht;subst hf
 have e1:atI (D.str w::List.map D.str r) (1+(tn:Int))=some (.str (r.getD tn "")):=by
  rw[show (1+(tn:Int))=((tn+1:Nat):Int) by nofun];refine nS ?_;rw[List.getElem?_cons_succ,List.getElem?_map,List.getD_eq_getElem?_getD,List.getElem?_eq_getElem ht];rfl
 have s2:2<=sizeLine:=by rw[sizeLine_eq];decide
 ext;rw[e1];ext;refine⟨s2,?_⟩;ext;exact q
theorem gb{r:List Str}(hf:s.fm=.comp w r)(ht:s.tn<r.length)(hr:r.length<=8)(h:P (.fz (bL (ah r s))) [.ob (asA a b s)]):aE [.ob (asA a b s)] P:=by
 unfold aE;exact⟨a,b,s,w,r,rfl,hf,ht,hr,h⟩
theorem Jz:Lh ar 2 [0]:=by delta ar
theorem JA:Hh ar Jy [0] 2:=by
 intro os P h;unfold ar at h;obtain⟨a,b,s,w,r,x,rfl,hf,hr,hk,q⟩:=h;obtain⟨fm,n,k,t,tn,st,dn,ln⟩:=s;simp only at hf hk;subst hf;have sz:=cE
 cases x with
 | none=>
  ext;refine aB ?_;ext;refine cU ?_;ext;refine ca ?_;ext;exact q
 | some l=>
  ext;refine aB ?_;ext;refine cY ?_;ext;refine aB ?_;ext;refine⟨aX,?_⟩;ext;refine aw (tn+1=r.length) (b9.trans (by simp only[List.length_cons,List.length_map];nofun)) (λ h=>?_) (λ h=>?_)
  ·ext;refine ca ?_;ext;rw[show qg r ⟨.comp w r,n,k,t,tn,st,dn,ln⟩ (some l)=ll ⟨.comp w r,n,k,t+l,tn+1,st,dn,ln⟩ (some (t+l - k)) from if_pos h] at q;have e:((t:Int)+(l:Int)) - (k:Int)=((t+l - k:Nat):Int):=by nofun
   have q3:P (.fz .non) [.ob ⟨a,0,[.fz (aK w r),.fz (.str n),.fz (.int k),.fz (.int ((t:Int)+l)),.fz (.int ((tn:Int)+1)),.fl b (st.map bL),.fz (.bl true),.fz (.int ((t:Int)+l - k))]⟩,.fz (.int l)]:=by rw[e];exact q
   exact q3
  ·ext;rw[show qg r ⟨.comp w r,n,k,t,tn,st,dn,ln⟩ (some l)=⟨.comp w r,n,k,t+l,tn+1,st,dn,ln⟩ from if_neg h] at q;exact q
theorem E2{r:List Str}(hf:s.fm=.comp w r)(hr:r.length<=8)(hk:s.k<=s.t)(h:P (.fz .non) [.ob (asA a b (qg r s x)),.fz (dc x)]):ar [.ob (asA a b s),.fz (dc x)] P:=by
 unfold ar;exact⟨a,b,s,w,r,x,rfl,hf,hr,hk,h⟩
theorem yy:Lh ak 2 [0]:=by delta ak
theorem yz:Hh ak yw [0] 2:=by
 intro os P h;unfold ak at h;obtain⟨a,b,s,w,r,x,rfl,hf,hr,q⟩:=h;obtain⟨fm,n,k,t,tn,st,dn,ln⟩:=s;simp only at hf;subst hf;have sz:=cE
 cases x with
 | none=>
  ext;refine aB ?_;ext;refine cY ?_;ext;refine⟨aX,?_⟩;ext;refine aw (tn+1=r.length) (b9.trans (by simp only[List.length_cons,List.length_map];nofun)) (λ h=>?_) (λ h=>?_)
  ·ext;refine ca ?_;ext;rw[show eG r ⟨.comp w r,n,k,t,tn,st,dn,ln⟩ none=ll ⟨.comp w r,n,k,t,tn+1,st,dn,ln⟩ none from if_pos (.inr h)] at q;exact q
  ·ext;rw[show eG r ⟨.comp w r,n,k,t,tn,st,dn,ln⟩ none=⟨.comp w r,n,k,t,tn+1,st,dn,ln⟩ from if_neg (λ z=>z.elim (λ y=>y rfl) h)] at q;exact q
 | some l=>
  ext;refine aB ?_;ext;refine cU ?_;ext;refine cU ?_;ext;refine ca ?_;ext;rw[show eG r ⟨.comp w r,n,k,t,tn,st,dn,ln⟩ (some l)=ll ⟨.comp w r,n,k,t,tn+1,st,dn,ln⟩ (some l) from if_pos (.inl (λ z=>nomatch z))] at q;exact q
theorem t6{r:List Str}(hf:s.fm=.comp w r)(hr:r.length<=8)(h:P (.fz .non) [.ob (asA a b (eG r s x)),.fz (dc x)]):ak [.ob (asA a b s),.fz (dc x)] P:=by
 unfold ak;exact⟨a,b,s,w,r,x,rfl,hf,hr,h⟩
theorem yB:Lh al 2 [0]:=by delta al
theorem yD:Hh al yx [0] 2:=by
 intro os P h;unfold al at h;obtain⟨a,b,s,x,rfl,hk,q⟩:=h;obtain⟨fm,n,k,t,tn,st,dn,ln⟩:=s;simp only at hk;have e:(t:Int) - (k:Int)=((t - k:Nat):Int):=by nofun
 have fi:∀ y:D,P (.fz .non) [.ob (asA a b (ll ⟨fm,n,k,t,tn,st,dn,ln⟩ (some (t - k)))),.fz y]->P (.fz .non) [.ob ⟨a,0,[.fz (rlD fm),.fz (.str n),.fz (.int k),.fz (.int t),.fz (.int tn),.fl b (st.map bL),.fz (.bl true),.fz (.int ((t:Int) - k))]⟩,.fz y]:=λ y q=>by rw[e];exact q
 cases x with
 | none=>
  ext;refine aB ?_;ext;refine cU ?_;ext;refine cU ?_;ext;refine ca ?_;ext;rw[show dB ⟨fm,n,k,t,tn,st,dn,ln⟩ none=ll ⟨fm,n,k,t,tn,st,dn,ln⟩ (some (t - k)) from if_pos (.inl rfl)] at q;exact fi _ q
 | some l=>
  ext;refine aB ?_;ext;refine cY ?_;ext;refine⟨aX,?_⟩;ext;refine aw (l=0) (b9.trans (by nofun)) (λ h=>?_) (λ h=>?_)
  ·ext;refine ca ?_;ext;rw[show dB ⟨fm,n,k,t,tn,st,dn,ln⟩ (some l)=ll ⟨fm,n,k,t,tn,st,dn,ln⟩ (some (t - k)) from if_pos (.inr (by rw[h]))] at q;exact fi _ q
  ·ext;rw[show dB ⟨fm,n,k,t,tn,st,dn,ln⟩ (some l)=⟨fm,n,k,t+l,tn,st,dn,ln⟩ from if_neg (λ z=>z.elim (λ y=>nomatch y) λ y=>h (aaj y))] at q;exact q
theorem t7(hk:s.k<=s.t)(h:P (.fz .non) [.ob (asA a b (dB s x)),.fz (dc x)]):al [.ob (asA a b s),.fz (dc x)] P:=by
 unfold al;exact⟨a,b,s,x,rfl,hk,h⟩
theorem E3:Lh aY 2 [0]:=by delta aY
theorem E4:Hh aY E1 [0] 3:=by
 intro os P h;unfold aY at h;obtain⟨a,b,s,w,r,x,rfl,hf,ht,hr,hk,hs,q⟩:=h;obtain⟨fm,n,k,t,tn,st,dn,ln⟩:=s;simp only at hf ht hk hs;subst hf;have hl:((st++[ah r ⟨.comp w r,n,k,t,tn,st,dn,ln⟩]).map bL)=st.map bL++[bL (ah r ⟨.comp w r,n,k,t,tn,st,dn,ln⟩)]:=by rw[aaf];rfl
 ext;refine gb (s:=⟨.comp w r,n,k,t,tn,st,dn,ln⟩) rfl ht hr ?_;ext;refine⟨rfl,by rw[abK];exact hs,?_⟩;rw[← hl];ext;refine cV ?_;ext;refine aB ?_;ext;refine⟨aO,?_⟩;ext;refine aw (w = "row") bz (λ h=>?_) (λ h=>?_)
 ·ext;refine E2 (s:=⟨.comp w r,n,k,t,tn,st++[ah r ⟨.comp w r,n,k,t,tn,st,dn,ln⟩],dn,ln⟩) rfl hr hk ?_;ext;rw[show cf w r ⟨.comp w r,n,k,t,tn,st,dn,ln⟩ x=qg r ⟨.comp w r,n,k,t,tn,st++[ah r ⟨.comp w r,n,k,t,tn,st,dn,ln⟩],dn,ln⟩ x from if_pos h] at q;exact q
 ext;refine aB ?_;ext;refine⟨aO,?_⟩;ext;refine aw (w = "first") bz (λ h2=>?_) (λ h2=>?_)
 ·ext;refine t6 (s:=⟨.comp w r,n,k,t,tn,st++[ah r ⟨.comp w r,n,k,t,tn,st,dn,ln⟩],dn,ln⟩) rfl hr ?_;ext;rw[show cf w r ⟨.comp w r,n,k,t,tn,st,dn,ln⟩ x=eG r ⟨.comp w r,n,k,t,tn,st++[ah r ⟨.comp w r,n,k,t,tn,st,dn,ln⟩],dn,ln⟩ x from (if_neg h).trans (if_pos h2)] at q;exact q
 ext;refine aB ?_;ext;refine⟨aO,?_⟩;ext;refine aw (w = "again") bz (λ h3=>?_) (λ h3=>?_)
 ·ext;refine t7 (s:=⟨.comp w r,n,k,t,tn,st++[ah r ⟨.comp w r,n,k,t,tn,st,dn,ln⟩],dn,ln⟩) hk ?_;ext;rw[show cf w r ⟨.comp w r,n,k,t,tn,st,dn,ln⟩ x=dB ⟨.comp w r,n,k,t,tn,st++[ah r ⟨.comp w r,n,k,t,tn,st,dn,ln⟩],dn,ln⟩ x from (if_neg h).trans ((if_neg h2).trans (if_pos h3))] at q;exact q
 ext;refine aB ?_;ext;refine⟨aO,?_⟩;ext;refine aw (w = "ahead") bz (λ h4=>?_) (λ h4=>?_)
 ·cases x with
  | none=>
   ext;refine cU ?_;ext;refine ca ?_;ext;rw[show cf w r ⟨.comp w r,n,k,t,tn,st,dn,ln⟩ none=ll ⟨.comp w r,n,k,t,tn,st++[ah r ⟨.comp w r,n,k,t,tn,st,dn,ln⟩],dn,ln⟩ none from (if_neg h).trans ((if_neg h2).trans ((if_neg h3).trans (if_pos h4)))] at q;exact q
  | some l=>
   ext;refine cY ?_;ext;refine ca ?_;ext;rw[show cf w r ⟨.comp w r,n,k,t,tn,st,dn,ln⟩ (some l)=ll ⟨.comp w r,n,k,t,tn,st++[ah r ⟨.comp w r,n,k,t,tn,st,dn,ln⟩],dn,ln⟩ (some 0) from (if_neg h).trans ((if_neg h2).trans ((if_neg h3).trans (if_pos h4)))] at q;exact q
 ·cases x with
  | none=>
   ext;refine cU ?_;ext;refine ca ?_;ext;rw[show cf w r ⟨.comp w r,n,k,t,tn,st,dn,ln⟩ none=ll ⟨.comp w r,n,k,t,tn,st++[ah r ⟨.comp w r,n,k,t,tn,st,dn,ln⟩],dn,ln⟩ (some 0) from (if_neg h).trans ((if_neg h2).trans ((if_neg h3).trans (if_neg h4)))] at q;exact q
  | some l=>
   ext;refine cY ?_;ext;refine ca ?_;ext;rw[show cf w r ⟨.comp w r,n,k,t,tn,st,dn,ln⟩ (some l)=ll ⟨.comp w r,n,k,t,tn,st++[ah r ⟨.comp w r,n,k,t,tn,st,dn,ln⟩],dn,ln⟩ none from (if_neg h).trans ((if_neg h2).trans ((if_neg h3).trans (if_neg h4)))] at q;exact q
theorem n8{r:List Str}(hf:s.fm=.comp w r)(ht:s.tn<r.length)(hr:r.length<=8)(hk:s.k<=s.t)(hs:s.st.length<sizeLine)(h:P (.fz .non) [.ob (asA a b (cf w r s x)),.fz (dc x)]):aY [.ob (asA a b s),.fz (dc x)] P:=by
 unfold aY;exact⟨a,b,s,w,r,x,rfl,hf,ht,hr,hk,hs,h⟩
def iw:List Str->List Str->List Str
 |ls,[]=>ls
 |ls,m::ms=>iw (if m∈ls then ls else ls++[m]) ms
structure Res where
 ln:Option Nat
 far:Nat
 ls:List Str
variable{r r':Res}{e:Sp2×Res}
abbrev Rls:=Str->Rl
variable{R:Rls}
def cX(R:Rls)(z:Str)(n:Str)(k:Nat):As:=match R n with
 |.leaf l=>⟨.leaf l,n,k,k,0,[],true,eh l z k⟩
 |.comp w r=>⟨.comp w r,n,k,k,0,[],false,none⟩
def goF(R:Rls)(z:Str):Nat->As->Nat->List Str->Option Res
 |0,_,_,_=>none
 | f+1,s,far,ls=>if s.dn=true then some ⟨s.ln,far,ls⟩ else match s.fm with
  |.leaf _=>none
  | .comp w r=>match goF R z f (cX R z (ah r s).1 (ah r s).2) (ah r s).2 [(ah r s).1] with
   |none=>none
   |some t=>goF R z f (cf w r s t.ln) (max far t.far) (iw ls t.ls)
abbrev rdF(R:Rls)(z:Str)(f:Nat)(n:Str)(k:Nat):Option Res:=goF R z f (cX R z n k) k [n]
theorem mJ(h:s.dn=true):goF R z (f+1) s far ls=some ⟨s.ln,far,ls⟩:=if_pos h
theorem qh(h:s.dn=false)(e:goF R z (f+1) s far ls=some r):∃ w p t,s.fm=.comp w p/\rdF R z f (ah p s).1 (ah p s).2=some t/\goF R z f (cf w p s t.ln) (max far t.far) (iw ls t.ls)=some r:=by
 unfold goF at e;rw[if_neg (by rw[h];decide)] at e
 cases hf:s.fm with
 |leaf l=>rw[hf] at e;cases e
 | comp w p=>
  rw[hf] at e;simp only at e
  cases ht:rdF R z f (ah p s).1 (ah p s).2 with
  |none=>rw [show goF R z f (cX R z (ah p s).1 (ah p s).2) (ah p s).2 [(ah p s).1]=none from ht] at e;cases e
  | some t=>
   rw[show goF R z f (cX R z (ah p s).1 (ah p s).2) (ah p s).2 [(ah p s).1]=some t from ht] at e;exact⟨w,p,t,rfl,ht,e⟩
theorem iM{t:Res}(h:s.dn=false)(hf:s.fm=.comp w p)(ht:rdF R z f (ah p s).1 (ah p s).2=some t):goF R z (f+1) s far ls=goF R z f (cf w p s t.ln) (max far t.far) (iw ls t.ls):=by
 rw[goF,if_neg (by rw[h];decide),hf];simp only;rw[show goF R z f (cX R z (ah p s).1 (ah p s).2) (ah p s).2 [(ah p s).1]=some t from ht]
theorem j1:∀ {f:Nat} {s:As} {far:Nat} {ls:List Str} {r:Res},goF R z f s far ls=some r->goF R z (f+1) s far ls=some r
 |0,_,_,_,_,e=>nomatch e
 | f+1,s,far,ls,r,e=>by
  cases h:s.dn with
  |true=>rw [mJ h] at e ⊢;exact e
  | false=>
   obtain⟨w,p,t,hf,ht,e2⟩:=qh h e;rw[iM h hf (j1 ht)];exact j1 e2
theorem yF(h:f<=g)(e:goF R z f s far ls=some r):goF R z g s far ls=some r:=by
 induction h with
 |refl=>exact e
 |step _ ih=>exact j1 ih
theorem lp{t:Res}(e1:goF R z f s far ls=some r)(e2:goF R z g s far ls=some t):r=t:=
 aaj ((yF (Nat.le_max_left f g) e1).symm.trans (yF (Nat.le_max_right f g) e2))
def iy(R:Rls)(zs:List Str):Prop:=∀ n w p,R n=.comp w p->w ≠ "signs" /\ 1<=p.length/\p.length<=8/\∀ x∈p,x∈zs
structure AsOk(R:Rls)(z:Str)(zs:List Str)(s:As):Prop where
 fm:s.fm=R s.n
 nz:s.n∈zs
 kt:s.k<=s.t
 tz:s.t<=z.length
 tn:s.dn=false->∃ w p,s.fm=.comp w p/\s.tn<p.length
 t8:s.tn<=8
 st:s.st.length<=(s.t - s.k)+s.tn+(if s.dn=true then 1 else 0)
 ln:∀ l,s.dn=true->s.ln=some l->s.k+l<=z.length
theorem mK(hk:k<=z.length)(e:eh l z k=some m):k+m<=z.length:=by
 unfold eh at e
 cases h:lX l z k with
 |none=>rw[h] at e;cases e
 | some i=>
  rw[h] at e;cases e;unfold lX at h;split at h
  ·cases h
  ·cases h;exact hk
  ·split at h
   ·cases h;show k+1<=_;nofun
   ·cases h
  ·split at h
   ·rename_i c hc;have:k<z.length:=by rw[fB];exact(List.getElem?_eq_some_iff.mp hc).1
    split at h
    ·cases h;show k+1<=_;nofun
    ·cases h
   ·cases h
theorem jk(h:iy R zs)(hn:n∈zs)(hk:k<=z.length):AsOk R z zs (cX R z n k):=by
 unfold cX
 cases e:R n with
 |leaf l=>exact⟨e.symm,hn,aac _,hk,(λ z=>nomatch z),aaq _,aaq _,λ m _ q=>mK hk q⟩
 |comp w p=>exact⟨e.symm,hn,aac _,hk,λ _=>⟨w,p,rfl,(h n w p e).2.1⟩,aaq _,aaq _,λ m z=>nomatch z⟩
theorem cr :(cX R z n k).n=n/\(cX R z n k).k=k/\(cX R z n k).st=[]:=by
 unfold cX;cases R n <;> exact⟨rfl,rfl,rfl⟩
theorem iz(w:Str)(p:List Str)(s:As)(x:Option Nat):∃ t tn dn ln,cf w p s x=⟨s.fm,s.n,s.k,t,tn,s.st++[ah p s],dn,ln⟩ /\
    ((dn=true/\(t=s.t∨∃ l,x=some l/\t=s.t+l)/\(tn=s.tn∨tn=s.tn+1)/\(∀ m,ln=some m->m=0∨m<=t - s.k∨x=some m)) ∨
     (dn=s.dn/\((∃ l,x=some l/\t=s.t+l/\tn=s.tn+1/\tn≠p.length)∨(t=s.t/\tn=s.tn+1/\tn≠p.length)∨∃ l,x=some l/\0<l/\t=s.t+l/\tn=s.tn))):=by
  by_cases h1:w = "row"
  · rw[show cf w p s x=qg p { s with st:=s.st++[ah p s] } x from if_pos h1]
    cases x with
    |none=>exact⟨_,_,_,_,rfl,.inl ⟨rfl,.inl rfl,.inl rfl,λ m z=>nomatch z⟩⟩
    | some l=>
      by_cases h:s.tn+1=p.length
      · rw[show qg p { s with st:=s.st++[ah p s] } (some l)=⟨s.fm,s.n,s.k,s.t+l,s.tn+1,s.st++[ah p s],true,some (s.t+l - s.k)⟩ from if_pos h]
        exact⟨_,_,_,_,rfl,.inl ⟨rfl,.inr ⟨l,rfl,rfl⟩,.inr rfl,λ m z=>.inr (.inl (by cases z;exact aac _))⟩⟩
      · rw[show qg p { s with st:=s.st++[ah p s] } (some l)=⟨s.fm,s.n,s.k,s.t+l,s.tn+1,s.st++[ah p s],s.dn,s.ln⟩ from if_neg h]
        exact⟨_,_,_,_,rfl,.inr ⟨rfl,.inl ⟨l,rfl,rfl,rfl,h⟩⟩⟩
  by_cases h2:w = "first"
  · rw[show cf w p s x=eG p { s with st:=s.st++[ah p s] } x from (if_neg h1).trans (if_pos h2)]
    by_cases h:x≠none∨s.tn+1=p.length
    · rw[show eG p { s with st:=s.st++[ah p s] } x=⟨s.fm,s.n,s.k,s.t,s.tn+1,s.st++[ah p s],true,x⟩ from if_pos h]
      exact⟨_,_,_,_,rfl,.inl ⟨rfl,.inl rfl,.inr rfl,λ m z=>.inr (.inr z)⟩⟩
    · rw[show eG p { s with st:=s.st++[ah p s] } x=⟨s.fm,s.n,s.k,s.t,s.tn+1,s.st++[ah p s],s.dn,s.ln⟩ from if_neg h]
      exact⟨_,_,_,_,rfl,.inr ⟨rfl,.inr (.inl ⟨rfl,rfl,λ z=>h (.inr z)⟩)⟩⟩
  by_cases h3:w = "again"
  · rw[show cf w p s x=dB { s with st:=s.st++[ah p s] } x from (if_neg h1).trans ((if_neg h2).trans (if_pos h3))]
    by_cases h:x=none∨x=some 0
    · rw[show dB { s with st:=s.st++[ah p s] } x=⟨s.fm,s.n,s.k,s.t,s.tn,s.st++[ah p s],true,some (s.t - s.k)⟩ from if_pos h]
      exact⟨_,_,_,_,rfl,.inl ⟨rfl,.inl rfl,.inl rfl,λ m z=>.inr (.inl (by cases z;exact aac _))⟩⟩
    · rw[show dB { s with st:=s.st++[ah p s] } x=⟨s.fm,s.n,s.k,s.t+x.getD 0,s.tn,s.st++[ah p s],s.dn,s.ln⟩ from if_neg h]
      cases x with
      |none=>exact absurd (.inl rfl) h
      |some l=>exact⟨_,_,_,_,rfl,.inr ⟨rfl,.inr (.inr ⟨l,rfl,Nat.pos_of_ne_zero λ z=>h (.inr (by rw[z])),rfl,rfl⟩)⟩⟩
  suffices fin:∃ y:Option Nat,(∀ m,y=some m->m=0)/\cf w p s x=ll { s with st:=s.st++[ah p s] } y by
    obtain⟨y,hy,e⟩:=fin;rw[e];exact⟨_,_,_,_,rfl,.inl ⟨rfl,.inl rfl,.inl rfl,λ m z=>.inl (hy m z)⟩⟩
  by_cases h4:w = "ahead"
  · refine⟨if x=none then none else some 0,λ m z=>?_,(if_neg h1).trans ((if_neg h2).trans ((if_neg h3).trans (if_pos h4)))⟩
    split at z
    · cases z
    · cases z;rfl
  · refine⟨if x=none then some 0 else none,λ m z=>?_,(if_neg h1).trans ((if_neg h2).trans ((if_neg h3).trans (if_neg h4)))⟩
    split at z
    · cases z;rfl
    · cases z
theorem j2(hR:iy R zs)(O:AsOk R z zs s)(hd:s.dn=false)(hf:s.fm=.comp w p)(hx:∀ l,x=some l->s.t+l<=z.length):AsOk R z zs (cf w p s x):=by
 have hp:=(hR s.n w p (O.fm.symm.trans hf)).2.2.1;obtain⟨w',p',hf',ht⟩:=O.tn hd;rw[hf] at hf';cases hf';have h1:=O.kt;have h2:=O.tz;have h3:=O.st;rw[hd,if_neg (by decide)] at h3;obtain⟨t,tn,dn,ln,e,c⟩:=iz w p s x;rw[e];have hl:(s.st++[ah p s]).length=s.st.length+1:=by rw[aag];rfl
 rcases c with ⟨rfl,c1,c2,c3⟩|⟨rfl,c⟩
 ·have g1:s.t<=t/\t<=z.length:=by
   rcases c1 with c1|⟨l,c1,c4⟩
   ·nofun
   ·have:=hx l c1;nofun
  clear c1;refine⟨O.fm,O.nz,by show s.k<=t;nofun,g1.2,(λ z=>nomatch z),by show tn<=8;nofun,?_,λ l _ q=>?_⟩
  ·show (s.st++[ah p s]).length<=(t - s.k)+tn+(if true=true then 1 else 0);rw[hl,if_pos rfl];nofun
  ·show s.k+l<=z.length;rcases c3 l q with y|y|y
   ·nofun
   ·nofun
   ·have:=hx l y;nofun
 ·have mk:s.t<=t->t<=z.length->tn<p.length->s.st.length+1<=(t - s.k)+tn->AsOk R z zs ⟨s.fm,s.n,s.k,t,tn,s.st++[ah p s],s.dn,ln⟩:=λ a1 a2 a3 a4=>by
   refine⟨O.fm,O.nz,by show s.k<=t;nofun,a2,λ _=>⟨w,p,hf,a3⟩,by show tn<=8;nofun,?_,λ l q=>?_⟩
   ·show (s.st++[ah p s]).length<=(t - s.k)+tn+(if s.dn=true then 1 else 0);rw[hl,hd,if_neg (by decide)];nofun
   ·exact absurd (hd.symm.trans q) (by decide)
  rcases c with ⟨l,c1,c2,c3,c4⟩|⟨c2,c3,c4⟩|⟨l,c1,c2,c3,c4⟩
  ·have:=hx l c1;exact mk (by nofun) (by nofun) (by nofun) (by nofun)
  ·exact mk (by nofun) (by nofun) (by nofun) (by nofun)
  ·have:=hx l c1;exact mk (by nofun) (by nofun) (by nofun) (by nofun)
theorem iA:∀ {ms ls:List Str},ls.Nodup->(iw ls ms).Nodup
 |[],_,h=>h
 | m::ms,ls,h=>by
  refine iA (ms:=ms) ?_;split
  ·exact h
  ·rename_i hm;exact abV.mpr ⟨h,by simp,λ a ha b hb z=>hm (by rw[← List.mem_singleton.mp hb,← z];exact ha)⟩
theorem fF:∀ {ms ls:List Str} {x:Str},x∈iw ls ms↔x∈ls∨x∈ms
 |[],ls,x=>by show x∈ls↔_;simp
 | m::ms,ls,x=>by
  show x∈iw (if m∈ls then ls else ls++[m]) ms↔_;rw[fF (ms:=ms)];split
  ·rename_i hm;simp only[List.mem_cons];constructor
   ·rintro (h|h)
    ·exact .inl h
    ·exact .inr (.inr h)
   ·rintro (h|h|h)
    ·exact .inl h
    ·exact .inl (h ▸ hm)
    ·exact .inr h
  ·simp only[List.mem_append,List.mem_cons,List.not_mem_nil,or_false,or_assoc]
structure ResOk(z:Str)(zs:List Str)(k:Nat)(r:Res):Prop where
 ln:∀ l,r.ln=some l->k+l<=z.length
 kf:k<=r.far
 fz:r.far<=z.length
 nd:r.ls.Nodup
 sub:∀ x∈r.ls,x∈zs
theorem E5(hR:iy R zs):∀ {f:Nat} {s:As} {far:Nat} {ls:List Str} {r:Res},AsOk R z zs s->s.k<=far->far<=z.length->ls.Nodup->(∀ x∈ls,x∈zs)->goF R z f s far ls=some r->ResOk z zs s.k r
 |0,_,_,_,_,_,_,_,_,_,e=>nomatch e
 | f+1,s,far,ls,r,O,h1,h2,h3,h4,e=>by
  cases h:s.dn with
  | true=>
   rw[mJ h] at e;cases e;exact⟨λ l q=>O.ln l h q,h1,h2,h3,h4⟩
  | false=>
   obtain⟨w,p,t,hf,ht,e2⟩:=qh h e;obtain⟨w',p',hf',htn⟩:=O.tn h;rw[hf] at hf';cases hf'
   have hw:(ah p s).1∈zs:=by
    refine(hR s.n w p (O.fm.symm.trans hf)).2.2.2 _ ?_;show p.getD s.tn "" ∈ p;rw[List.getD_eq_getElem?_getD,List.getElem?_eq_getElem htn];exact aaH htn
   have T:=E5 hR (jk hR hw O.tz) (by rw[cr.2.1];exact aac _) O.tz (by simp) (by exists hw) ht;rw[cr.2.1] at T;have q:=iz w p s t.ln
   have ek:(cf w p s t.ln).k=s.k:=by
    obtain⟨_,_,_,_,q,_⟩:=q;rw[q]
   have:=E5 hR (j2 hR O h hf λ l q=>T.ln l q) (by rw[ek];nofun) (by have:=T.fz;nofun) (iA h3) (λ x hx=>(fF.mp hx).elim (h4 x) (T.sub x)) e2;rw[ek] at this;exact this
theorem JB(hR:iy R zs)(hn:n∈zs)(hk:k<=z.length)(e:rdF R z f n k=some r):ResOk z zs k r:=by
 have:=E5 hR (jk hR hn hk) (by rw[cr.2.1];exact aac _) hk (by simp) (by exists hn) e
 rwa [cr.2.1] at this
def eI(R:Rls)(z:Str):Nat->As->As
 |0,s=>s
 | f+1,s=>if s.dn=true then s else match s.fm with
  |.leaf _=>s
  | .comp w p=>match rdF R z f (ah p s).1 (ah p s).2 with
   |none=>s
   |some t=>eI R z f (cf w p s t.ln)
theorem lq(h:s.dn=true):eI R z f s=s:=by
 cases f with
 |zero=>rfl
 |succ f=>exact if_pos h
theorem lr{t:Res}(h:s.dn=false)(hf:s.fm=.comp w p)(ht:rdF R z f (ah p s).1 (ah p s).2=some t):eI R z (f+1) s=eI R z f (cf w p s t.ln):=by
 rw[eI,if_neg (by rw[h];decide),hf];simp only;rw[ht]
theorem n9:∀ {f:Nat} {s:As} {far:Nat} {ls:List Str} {r:Res},goF R z f s far ls=some r->eI R z (f+1) s=eI R z f s
 |0,_,_,_,_,e=>nomatch e
 | f+1,s,far,ls,r,e=>by
  cases h:s.dn with
  |true=>rw [lq h,lq h]
  | false=>
   obtain⟨w,p,t,hf,ht,e2⟩:=qh h e;rw[lr h hf (j1 ht),lr h hf ht];exact n9 e2
theorem AJ(h:f<=g)(e:goF R z f s far ls=some r):eI R z g s=eI R z f s:=by
 induction h with
 |refl=>rfl
 |step h ih=>rw[n9 (yF h e),ih]
theorem JC{far':Nat}{ls':List Str}{t:Res}(e1:goF R z f s far ls=some r)(e2:goF R z g s far' ls'=some t):eI R z f s=eI R z g s:=by
 rw[← AJ (Nat.le_max_left f g) e1,← AJ (Nat.le_max_right f g) e2]
theorem AK:∀ {f:Nat} {s:As} {q:Sp2},q∈s.st->q∈(eI R z f s).st
 |0,_,_,h=>h
 | f+1,s,q,h=>by
  unfold eI;split
  ·exact h
  ·split
   ·exact h
   ·rename_i w p _;split
    ·exact h
    ·rename_i t _;refine AK ?_;obtain⟨_,_,_,_,e,_⟩:=iz w p s t.ln;rw[e];exact aam _ h
theorem E6(hR:iy R zs)(O:AsOk R z zs s)(hf:s.fm=.comp w p)(ht:s.tn<p.length):(ah p s).1∈zs:=by
 refine(hR s.n w p (O.fm.symm.trans hf)).2.2.2 _ ?_;show p.getD s.tn "" ∈ p;rw[List.getD_eq_getElem?_getD,List.getElem?_eq_getElem ht];exact aaH ht
theorem AL(hR:iy R zs):∀ {f:Nat} {s:As},AsOk R z zs s->AsOk R z zs (eI R z f s)
 |0,_,h=>h
 | f+1,s,O=>by
  unfold eI;split
  ·exact O
  ·rename_i hd;have hd':s.dn=false:=ab1.mpr hd;split
   ·exact O
   ·rename_i w p hf;split
    ·exact O
    ·rename_i t ht;obtain⟨w',p',hf',htn⟩:=O.tn hd';rw[hf] at hf';cases hf';exact AL hR (j2 hR O hd' hf λ l q=>(JB hR (E6 hR O hf htn) O.tz ht).ln l q)
def t9(R:Rls)(z:Str)(f:Nat)(q:Sp2):List Sp2:=(eI R z f (cX R z q.1 q.2)).st
abbrev Kp:=List (Sp2×Res)
variable{K es:Kp}
def mL(s:Sp2):List Key:=[.inr s.1,.inl s.2]
def lsD(ls:List Str):D:=.dct (ls.map .inr) (ls.map λ _=>.bl true)
def yG(k:Nat)(t:Res):D:=.tup [dc t.ln,.int ((t.far:Int) - (k:Int)+1),lsD t.ls]
abbrev kh(K:Kp):List (List Key):=K.map λ e=>mL e.1
abbrev lu(K:Kp):List D:=K.map λ e=>yG e.1.2 e.2
theorem j3{s t:Sp2}(h:mL s=mL t):s=t:=by
 obtain⟨a,b⟩:=s;obtain⟨c,d⟩:=t;have h1:=List.cons.inj h;have h2:=List.cons.inj h1.2;have e1:a=c:=aa6 h1.1;have e2:(b:Int)=(d:Int):=Sum.inl.inj h2.1;rw[e1,Int.ofNat.inj e2]
theorem j4{s:Sp2}:sJ (kh K) (mL s)=true↔s∈K.map (·.1):=by
 unfold sJ;rw[aaZ];constructor
 ·rintro⟨x,hx,h⟩;obtain⟨e,he,rfl⟩:=abR.mp hx;exact abR.mpr ⟨e,he,j3 (of_decide_eq_true h)⟩
 ·intro h;obtain⟨e,he,rfl⟩:=abR.mp h;exact⟨_,abR.mpr ⟨e,he,rfl⟩,decide_eq_true rfl⟩
theorem iB:∀ {K:Kp} {e:Sp2×Res},(K.map (·.1)).Nodup->e∈K->iT (kh K) (lu K) (mL e.1)=some (yG e.1.2 e.2)
 |[],_,_,h=>nomatch h
 | x::K,e,nd,h=>by
  have nd':=abS.mp nd;unfold iT kh lu;rw[abM,abM,ab5,List.find?_cons];rcases abQ.mp h with q|q
  ·rw[q];simp
  ·have:decide (mL x.1=mL e.1)=false:=decide_eq_false λ z=>nd'.1 (abR.mpr ⟨e,q,(j3 z).symm⟩);simp only[this];exact iB nd'.2 q
def eU(k:Nat)(es:Kp):Nat:=es.foldl (λ m e=>max m e.2.far) k
def lv(ls:List Str)(es:Kp):List Str:=es.foldl (λ l e=>iw l e.2.ls) ls
theorem j5{ks:List (List Key)}{k:List Key}(h:iT ks ds k=some d)(q:Q d):match iT ks ds k with
  |some d=>Q d
  |none=>False:=by rw [h];exact q
theorem qi(h:es[i]?=some e):eU k (es.take (i+1))=max (eU k (es.take i)) e.2.far:=by
 unfold eU;rw[aat,h,abj];rfl
theorem ua(h:es[i]?=some e):lv ls (es.take (i+1))=iw (lv ls (es.take i)) e.2.ls:=by
 unfold lv;rw[aat,h,abj];rfl
theorem ub:∀ {ms ls:List Str},EI (ls.map Sum.inr) (ls.map λ _=>D.bl true) (ms.map Sum.inr) (ms.map λ _=>D.bl true)=((iw ls ms).map Sum.inr,(iw ls ms).map λ _=>D.bl true)
 |[],ls=>rfl
 | m::ms,ls=>by
  have e:fL (ls.map Sum.inr) (ls.map λ _=>D.bl true) (Sum.inr m) (.bl true)=((if m∈ls then ls else ls++[m]).map Sum.inr,(if m∈ls then ls else ls++[m]).map λ _=>D.bl true):=by
   have hq:((ls.map Sum.inr:List Key).any λ x=>decide (x=Sum.inr m))=true↔m∈ls:=by
    rw[aaZ];constructor
    ·rintro⟨x,hx,h⟩;obtain⟨y,hy,rfl⟩:=abR.mp hx;exact aa6 (of_decide_eq_true h) ▸ hy
    ·intro h;exact⟨_,abR.mpr ⟨m,h,rfl⟩,decide_eq_true rfl⟩
   unfold fL;by_cases h:m∈ls
   ·rw[if_pos (hq.mpr h),if_pos h]
    congr 1
    clear hq h
    induction ls with
    |nil=>rfl
    | cons a ls ih=>
     simp only[List.map_cons,List.zip_cons_cons];rw[ih]
     congr 1
     split <;> rfl
   ·rw[if_neg (λ z=>h (hq.mp z)),if_neg h,aaf,aaf];rfl
  show EI (fL (ls.map Sum.inr) (ls.map λ _=>D.bl true) (Sum.inr m) (.bl true)).1 (fL (ls.map Sum.inr) (ls.map λ _=>D.bl true) (Sum.inr m) (.bl true)).2 (ms.map Sum.inr) (ms.map λ _=>D.bl true)=_;rw[e];exact ub
@[irreducible] def dS:Ct:=λ os P=>∃ (a b:Addr) (s:As) (K es:Kp) (m:Nat),os=[.ob (asA a b s),.ft (kh K) (lu K)]/\(K.map (·.1)).Nodup/\s.st=es.map (·.1)/\(∀ e∈es,e∈K/\e.1.2<=e.2.far)/\(∀ i,(lv [s.n] (es.take i)).length<=m)/\(∀ e∈es,e.2.ls.length<=m)/\m+m<=sizeLine /\
 P (.fz (yG s.k ⟨s.ln,eU s.k es,lv [s.n] es⟩)) [.ob ⟨a,0,[.fz (rlD s.fm),.fz (.str s.n),.fz (.int s.k),.fz (.int s.t),.fz (.int s.tn),.fz (.lst (s.st.map bL)),.fz (.bl s.dn),.fz (dc s.ln)]⟩,.ft (kh K) (lu K)]
abbrev uc:Stmt:=top 40
abbrev E7:FS:=
  (ao (cg (gz 0 0 2) (ac 2))
  (ao (cL 3 (AD (gz 0 0 1) (fC (.bl true))))
  (ao (pN (cD (xQ 0 0 5)) (ac 4)
   (ao (cg (fOp aIx (ab 1) (ab 4)) (jF 3 (bG (ac 5) (bG (ac 6) (bG (ac 7) jE)))))
  (ao (cg (fCB Ls (aa (ab 2) (aa (fOp (aI0 λ i j=>.int (i - j)) (fOp eC (fOp aIx (ab 4) (fC (.int 1))) (ab 6)) (fC (.int 1))) ag))) (ac 2))
  (b5 (NK 3 (ab 7))))))
  (bE (ib (aa (gz 0 0 7) (aa (fOp eC (fOp (aI0 λ i j=>.int (i - j)) (ab 2) (gz 0 0 2)) (fC (.int 1))) (aa (ab 3) ag))))))))
theorem E8:Lh dS 2 [0,1]:=by delta dS
theorem E9:Hh dS E7 [0,1] 8:=by
 intro os P h;unfold dS at h;obtain⟨a,b,s,K,es,m,rfl,nd,hst,hes,hm1,hm2,hm,q⟩:=h;obtain⟨fm,n,k,t,tn,st,dn,ln⟩:=s;simp only at hst hm1;subst hst;have sz:=cE;ext;rw[aav];refine bQ (λ i ρ=>∃ x4 x5 x6 x7:Option OV,ρ=[some (.ob ⟨a,0,[.fz (rlD fm),.fz (.str n),.fz (.int k),.fz (.int t),.fz (.int tn),.fz (.lst (es.map (bL ∘ λ x=>x.1))),.fz (.bl dn),.fz (dc ln)]⟩),some (.ft (kh K) (lu K)),some (.fz (.int (eU k (es.take i)))),some (.fd ((lv [n] (es.take i)).map Sum.inr) ((lv [n] (es.take i)).map λ _=>.bl true)),x4,x5,x6,x7]) ⟨none,none,none,none,?_⟩ ?_ ?_
 ·rfl
 ·rintro i d ρ R hd ⟨x4,x5,x6,x7,rfl⟩ kk;rw[List.getElem?_map] at hd
  cases he:es[i]? with
  |none=>rw [he] at hd;cases hd
  | some e=>
   rw[he] at hd;cases hd;have hk:=hes e (List.mem_of_getElem? he);have h1:=hm1 i;have h2:=hm2 e (List.mem_of_getElem? he);ext;refine j5 (iB nd hk.1) ?_;ext;refine⟨rfl,?_⟩;ext;refine⟨rfl,?_⟩;ext;rw[abK,abK];refine⟨by nofun,?_⟩;rw[ub,← ua he]
   have em:(if ((e.1.2:Int)+((e.2.far:Int) - (e.1.2:Int)+1) - 1) > (eU k (es.take i):Int) then ((e.1.2:Int)+((e.2.far:Int) - (e.1.2:Int)+1) - 1) else (eU k (es.take i):Int))=((eU k (es.take (i+1)):Nat):Int):=by
    rw[qi he];split <;> nofun
   refine kk _ ⟨some (.fz (bL e.1)),some (.fz (dc e.2.ln)),some (.fz (.int ((e.2.far:Int) - (e.1.2:Int)+1))),some (.fz (lsD e.2.ls)),?_⟩;rw[← em];rfl
 ·rintro ρ ⟨x4,x5,x6,x7,rfl⟩;rw[abK,aal (aac _)];ext;refine⟨(by rw[sizeLine_eq];exact(by decide:(3:Nat)<=16777216)),?_⟩;ext;rw[aav] at q;exact q
theorem yH(nd:(K.map (·.1)).Nodup)(h1:s.st=es.map (·.1))(h2:∀ e∈es,e∈K/\e.1.2<=e.2.far)(h3:∀ i,(lv [s.n] (es.take i)).length<=m)(h4:∀ e∈es,e.2.ls.length<=m)(h5:m+m<=sizeLine)
  (h:P (.fz (yG s.k ⟨s.ln,eU s.k es,lv [s.n] es⟩)) [.ob ⟨a,0,[.fz (rlD s.fm),.fz (.str s.n),.fz (.int s.k),.fz (.int s.t),.fz (.int s.tn),.fz (.lst (s.st.map bL)),.fz (.bl s.dn),.fz (dc s.ln)]⟩,.ft (kh K) (lu K)]):dS [.ob (asA a b s),.ft (kh K) (lu K)] P:=by
 unfold dS;exact⟨a,b,s,K,es,m,rfl,nd,h1,h2,h3,h4,h5,h⟩
def Tf:Nat->Nat
 |0=>0
 |f+1=>2*Tf f+3
theorem Fa(h:f<=g):Tf f<=Tf g:=by
 induction h with
 |refl=>exact aac _
 | @step m _ ih=>
  show Tf f<=2*Tf m+3;nofun
structure Lst(R:Rls)(z:Str)(q:Sp2)(g:Nat)(r:Res):Prop where
 rd:rdF R z g q.1 q.2=some r
 lo:∀ f t,rdF R z f q.1 q.2=some t->g<=f
theorem AM:∀ {f:Nat} {q:Sp2} {r:Res},rdF R z f q.1 q.2=some r->∃ g,g<=f/\Lst R z q g r:=by
 intro f
 induction f with
 |zero=>intro q r e;cases e
 | succ f ih=>
  intro q r e
  cases h:rdF R z f q.1 q.2 with
  | some t=>
   obtain⟨g,hg,L⟩:=ih h;have:t=r:=lp h e;exact⟨g,by nofun,this ▸ L⟩
  | none=>
   refine⟨f+1,aac _,e,λ f' t h'=>?_⟩
   cases Nat.lt_or_ge f f' with
   |inl y=>exact y
   |inr y=>rw[show rdF R z f q.1 q.2=some t from yF y h'] at h;cases h
theorem JD(L:Lst R z q g r)(L':Lst R z q g' r'):g=g':=by
 have:=L.lo _ _ L'.rd;have:=L'.lo _ _ L.rd;nofun
structure KpOk(R:Rls)(z:Str)(zs:List Str)(K:Kp):Prop where
 nd:(K.map (·.1)).Nodup
 ok:∀ e∈K,e.1.1∈zs/\e.1.2<=z.length/\∃ f,rdF R z f e.1.1 e.1.2=some e.2
 cl:∀ e∈K,∀ f,rdF R z f e.1.1 e.1.2=some e.2->∀ q∈t9 R z f e.1,q∈K.map (·.1)
theorem KpOk.res(O:KpOk R z zs K)(hR:iy R zs)(h:e∈K):ResOk z zs e.1.2 e.2:=by
 obtain⟨h1,h2,f,h3⟩:=O.ok e h;exact JB hR h1 h2 h3
theorem oa(m:Nat):∀ zs:List Str,(zs.flatMap λ n=>(List.range m).map λ k=>(n,k)).length=zs.length*m
 |[]=>by simp
 |n::zs=>by rw[List.flatMap_cons,aag,oa m zs,abK,ab4,abO,Nat.succ_mul,Nat.add_comm]
theorem KpOk.len(O:KpOk R z zs K):K.length<=zs.length*(z.length+1):=by
 have h:(K.map (·.1)).length<=(zs.flatMap λ n=>(List.range (z.length+1)).map λ k=>(n,k)).length:=by
  refine aaz O.nd λ q hq=>?_;obtain⟨e,he,rfl⟩:=abR.mp hq;obtain⟨h1,h2,_⟩:=O.ok e he;exact List.mem_flatMap.mpr ⟨e.1.1,h1,abR.mpr ⟨e.1.2,ab2.mpr (by nofun),rfl⟩⟩
 rw[abK] at h;rw[oa] at h;exact h
structure Frm(R:Rls)(z:Str)(zs:List Str)(K:Kp)(s:As)(f g far:Nat)(ls:List Str)(r:Res):Prop where
 go:goF R z f s far ls=some r
 ok:AsOk R z zs s
 acc:∃ es:Kp,s.st=es.map (·.1)/\(∀ e∈es,e∈K)/\far=eU s.k es/\ls=lv [s.n] es
 lst:Lst R z (s.n,s.k) g r
 fg:f<=g
 nw:(s.n,s.k)∉K.map (·.1)
 en:eI R z f s=eI R z g (cX R z s.n s.k)
inductive Wait(R:Rls)(z:Str)(zs:List Str)(K:Kp)(root:Sp2)(G:Nat):Sp2->Nat->List As->Nat->Prop where
 |nil {g:Nat}:g<=G->Wait R z zs K root G root g [] 0
 |cons {s:As} {f g gs far m:Nat} {ls:List Str} {r:Res} {w:Str} {p:List Str} {rest:List As}:Frm R z zs K s (f+1) gs far ls r->s.dn=false->s.fm=.comp w p->g<=f->Wait R z zs K root G (s.n,s.k) gs rest m->Wait R z zs K root G (ah p s) g (s::rest) (Tf f+2+m)
theorem Wait.len{l:List As}(h:Wait R z zs K root G q g l m):l.length+g<=G:=by
 induction h with
 |nil h=>rw[List.length_nil];nofun
 |cons F _ _ hg _ ih=>have:=F.fg;rw[abO];nofun
theorem Frm.more(F:Frm R z zs K s f g far ls r)(h:e.1≠(s.n,s.k)):Frm R z zs (K++[e]) s f g far ls r:=by
 obtain⟨es,h1,h2,h3⟩:=F.acc;refine⟨F.go,F.ok,⟨es,h1,λ x hx=>aam _ (h2 x hx),h3⟩,F.lst,F.fg,λ y=>?_,F.en⟩;rw[aaf] at y;rcases abL.mp y with y|y
 ·exact F.nw y
 ·exact h (abN.mp y).symm
theorem Wait.more{l:List As}(L:Lst R z e.1 g' r')(h:Wait R z zs K root G q g l m):g'<=g->Wait R z zs (K++[e]) root G q g l m:=by
 induction h with
 |nil h=>exact λ _=>.nil h
 | cons F hd hf hg _ ih=>
  intro hgg;have:=F.fg;refine .cons (F.more λ y=>?_) hd hf hg (ih (by nofun));have:=JD (y ▸ L) F.lst;nofun
theorem ud{zs:List Str}:∀ {es:Kp} {ls:List Str},ls.Nodup->(∀ x∈ls,x∈zs)->(∀ e∈es,∀ x∈e.2.ls,x∈zs)->(lv ls es).Nodup/\∀ x∈lv ls es,x∈zs
 |[],_,h1,h2,_=>⟨h1,h2⟩
 |e::es,ls,h1,h2,h3=>ud (es:=es) (ls:=iw ls e.2.ls) (iA h1) (λ x hx=>(fF.mp hx).elim (h2 x) (h3 e (aab ..) x)) λ e' he=>h3 e' (aad _ he)
theorem ue :eU k (es++[e])=max (eU k es) e.2.far:=by unfold eU;rw[abj];rfl
theorem yI :lv ls (es++[e])=iw (lv ls es) e.2.ls:=by unfold lv;rw[abj];rfl
theorem Frm.take(hR:iy R zs)(hK:KpOk R z zs K)(F:Frm R z zs K s (f+1) g far ls r)(hd:s.dn=false)(hf:s.fm=.comp w p)(he:e∈K)(e1:e.1=ah p s) :
  Frm R z zs K (cf w p s e.2.ln) f g (max far e.2.far) (iw ls e.2.ls) r/\(cf w p s e.2.ln).n=s.n/\(cf w p s e.2.ln).k=s.k:=by
 obtain⟨w',p',t,hf',ht,hgo⟩:=qh hd F.go;rw[hf] at hf';cases hf';obtain⟨_,_,f3,h3⟩:=hK.ok e he;rw[e1] at h3;have e2:t=e.2:=lp ht h3;subst e2;have T:=hK.res hR he
 have ok:=j2 (x:=e.2.ln) hR F.ok hd hf λ l q=>by
  have:=T.ln l q;rw[e1] at this;exact this
 obtain⟨es,h1,h2,h3,h4⟩:=F.acc;obtain⟨t',tn',dn',ln',q,_⟩:=iz w p s e.2.ln;have en:=F.en;rw[lr hd hf ht] at en;rw[q] at ok hgo en ⊢;exact⟨⟨hgo,ok,⟨es++[e],by rw[aaf,h1,← e1];rfl,λ x hx=>(abL.mp hx).elim (h2 x) λ y=>by rw[abN.mp y];exact he,by rw[ue,h3],by rw[yI,h4]⟩,F.lst,by have:=F.fg;nofun,F.nw,en⟩,rfl,rfl⟩
def MQ(R:Rls)(z:Str)(zs:List Str)(K:Kp)(root:Sp2)(G:Nat)(ss:List (Addr×Addr×As))(m:Nat):Prop:=(ss=[]/\root∈K.map (·.1)) ∨
 ∃ a b s rest f g far ls r c mw,ss=(a,b,s)::rest/\Frm R z zs K s f g far ls r/\Wait R z zs K root G (s.n,s.k) g (rest.map (·.2.2)) mw/\(Tf f<=c∨∃ f' w p,f=f'+1/\s.dn=false/\s.fm=.comp w p/\ah p s∈K.map (·.1)/\Tf f'+1<=c)/\c+mw<=m
theorem Wait.stk{ss:List (Addr×Addr×As)}(h:Wait R z zs K root G q g (ss.map (·.2.2)) m)(hq:q∈K.map (·.1)):MQ R z zs K root G ss m:=by
 cases ss with
 |nil=>cases h;exact .inl ⟨rfl,hq⟩
 | cons t ss=>
  obtain⟨a,b,s⟩:=t
  cases h with
  |@cons _ f g gs far m ls r w p rest F hd hf hg W=>exact .inr ⟨a,b,s,ss,f+1,gs,far,ls,r,Tf f+2,m,rfl,F,W,.inr ⟨f,w,p,rfl,hd,hf,hq,by nofun⟩,aac _⟩
theorem yJ(h:e.1∉K.map (·.1)):tL (kh K) (lu K) (mL e.1) (yG e.1.2 e.2)=(kh (K++[e]),lu (K++[e])):=by
 unfold tL;rw[if_neg (λ y=>h (j4.mp y))];unfold kh lu;rw[aaf,aaf];rfl
def gu(ks:List Key)(ds:List D)(R:Rls):Prop:=∀ n,(gq ks ds (.inr n)).getD .non=rlD (R n)
structure MkOk(R:Rls)(z:Str)(zs:List Str)(n:Str)(k f:Nat):Prop where
 r:iy R zs
 n:n∈zs
 k:k<=z.length
 l:z.length+20<=sizeLine
 s:zs.length*(z.length+1)<sizeLine
 m:zs.length+zs.length<=sizeLine
 f:f<sizeLine
abbrev cI(ks:List Key)(ds:List D):OV:=.fz (.dct ks ds)
abbrev lw(K:Kp):OV:=.ft (kh K) (lu K)
@[irreducible] def gv:Ct:=λ os P=>∃ (ks:List Key) (ds:List D) (R:Rls) (z n:Str) (zs:List Str) (k f:Nat) (K:Kp) (r:Res),os=[cI ks ds,.fz (.str z),lw K,.fz (.str n),.fz (.int k)]/\gu ks ds R/\MkOk R z zs n k f/\KpOk R z zs K/\rdF R z f n k=some r /\
 ∀ K':Kp,KpOk R z zs (K++K')->((n,k),r)∈K++K'->P (.fl (K'.map λ e=>bL e.1)) [cI ks ds,.fz (.str z),lw (K++K'),.fz (.str n),.fz (.int k)]
theorem iC(hD:gu ks ds R)(hR:iy R zs)(hk:k<=z.length)(hz:z.length<=sizeLine)
  (h:∀ a b,P (.ob (asA a b (cX R z n k))) [.fz (.dct ks ds),.fz (.str z),.fz (.str n),.fz (.int k)]):cW [.fz (.dct ks ds),.fz (.str z),.fz (.str n),.fz (.int k)] P:=by
 have e:=hD n;unfold cW;refine⟨ks,ds,z,n,k,rfl,hk,hz,?_⟩;unfold cX at h
 cases hr:R n with
 | leaf l=>
  rw[hr] at e h;exact .inl ⟨l,e,λ a b=>by rw[jZ];exact h a b⟩
 | comp w p=>
  rw[hr] at e h;obtain⟨h1,h2,h3,_⟩:=hR n w p hr;exact .inr ⟨w,p,e,h1,λ y=>by rw[y] at h2;simp at h2,h3,h⟩
abbrev AN:Stmt:=top 41
abbrev JE:FS:=
  (ao (cL 5 (jD ag))
  (ao (fIf (aH (fOp aIn (ib (aa (ab 3) (aa (ab 4) ag))) (ab 2)))
   (bE (ab 5))
   bc)
  (ao (cL 6 (Jg (am cW (aa (fFz (ab 0)) (aa (fFz (ab 1)) (aa (fFz (ab 3)) (aa (fFz (ab 4)) ag)))))))
  (ao (ie (aH (fOp (iK (λ i j=>decide (j<i)) λ i j=>bd j i) (xR 6) (fC (.int 0))))
   (Jh 6 7 (ao (tF 6 7 (cL 7 (nR 6)))
  (ao (fIf (Dh (gz 0 7 6))
   (ao (tN 2 (am dS (aa (ab 7) (aa (ab 2) ag))) (ib (aa (gz 0 7 1) (aa (gz 0 7 2) ag))))
  (ao (b5 (xj 5 (ib (aa (gz 0 7 1) (aa (gz 0 7 2) ag)))))
  (ao (b5 (Eo 6))
  Ir)))
   bc)
  (ao (cg (dD "wanted" 0 7 aE ag) (ac 8))
  (fIf (aH (fOp aIn (ab 8) (ab 2)))
   (b5 (dD "take" 0 7 aY (aa (fFz (fOp aIx (fOp aIx (ab 2) (ab 8)) (fC (.int 0)))) ag)))
   (tF 6 7 (b5 (xT 6 (am cW (aa (fFz (ab 0)) (aa (fFz (ab 1)) (aa (fFz (fOp aIx (ab 8) (fC (.int 0)))) (aa (fFz (fOp aIx (ab 8) (fC (.int 1)))) ag))))))))))))))
  (bE (ab 5))))))
theorem JF:Lh gv 5 [2]:=by delta gv
theorem JG:Hh gv JE [2] 9:=by
 intro os P h;unfold gv at h;obtain⟨ks,ds,R,z,n,zs,k,f,K,r,rfl,hD,M,hK,hr,q⟩:=h;have s2:2<=sizeLine:=by rw[sizeLine_eq];decide
 have hzz:=M.l;obtain⟨G,hG,L⟩:=AM (q:=(n,k)) hr;ext;refine⟨aaq _,?_⟩;ext;refine aB ?_;ext;refine⟨s2,?_⟩;ext;refine aw ((n,k)∈K.map (·.1)) (j4 (s:=(n,k))) (λ hin=>?_) (λ hout=>?_)
 ·ext;obtain⟨e,he,e1⟩:=abR.mp hin
  have hq:=q [] (by rw[aay];exact hK) (by
   rw[aay];obtain⟨_,_,f',h'⟩:=hK.ok e he;rw[e1] at h';have:e.2=r:=lp h' hr;have e2:e=((n,k),r):=by rw[← e1,← this]
   exact e2 ▸ he)
  rw[aay] at hq;exact hq
 ext;refine iC hD M.r M.k (by nofun) λ a b=>?_;ext;refine dQ (λ m ρ=>∃ (K':Kp) (ss:List (Addr×Addr×As)) (x7 x8:Option OV),ρ=[some (cI ks ds),some (.fz (.str z)),some (lw (K++K')),some (.fz (.str n)),some (.fz (.int k)),some (.fl (K'.map λ e=>bL e.1)),some (.obs (ss.map λ t=>asA t.1 t.2.1 t.2.2)),x7,x8]/\KpOk R z zs (K++K')/\MQ R z zs (K++K') (n,k) G ss m) (Tf G) ?_ ?_
 ·refine⟨[],[(a,b,cX R z n k)],none,none,?_,?_,.inr ⟨a,b,cX R z n k,[],G,G,k,[n],r,Tf G,0,rfl,?_,?_,.inl (aac _),aac _⟩⟩
  ·rw[aay];rfl
  ·rw[aay];exact hK
  ·rw[aay];exact⟨L.rd,jk M.r M.n M.k,⟨[],cr.2.2,(λ _ y=>nomatch y),cr.2.1.symm,by rw[cr.1];rfl⟩,by rw[cr.1,cr.2.1];exact L,aac _,by rw[cr.1,cr.2.1];exact hout,by rw[cr.1,cr.2.1]⟩
  ·rw[cr.1,cr.2.1];exact .nil (aac _)
 rintro m ρ Rr ⟨K',ss,x7,x8,rfl,hK',S⟩ kk;have on:∀ (K2:Kp) (ss:List (Addr×Addr×As)) (x7 x8:Option OV) (m':Nat),m'<m->KpOk R z zs (K++K2)->MQ R z zs (K++K2) (n,k) G ss m'->Rr [some (cI ks ds),some (.fz (.str z)),some (lw (K++K2)),some (.fz (.str n)),some (.fz (.int k)),some (.fl (K2.map λ e=>bL e.1)),some (.obs (ss.map λ t=>asA t.1 t.2.1 t.2.2)),x7,x8]:=λ K2 ss x7 x8 m' h1 h2 h3=>kk m' _ h1 ⟨K2,ss,x7,x8,rfl,h2,h3⟩;have hKl:=hK'.len;have hms:=M.s;have hmm:=M.m;rcases S with ⟨rfl,hin⟩|⟨a,b,s,rest,f',g,far,ls,rr,c,mw,rfl,F,W,hc,hm⟩
 ·ext;refine aw _ decide_eq_true_iff (λ h=>absurd h (show ¬ (0:Int)<((0:Nat):Int) by decide)) (λ _=>?_);ext;obtain⟨e,he,e1⟩:=abR.mp hin;refine q K' hK' ?_;obtain⟨_,_,f',h'⟩:=hK'.ok e he;rw[e1] at h';have:e.2=r:=lp h' hr;have e2:e=((n,k),r):=by rw[← e1,← this]
  exact e2 ▸ he
 ·ext;refine aw _ decide_eq_true_iff (λ _=>?_) (λ h=>absurd (show (0:Int)<((_+1:Nat):Int) by nofun) h);ext;refine aB ?_;ext;refine aw (s.dn=true) Iff.rfl (λ hd=>?_) (λ hd=>?_)
  ·obtain⟨es,h1,h2,h3,h4⟩:=F.acc
   have hrr:rr=⟨s.ln,far,ls⟩:=by
    have g:=F.go
    cases f' with
    |zero=>cases g
    |succ f'=>rw[mJ hd] at g;exact(aaj g).symm
   have hes:∀ e∈es,ResOk z zs e.1.2 e.2:=λ e he=>hK'.res M.r (h2 e he);have sm:∀ l:List Str,l.Nodup->(∀ x∈l,x∈zs)->l.length<=zs.length:=λ l a b=>aaz a b
   have hK2:KpOk R z zs (K++K'++[((s.n,s.k),rr)]):=⟨by
    rw[aaf];exact abV.mpr ⟨hK'.nd,by simp,λ x hx y hy e=>F.nw (by have e2:x=(s.n,s.k):=e.trans (abN.mp hy);rw[← e2];exact hx)⟩,λ e he=>by
    rcases abL.mp he with y|y
    ·exact hK'.ok e y
    ·rw[abN.mp y];exact⟨F.ok.nz,aau F.ok.kt F.ok.tz,g,F.lst.rd⟩,λ e he f3 h3' x hx=>by
    rw[aaf];refine aam _ ?_;rcases abL.mp he with y|y
    ·exact hK'.cl e y f3 h3' x hx
    ·rw[abN.mp y] at h3' hx;have en:=F.en;rw[lq hd] at en;unfold t9 at hx;rw[JC h3' F.lst.rd,← en,h1] at hx;obtain⟨e',he',rfl⟩:=abR.mp hx;exact abR.mpr ⟨e',h2 e' he',rfl⟩⟩
   have ep:tL (kh (K++K')) (lu (K++K')) [.inr s.n,.inl (s.k:Int)] (yG s.k ⟨s.ln,eU s.k es,lv [s.n] es⟩)=(kh (K++K'++[((s.n,s.k),rr)]),lu (K++K'++[((s.n,s.k),rr)])):=by
    rw[hrr,h3,h4];exact yJ (e:=((s.n,s.k),⟨s.ln,eU s.k es,lv [s.n] es⟩)) F.nw
   have W2:=W.more (e:=((s.n,s.k),rr)) F.lst (aac _);ext;refine yH (s:=s) (K:=K++K') (es:=es) (m:=zs.length) hK'.nd h1 (λ e he=>⟨h2 e he,(hes e he).kf⟩) (λ i=>?_) (λ e he=>sm _ (hes e he).nd (hes e he).sub) hmm ?_
   ·have:=ud (zs:=zs) (es:=es.take i) (ls:=[s.n]) (by simp) (by simpa using F.ok.nz) λ e he=>(hes e (abD he)).sub;exact sm _ this.1 this.2
   ext;refine⟨rfl,?_⟩;ext;refine⟨s2,?_⟩;ext;rw[abK];refine⟨by nofun,?_⟩;rw[ep];ext;refine⟨rfl,?_⟩;ext;refine⟨s2,?_⟩;ext;rw[abK];refine⟨by rw[aag] at hKl;nofun,?_⟩;ext;have eK:K++K'++[((s.n,s.k),rr)]=K++(K'++[((s.n,s.k),rr)]):=aas ..;rw[eK] at hK2 W2
   have hlt:mw<m:=by
    rcases hc with y|⟨_,_,_,_,y,_⟩
    ·have g:=F.go
     cases f' with
     |zero=>cases g
     |succ f'=>have:Tf (f'+1)=2*Tf f'+3:=rfl;nofun
    ·rw[hd] at y;cases y
   have fin:=on (K'++[((s.n,s.k),rr)]) rest (some (.ob ⟨a,0,[.fz (rlD s.fm),.fz (.str s.n),.fz (.int s.k),.fz (.int s.t),.fz (.int s.tn),.fz (.lst (s.st.map bL)),.fz (.bl s.dn),.fz (dc s.ln)]⟩)) x8 mw hlt hK2 (W2.stk (by
    rw[← eK,aaf];exact aai _ (aab ..)))
   rw[← eK,aaf] at fin;exact fin
  ·have hd':s.dn=false:=ab1.mpr hd;obtain⟨w,p,hf,htn⟩:=F.ok.tn hd';have hp8:=(M.r s.n w p (F.ok.fm.symm.trans hf)).2.2.1;obtain⟨es,h1,h2,h3,h4⟩:=F.acc
   have hst:s.st.length<sizeLine:=by
    have h5:=F.ok.st;have h6:=F.ok.t8;have h7:=F.ok.tz;rw[hd',if_neg (by decide)] at h5;nofun
   obtain⟨f2,e2⟩:∃ f2,f'=f2+1:=by
    have g:=F.go
    cases f' with
    |zero=>cases g
    |succ f'=>exact⟨f',rfl⟩
   subst e2;obtain⟨w',p',t,hf',ht,hgo⟩:=qh hd' F.go;rw[hf] at hf';cases hf';ext;refine gb (s:=s) hf htn hp8 ?_;ext;refine aB ?_;ext;refine aw (ah p s∈(K++K').map (·.1)) (j4 (s:=ah p s)) (λ hin=>?_) (λ hno=>?_)
   ·obtain⟨e,he,e1⟩:=abR.mp hin;have e1':e.1=ah p s:=e1;obtain⟨F2,n2,k2⟩:=F.take M.r hK' hd' hf he e1'
    have hlt:Tf f2+mw<m:=by
     have:Tf (f2+1)=2*Tf f2+3:=rfl;rcases hc with y|⟨f3,_,_,y,_,_,_,y2⟩
     ·nofun
     ·cases y;nofun
    ext;refine j5 (show iT (kh (K++K')) (lu (K++K')) [.inr (ah p s).1,.inl ((ah p s).2:Int)]=some (yG e.1.2 e.2) from e1' ▸ iB hK'.nd he) ?_;ext;refine n8 (s:=s) hf htn hp8 F.ok.kt hst ?_;ext;refine⟨rfl,?_⟩;exact on K' ((a,b,cf w p s e.2.ln)::rest) none (some (.fz (bL (ah p s)))) (Tf f2+mw) hlt hK' (.inr ⟨a,b,_,rest,f2,g,_,_,rr,Tf f2,mw,rfl,F2,by rw[n2,k2];exact W,.inl (aac _),aac _⟩)
   ·obtain⟨g2,hg2,L2⟩:=AM (q:=ah p s) ht
    have hw:(ah p s).1∈zs:=by
     refine(M.r s.n w p (F.ok.fm.symm.trans hf)).2.2.2 _ ?_;show p.getD s.tn "" ∈ p;rw[List.getD_eq_getElem?_getD,List.getElem?_eq_getElem htn];exact aaH htn
    have hlt:Tf g2+(Tf f2+2+mw)<m:=by
     have:Tf (f2+1)=2*Tf f2+3:=rfl;have:=Fa hg2;rcases hc with y|⟨f3,w',p',_,_,y,y2,_⟩
     ·nofun
     ·rw[hf] at y;cases y;exact absurd y2 hno
    have hl:=W.len;have hfg:=F.fg;have hff:=M.f;ext;refine⟨rfl,?_⟩;ext;refine iC hD M.r F.ok.tz (by nofun) λ a2 b2=>?_;ext;rw[abK] at hl;refine⟨by rw[abO,abK];nofun,?_⟩;ext;exact on K' ((a2,b2,cX R z (ah p s).1 (ah p s).2)::(a,b,s)::rest) none (some (.fz (bL (ah p s)))) _ hlt hK' (.inr ⟨a2,b2,_,(a,b,s)::rest,g2,g2,_,_,t,Tf g2,Tf f2+2+mw,rfl,⟨L2.rd,jk M.r hw F.ok.tz,⟨[],cr.2.2,(λ _ y=>nomatch y),cr.2.1.symm,by rw[cr.1];rfl⟩,by rw[cr.1,cr.2.1];exact L2,aac _,by rw[cr.1,cr.2.1];exact hno,by rw[cr.1,cr.2.1]⟩,by rw[cr.1,cr.2.1];exact .cons F hd' hf hg2 W,.inl (aac _),aac _⟩)
theorem Fb(hD:gu ks ds R)(M:MkOk R z zs n k f)(hK:KpOk R z zs K)(hr:rdF R z f n k=some r)
  (h:∀ K':Kp,KpOk R z zs (K++K')->((n,k),r)∈K++K'->P (.fl (K'.map λ e=>bL e.1)) [cI ks ds,.fz (.str z),lw (K++K'),.fz (.str n),.fz (.int k)]):gv [cI ks ds,.fz (.str z),lw K,.fz (.str n),.fz (.int k)] P:=by
 unfold gv;exact⟨ks,ds,R,z,n,zs,k,f,K,r,rfl,hD,M,hK,hr,h⟩
abbrev j6(K:Kp):OV:=.fz (.dt (kh K) (lu K))
@[irreducible] def bt:Ct:=λ os P=>∃ (ks:List Key) (ds:List D) (R:Rls) (z n:Str) (zs:List Str) (k f:Nat) (K:Kp) (r:Res),os=[cI ks ds,.fz (.str z),j6 K,.fz (.str n),.fz (.int k)]/\gu ks ds R/\MkOk R z zs n k f/\KpOk R z zs K/\rdF R z f n k=some r/\((n,k),r)∈K /\
 ∀ a b,P (.ob (asA a b (eI R z f (cX R z n k)))) os
abbrev AO:Stmt:=top 42
abbrev JH:FS:=
  (ao (cL 5 (am cW (aa (fFz (ab 0)) (aa (fFz (ab 1)) (aa (fFz (ab 3)) (aa (fFz (ab 4)) ag))))))
  (ao (ie (kQ (Dh (gz 0 5 6)))
   (b5 (dD "take" 0 5 aY (aa (fFz (fOp aIx (fOp aIx (ab 2) (dD "wanted" 0 5 aE ag)) (fC (.int 0)))) ag))))
  (bE (ab 5))))
theorem JI:Lh bt 5 []:=by delta bt
theorem JJ:Hh bt JH [] 6:=by
 intro os P h;unfold bt at h;obtain⟨ks,ds,R,z,n,zs,k,f,K,r,rfl,hD,M,hK,hr,hin,q⟩:=h;have hzz:=M.l;have hcl:=hK.cl _ hin f hr;ext;refine iC hD M.r M.k (by nofun) λ a b=>?_;ext;refine dQ (λ m ρ=>∃ (s:As) (far:Nat) (ls:List Str),ρ=[some (cI ks ds),some (.fz (.str z)),some (j6 K),some (.fz (.str n)),some (.fz (.int k)),some (.ob (asA a b s))]/\AsOk R z zs s/\goF R z m s far ls=some r/\eI R z m s=eI R z f (cX R z n k)) f ⟨cX R z n k,k,[n],rfl,jk M.r M.n M.k,hr,rfl⟩ ?_;rintro m ρ Rr ⟨s,far,ls,rfl,O,hgo,en⟩ kk;ext;refine aw (s.dn=false) (by cases s.dn <;> decide) (λ hd=>?_) (λ hd=>?_)
 ·obtain⟨m',rfl⟩:∃ m',m=m'+1:=by
   cases m with
   |zero=>cases hgo
   |succ m'=>exact⟨m',rfl⟩
  obtain⟨w,p,t,hf,ht,hgo2⟩:=qh hd hgo;obtain⟨w',p',hf',htn⟩:=O.tn hd;rw[hf] at hf';cases hf';have hp8:=(M.r s.n w p (O.fm.symm.trans hf)).2.2.1
  have hst:s.st.length<sizeLine:=by
   have h5:=O.st;have h6:=O.t8;have h7:=O.tz;rw[hd,if_neg (by decide)] at h5;nofun
  rw[lr hd hf ht] at en
  have hw:ah p s∈K.map (·.1):=by
   refine hcl _ ?_;unfold t9;show ah p s∈(eI R z f (cX R z n k)).st;rw[← en];refine AK ?_;obtain⟨_,_,_,_,e,_⟩:=iz w p s t.ln;rw[e];exact aai _ (aab ..)
  obtain⟨e,he,e1⟩:=abR.mp hw;have e1':e.1=ah p s:=e1;obtain⟨_,_,f3,h3'⟩:=hK.ok e he;rw[e1'] at h3';have e2:e.2=t:=lp h3' ht;have T:=hK.res M.r he;ext;refine gb (s:=s) hf htn hp8 ?_;ext;refine j5 (show iT (kh K) (lu K) [.inr (ah p s).1,.inl ((ah p s).2:Int)]=some (yG e.1.2 e.2) from e1' ▸ iB hK.nd he) ?_;ext;refine n8 (s:=s) hf htn hp8 O.kt hst ?_;ext;rw[e2];refine kk m' _ (aaE _) ⟨cf w p s t.ln,_,_,rfl,j2 M.r O hd hf λ l y=>?_,hgo2,en⟩;have:=T.ln l (e2 ▸ y);rw[e1'] at this;exact this
 ·have hd':s.dn=true:=by cases h:s.dn with|true=>rfl|false=>exact absurd h hd
  ext;rw[lq hd'] at en;rw[en];exact q a b
theorem Fc(hD:gu ks ds R)(M:MkOk R z zs n k f)(hK:KpOk R z zs K)(hr:rdF R z f n k=some r)(hin:((n,k),r)∈K)
  (h:∀ a b,P (.ob (asA a b (eI R z f (cX R z n k)))) [cI ks ds,.fz (.str z),j6 K,.fz (.str n),.fz (.int k)]):bt [cI ks ds,.fz (.str z),j6 K,.fz (.str n),.fz (.int k)] P:=by
 unfold bt;exact⟨ks,ds,R,z,n,zs,k,f,K,r,rfl,hD,M,hK,hr,hin,h⟩
def dE:List Sp2->List Sp2->List Sp2
 |ls,[]=>ls
 |ls,m::ms=>dE (if m∈ls then ls else ls++[m]) ms
theorem qj{ls:List Sp2}(h:st[i]?=some q):dE ls (st.take (i+1))=if q∈dE ls (st.take i) then dE ls (st.take i) else dE ls (st.take i)++[q]:=by
 induction st generalizing ls i with
 |nil=>cases h
 | cons m st ih=>
  cases i with
  |zero=>cases h;rfl
  |succ i=>exact ih h
theorem lx:∀ {ms ls:List Sp2},(dE ls ms).length<=ls.length+ms.length
 |[],ls=>by show ls.length<=_;simp
 | m::ms,ls=>by
  have h:=lx (ms:=ms) (ls:=if m∈ls then ls else ls++[m]);show (dE (if m∈ls then ls else ls++[m]) ms).length<=_;rw[abO];split at h
  ·rename_i hm;rw[if_pos hm];nofun
  ·rename_i hm;rw[if_neg hm];rw[aag,aa2] at h;nofun
@[irreducible] def bS:Ct:=λ os P=>∃ (ks:List Key) (ds:List D) (R:Rls) (z n:Str) (zs:List Str) (k f:Nat) (K:Kp) (r:Res),os=[cI ks ds,.fz (.str z),j6 K,.fz (.str n),.fz (.int k)]/\gu ks ds R/\MkOk R z zs n k f/\KpOk R z zs K/\rdF R z f n k=some r/\((n,k),r)∈K /\
 P (.fl ((dE [] (t9 R z f (n,k))).map bL)) os
abbrev ly:Stmt:=top 43
abbrev uf:FS:=
  (ao (cL 5 tK)
  (ao (pN (cD (Ji 0 5 (am bt (aa (fFz (ab 0)) (aa (fFz (ab 1)) (aa (fFz (ab 2)) (aa (fFz (ab 3)) (aa (fFz (ab 4)) ag)))))))) (ac 6)
   (tN 5 (fC (.bl true)) (ab 6)))
  (bE (AE (ab 5)))))
theorem ug:Lh bS 5 []:=by delta bS
theorem uh{ls:List Sp2}:tL (ls.map mL) (ls.map λ _=>D.bl true) (mL q) (.bl true)=((if q∈ls then ls else ls++[q]).map mL,(if q∈ls then ls else ls++[q]).map λ _=>D.bl true):=by
 have hq:sJ (ls.map mL) (mL q)=true↔q∈ls:=by
  unfold sJ;rw[aaZ];constructor
  ·rintro⟨x,hx,h⟩;obtain⟨y,hy,rfl⟩:=abR.mp hx;exact j3 (of_decide_eq_true h) ▸ hy
  ·intro h;exact⟨_,abR.mpr ⟨q,h,rfl⟩,decide_eq_true rfl⟩
 unfold tL;by_cases h:q∈ls
 ·rw[if_pos (hq.mpr h),if_pos h]
  congr 1
  clear hq h
  induction ls with
  |nil=>rfl
  | cons a ls ih=>
   simp only[List.map_cons,List.zip_cons_cons];rw[ih]
   congr 1
   split <;> rfl
 ·rw[if_neg (λ y=>h (hq.mp y)),if_neg h,aaf,aaf];rfl
theorem uk:Hh bS uf [] 7:=by
 intro os P h;unfold bS at h;obtain⟨ks,ds,R,z,n,zs,k,f,K,r,rfl,hD,M,hK,hr,hin,q⟩:=h;have hzz:=M.l;ext;refine Fc hD M hK hr hin λ a b=>?_;have O:=AL (f:=f) M.r (jk (z:=z) M.r M.n M.k)
 have hst:(eI R z f (cX R z n k)).st.length<sizeLine:=by
  have h5:=O.st;have h6:=O.t8;have h7:=O.tz;have:(if (eI R z f (cX R z n k)).dn=true then 1 else 0)<=1:=by split <;> nofun
  nofun
 have q':P (.fl ((dE [] (eI R z f (cX R z n k)).st).map bL)) [cI ks ds,.fz (.str z),j6 K,.fz (.str n),.fz (.int k)]:=q;ext;generalize (eI R z f (cX R z n k)).st=st at hst q' ⊢;refine bQ (λ i ρ=>∃ x:Option OV,ρ=[some (cI ks ds),some (.fz (.str z)),some (j6 K),some (.fz (.str n)),some (.fz (.int k)),some (.ft ((dE [] (st.take i)).map mL) ((dE [] (st.take i)).map λ _=>.bl true)),x]) ⟨none,rfl⟩ ?_ ?_
 ·rintro i d ρ R' hd ⟨x,rfl⟩ kk;rw[List.getElem?_map] at hd
  cases he:st[i]? with
  |none=>rw [he] at hd;cases hd
  | some e=>
   rw[he] at hd;cases hd;have hi:=(List.getElem?_eq_some_iff.mp he).1;have hl:=lx (ms:=st.take i) (ls:=[]);rw[aao,List.length_nil] at hl;ext;refine⟨rfl,?_⟩;ext;rw[abK];refine⟨by nofun,?_⟩;rw[show tL ((dE [] (st.take i)).map mL) ((dE [] (st.take i)).map λ _=>D.bl true) [.inr e.1,.inl (e.2:Int)] (.bl true)=_ from uh (q:=e),← qj he];exact kk _ ⟨_,rfl⟩
 ·rintro ρ ⟨x,rfl⟩;rw[abK,aal (aac _)];ext;rw[aav];exact q'
theorem qk(hD:gu ks ds R)(M:MkOk R z zs n k f)(hK:KpOk R z zs K)(hr:rdF R z f n k=some r)(hin:((n,k),r)∈K)
  (h:P (.fl ((dE [] (t9 R z f (n,k))).map bL)) [cI ks ds,.fz (.str z),j6 K,.fz (.str n),.fz (.int k)]):bS [cI ks ds,.fz (.str z),j6 K,.fz (.str n),.fz (.int k)] P:=by
 unfold bS;exact⟨ks,ds,R,z,n,zs,k,f,K,r,rfl,hD,M,hK,hr,hin,h⟩
@[irreducible] def bT:Ct:=λ os P=>∃ i:Int,os=[.fz (.int i)]/\P (.fz (.bl true)) os
abbrev lz:Stmt:=top 44
abbrev ul:FS:=
  (bE (ia (fCB cIs (aa (ab 0) (aa (fC (.ty "int")) ag))) (Dg (fCB cIs (aa (ab 0) (aa (fC (.ty "bool")) ag))))))
theorem um:Lh bT 1 []:=by delta bT
theorem uo:Hh bT ul [] 1:=by
 intro os P h;unfold bT at h;obtain⟨i,rfl,q⟩:=h;ext;refine⟨⟨rfl,rfl⟩,?_⟩;ext;refine cU ?_;ext;refine⟨⟨rfl,rfl⟩,?_⟩;ext;exact q
theorem ql{i:Int}(h:P (.fz (.bl true)) [.fz (.int i)]):bT [.fz (.int i)] P:=by
 unfold bT;exact⟨i,rfl,h⟩
@[irreducible] def bU:Ct:=λ os P=>∃ (z:Str) (k:Nat),os=[.fz (.str z),.fz (.int k)]/\k<=z.length/\z.length<=sizeLine/\P (.fz (.bl true)) os
abbrev lA:Stmt:=top 45
abbrev uq:FS:=
  (bE (ia (am bT (aa (fFz (ab 1)) ag)) (ja (iK (λ i j=>decide (i<=j)) λ i j=>!bd j i) (iK (λ i j=>decide (i<=j)) λ i j=>!bd j i) (fC (.int 0)) (ab 1) (fCB eX (aa (ab 0) ag)))))
theorem ur:Lh bU 2 []:=by delta bU
theorem ut:Hh bU uq [] 2:=by
 intro os P h;unfold bU at h;obtain⟨z,k,rfl,hk,hz,q⟩:=h;ext;refine ql ?_;ext;refine cU ?_;ext;refine aw (0<=(k:Int)) decide_eq_true_iff (λ _=>?_) (λ h=>absurd (Int.natCast_nonneg k) h);ext;refine⟨hz,?_⟩;ext;show P (.fz (.bl (decide ((k:Int)<=(z.length:Int))))) _;rw[decide_eq_true (Int.ofNat_le.mpr hk)];exact q
theorem qm(hk:k<=z.length)(hz:z.length<=sizeLine)(h:P (.fz (.bl true)) [.fz (.str z),.fz (.int k)]):bU [.fz (.str z),.fz (.int k)] P:=by
 unfold bU;exact⟨z,k,rfl,hk,hz,h⟩
theorem uu(h:(gm z)[i]?=some d):∃ c,z.cps.toList[i]?=some c/\d=.str ⟨#[c]⟩:=by
 unfold gm at h;rw[List.getElem?_map,aap] at h;obtain⟨r,h1,h2⟩:=h;exact⟨r,h1,h2.symm⟩
theorem uv(z:Str):z.length=z.cps.toList.length:=by rw[abU];rfl
abbrev j7:Str := "abcdefghijklmnopqrstuvwxyz"
theorem mM :c∈j7.cps.toList↔97<=c/\c<=122:=by
 have e:j7.cps.toList=List.range' 97 26:=by decide +kernel
 rw[e,List.mem_range'_1];nofun
def tru(i:Nat):List D:=(List.replicate i true).map .bl
theorem ei :tru i++[.bl true]=tru (i+1):=by
 unfold tru;rw[List.replicate_succ',aaf];rfl
theorem gc :(tru i).length=i:=by unfold tru;simp
theorem jm{Q:List Bool->Prop}(q:Q (List.replicate i true)):match gy (tru i) with
  |some zs=>Q zs
  |none=>False:=nL q
theorem ge :((List.replicate i true).all id)=true:=by simp
@[irreducible] def bJ:Ct:=λ os P=>∃ z:Str,os=[.fz (.str z)]/\cH z/\P (.fz (.bl true)) os
abbrev oe:Stmt:=top 17
abbrev yL:FS:=
  (ao (fIf (kQ (eR (fCB cIs (aa (ab 0) (aa (fC (.ty "str")) ag)))))
   (bE (fC (.bl false)))
   bc)
  (ao (fIf (kQ (aH (ja (iK (λ i j=>decide (i<=j)) λ i j=>!bd j i) (iK (λ i j=>decide (i<=j)) λ i j=>!bd j i) (fC (.int 1)) (fCB eX (aa (ab 0) ag)) (fC (.int 8)))))
   (bE (fC (.bl false)))
   bc)
  (bE (fCB xq (aa (ci [] 1 (Dp (ab 0)) (ac 0) kS (fOp aIn (ab 0) (fC (.str "abcdefghijklmnopqrstuvwxyz")))) ag)))))
theorem yM:Lh bJ 1 []:=by delta bJ
theorem yN:Hh bJ yL [] 1:=by
 intro os P h;unfold bJ at h;obtain⟨z,rfl,⟨n1,n2,n3⟩,q⟩:=h;have sz:=cE;have hle:=uv z;ext;refine aB ?_;ext;refine⟨⟨rfl,rfl⟩,?_⟩;ext;refine cY ?_;ext;refine aB ?_;ext;refine⟨by nofun,?_⟩;ext;refine aw ((1:Int)<=z.length) decide_eq_true_iff (λ h1=>?_) (λ h1=>absurd (by nofun) h1);ext;refine aw (¬ (z.length:Int)<=8) (by rw[aaW,decide_eq_false_iff_not]) (λ h2=>absurd (by nofun) h2) (λ h2=>?_);ext;refine aU (λ i as ρ=>∃ (x:Option OV),as=tru i/\ρ=[x,some (.fz (.str z))]) ⟨none,rfl,rfl⟩ ?_ ?_
 ·rintro i d as ρ R hd ⟨x,rfl,rfl⟩ k;obtain⟨c,hc,rfl⟩:=uu hd;have hi:=(List.getElem?_eq_some_iff.mp hc).1;have hm:decide (c∈j7.cps.toList)=true:=decide_eq_true (mM.mpr (n3 c (List.mem_of_getElem? hc)));ext;refine cU ?_;ext;refine⟨by rw[gc];nofun,k _ _ ⟨_,?_,rfl⟩⟩;rw[← ei];exact congrArg (λ b=>tru i++[D.bl b]) hm
 ·rintro as ρ ⟨x,rfl,rfl⟩;ext;refine jm ?_;ext;rw[ge];exact q
theorem fG(hz:cH z)(h:P (.fz (.bl true)) [.fz (.str z)]):bJ [.fz (.str z)] P:=by
 unfold bJ;exact⟨z,rfl,hz,h⟩
theorem uw{a b:Nat}:bd ⟨#[a]⟩ ⟨#[b]⟩=decide (a<b):=by
 unfold bd;rw[decide_eq_decide];simp[List.cons_lt_cons_iff]
theorem e_32:Str.ofString " " = ⟨#[32]⟩:=by decide +kernel
theorem MR:Str.ofString "~" = ⟨#[126]⟩:=by decide +kernel
theorem MS :(!bd ⟨#[c]⟩ (Str.ofString " "))=true↔32<=c:=by
 rw[e_32,uw,aaW,decide_eq_false_iff_not];nofun
theorem JK :(!bd (Str.ofString "~") ⟨#[c]⟩)=true↔c<=126:=by
 rw[MR,uw,aaW,decide_eq_false_iff_not];nofun
def Fd(z:Str):Prop:=∀ c∈z.cps.toList,32<=c/\c<=126/\c≠37
@[irreducible] def cu:Ct:=λ os P=>∃ c:Nat,os=[.fz (.str ⟨#[c]⟩)]/\(32<=c/\c<=126/\c≠37)/\P (.fz (.bl true)) os
abbrev og:Stmt:=top 18
abbrev yO:FS:=
  (bE (ia (ja (iK (λ i j=>decide (i<=j)) λ i j=>!bd j i) (iK (λ i j=>decide (i<=j)) λ i j=>!bd j i) (fC (.str " ")) (ab 0) (fC (.str "~"))) (fOp aNe (fCB My (aa (ab 0) ag)) (fC (.int 37)))))
theorem yQ:Lh cu 1 []:=by delta cu
theorem yR:Hh cu yO [] 1:=by
 intro os P h;unfold cu at h;obtain⟨c,rfl,⟨c1,c2,c3⟩,q⟩:=h;ext;refine aw (32<=c) MS (λ _=>?_) (λ h=>absurd c1 h);ext;refine aw (c<=126) JK (λ _=>?_) (λ h=>absurd c2 h);ext;refine⟨aX,?_⟩;ext;rw[show dEq (.int (c:Int)) (.int 37)=false from ab1.mpr λ e=>c3 (Int.ofNat.inj (b9.mp e))];exact q
theorem ux(hc:32<=c/\c<=126/\c≠37)(h:P (.fz (.bl true)) [.fz (.str ⟨#[c]⟩)]):cu [.fz (.str ⟨#[c]⟩)] P:=by
 unfold cu;exact⟨c,rfl,hc,h⟩
@[irreducible] def cb:Ct:=λ os P=>∃ z:Str,os=[.fz (.str z)]/\z.length<sizeLine/\Fd z/\P (.fz (.bl true)) os
abbrev oh:Stmt:=top 19
abbrev yS:FS:=
  (bE (ia (fCB cIs (aa (ab 0) (aa (fC (.ty "str")) ag))) (fCB xq (aa (ci [] 1 (Dp (ab 0)) (ac 0) kS (am cu (aa (fFz (ab 0)) ag))) ag))))
theorem yT:Lh cb 1 []:=by delta cb
theorem yU:Hh cb yS [] 1:=by
 intro os P h;unfold cb at h;obtain⟨z,rfl,hz,ht,q⟩:=h;have hle:=uv z;ext;refine⟨⟨rfl,rfl⟩,?_⟩;ext;refine cU ?_;ext;refine aU (λ i as ρ=>∃ (x:Option OV),as=tru i/\ρ=[x,some (.fz (.str z))]) ⟨none,rfl,rfl⟩ ?_ ?_
 ·rintro i d as ρ R hd ⟨x,rfl,rfl⟩ k;obtain⟨c,hc,rfl⟩:=uu hd;have hi:=(List.getElem?_eq_some_iff.mp hc).1;ext;refine cU ?_;ext;refine ux (ht c (List.mem_of_getElem? hc)) ?_;ext;exact⟨by rw[gc];nofun,k _ _ ⟨_,ei,rfl⟩⟩
 ·rintro as ρ ⟨x,rfl,rfl⟩;ext;refine jm ?_;ext;rw[ge];exact q
theorem lB(hz:z.length<sizeLine)(ht:Fd z)(h:P (.fz (.bl true)) [.fz (.str z)]):cb [.fz (.str z)] P:=by
 unfold cb;exact⟨z,rfl,hz,ht,h⟩
@[irreducible] def aA:Ct:=λ os P=>∃ z:Str,os=[.fz (.str z)]/\cR z/\P (.fz (.bl true)) os
abbrev oj:Stmt:=top 20
abbrev yV:FS:=
  (ao (fIf (kQ (eR (am cb (aa (fFz (ab 0)) ag))))
   (bE (fC (.bl false)))
   bc)
  (ao (fIf (kQ (aH (ja (iK (λ i j=>decide (i<=j)) λ i j=>!bd j i) (iK (λ i j=>decide (i<=j)) λ i j=>!bd j i) (fC (.int 1)) (fCB eX (aa (ab 0) ag)) (fC (.int 40)))))
   (bE (fC (.bl false)))
   bc)
  (bE (fCB xq (aa (ci [0] 1 (sx (aa (fC (.int 1)) (aa (fCB eX (aa (ab 0) ag)) ag))) (ac 0) kS (fOp (iK (λ i j=>decide (i<j)) bd) (fOp aIx (ab 1) (fOp (aI0 λ i j=>.int (i - j)) (ab 0) (fC (.int 1)))) (fOp aIx (ab 1) (ab 0)))) ag)))))
theorem yY:Lh aA 1 []:=by delta aA
theorem yZ:Hh aA yV [] 1:=by
 intro os P h;unfold aA at h;obtain⟨z,rfl,⟨n1,n2,n3,n4⟩,q⟩:=h;have sz:=cE;have hle:=uv z;ext;refine aB ?_;ext;refine lB (by nofun) n4 ?_;ext;refine cY ?_;ext;refine aB ?_;ext;refine⟨by nofun,?_⟩;ext;refine aw ((1:Int)<=z.length) decide_eq_true_iff (λ h1=>?_) (λ h1=>absurd (by nofun) h1);ext;refine aw (¬ (z.length:Int)<=40) (by rw[aaW,decide_eq_false_iff_not]) (λ h2=>absurd (by nofun) h2) (λ h2=>?_);ext;refine⟨by nofun,?_⟩;ext;refine⟨⟨by nofun,by nofun,by nofun,by nofun⟩,?_⟩;ext;refine aU (λ i as ρ=>∃ (x:Option OV),as=tru i/\ρ=[x,some (.fz (.str z))]) ⟨none,rfl,rfl⟩ ?_ ?_
 ·rintro i d as ρ R hd ⟨x,rfl,rfl⟩ k;obtain⟨hi,rfl⟩:=bH hd;have hi':i+1<z.cps.toList.length:=by nofun
  have g1:z.cps.toList[i]?=some (z.cps.toList[i]'(by nofun)):=List.getElem?_eq_getElem _;have g2:z.cps.toList[i+1]?=some (z.cps.toList[i+1]'hi'):=List.getElem?_eq_getElem _
  have e1:atI z.cps.toList ((1:Int)+i - 1)=some (z.cps.toList[i]'(by nofun)):=by
   rw[show (1:Int)+i - 1=((i:Nat):Int) by nofun];exact cF g1
  have e2:atI z.cps.toList ((1:Int)+i)=some (z.cps.toList[i+1]'hi'):=by
   rw[show (1:Int)+i=((i+1:Nat):Int) by nofun];exact cF g2
  ext;refine cU ?_;ext;refine⟨by nofun,?_⟩;rw[e1];ext;refine⟨by nofun,?_⟩;rw[e2];ext;refine⟨by rw[gc];nofun,k _ _ ⟨_,?_,rfl⟩⟩;rw[uw,decide_eq_true (ab6.mp n3 i (i+1) (by nofun) hi' (aaE i))];exact ei
 ·rintro as ρ ⟨x,rfl,rfl⟩;ext;refine jm ?_;ext;rw[ge];exact q
theorem uy(hz:cR z)(h:P (.fz (.bl true)) [.fz (.str z)]):aA [.fz (.str z)] P:=by
 unfold aA;exact⟨z,rfl,hz,h⟩
@[irreducible] def cv:Ct:=λ os P=>∃ (word:Str) (rest:List Str),os=[.fz (aK word rest)]/\iu word rest/\P (.fz (.bl true)) os
theorem uz{x:α}{r:List α}:g0 (x::r) (some 1) none=r:=by
 unfold g0;rw[show HT.sIx (x::r).length 0 (some 1)=1 from by show min 1 (r.length+1)=1;nofun,HT.sIx_none];simp
abbrev om:Stmt:=top 21
abbrev y4:FS:=
  (ao (fIf (fOr (kQ (eR (fCB cIs (aa (ab 0) (aa (fC (.ty "tuple")) ag))))) (aH (fOp aEq (fCB eX (aa (ab 0) ag)) (fC (.int 0)))))
   (bE (fC (.bl false)))
   bc)
  (ao (cg (fOp aIx (ab 0) (fC (.int 0))) (ac 1))
  (ao (fIf (kQ (eR (fCB cIs (aa (ab 1) (aa (fC (.ty "str")) ag)))))
   (bE (fC (.bl false)))
   bc)
  (ao (fIf (aH (fOp aIn (ab 1) (fC (.gt [.str "none", .str "any"]))))
   (bE (fOp aEq (fCB eX (aa (ab 0) ag)) (fC (.int 1))))
   bc)
  (ao (fIf (aH (fOp aEq (ab 1) (fC (.str "signs"))))
   (bE (ia (fOp aEq (fCB eX (aa (ab 0) ag)) (fC (.int 2))) (am aA (aa (fFz (fOp aIx (ab 0) (fC (.int 1)))) ag))))
   bc)
  (ao (fIf (aH (fOp aIn (ab 1) (fC (.gt [.str "again", .str "ahead", .str "not"]))))
   (bE (ia (fOp aEq (fCB eX (aa (ab 0) ag)) (fC (.int 2))) (am bJ (aa (fFz (fOp aIx (ab 0) (fC (.int 1)))) ag))))
   bc)
  (ao (fIf (aH (fOp aIn (ab 1) (fC (.gt [.str "row", .str "first"]))))
   (bE (ia (ja (iK (λ i j=>decide (i<=j)) λ i j=>!bd j i) (iK (λ i j=>decide (i<=j)) λ i j=>!bd j i) (fC (.int 1)) (fOp (aI0 λ i j=>.int (i - j)) (fCB eX (aa (ab 0) ag)) (fC (.int 1))) (fC (.int 8))) (fCB xq (aa (ci [] 1 (Iq (fSl MD (ab 0) (mo (fC (.int 1))) eO)) (ac 0) kS (am bJ (aa (fFz (ab 0)) ag))) ag))))
   bc)
  (bE (fC (.bl false))))))))))
theorem y6:Lh cv 1 []:=by delta cv
theorem MT{l:List α}(h:l.length=1):∃ x,l=[x]:=List.length_eq_one_iff.mp h
theorem y8:Hh cv y4 [] 2:=by
 intro os P h;unfold cv at h;obtain⟨word,rest,rfl,⟨zs,hn,hf⟩,q⟩:=h;have sz:=cE;ext;refine aB ?_;ext;refine⟨⟨rfl,rfl⟩,?_⟩;ext;refine cY ?_;ext;refine⟨aX,?_⟩;ext;refine aw False ⟨λ h=>by have e:(((rest.map D.str).length+1:Nat):Int)=0:=b9.mp h;nofun,False.elim⟩ False.elim (λ _=>?_);ext;refine cV ?_;ext;refine aB ?_;ext;refine⟨⟨rfl,rfl⟩,?_⟩;ext;refine cY ?_;ext;refine aB ?_;ext;refine⟨⟨rfl,rfl⟩,?_⟩;ext;refine aw (word = "none" ∨ word = "any") ((fA (zs:=["none", "any"])).trans (by simp)) (λ hw=>?_) (λ h1=>?_)
 ·have e:rest=[]:=by
   rcases hf with ⟨_,h⟩|⟨h,_⟩|⟨h,_⟩|⟨h,_⟩
   ·exact h
   all_goals (rcases hw with rfl|rfl <;> exact absurd h (by decide))
  subst e;ext;refine⟨aX,?_⟩;ext;exact q
 ·ext;refine aB ?_;ext;refine⟨aO,?_⟩;ext;refine aw (word = "signs") bz (λ hw=>?_) (λ h2=>?_)
  ·obtain⟨z,rfl,hz⟩:∃ z,rest=[z]/\cR z:=by
    rcases hf with ⟨h,_⟩|⟨_,h⟩|⟨h,_⟩|⟨h,_⟩
    ·exact absurd h h1
    ·exact h
    all_goals (rw[hw] at h;exact absurd h (by decide))
   ext;refine⟨aX,?_⟩;ext;refine cU ?_;ext;refine uy hz ?_;ext;exact q
  ·ext;refine aB ?_;ext;refine⟨⟨rfl,rfl⟩,?_⟩;ext;refine aw (word = "again" ∨ word = "ahead" ∨ word = "not") ((fA (zs:=["again", "ahead", "not"])).trans (by simp)) (λ hw=>?_) (λ h3=>?_)
   ·obtain⟨z,rfl,hz⟩:∃ z,rest=[z]/\cH z:=by
     rcases hf with ⟨h,_⟩|⟨h,_⟩|⟨_,h,g⟩|⟨h,_⟩
     ·exact absurd h h1
     ·exact absurd h h2
     ·obtain⟨z,rfl⟩:=MT h;exact⟨z,rfl,hn z (g z (abN.mpr rfl))⟩
     ·rcases hw with rfl|rfl|rfl <;> exact absurd h (by decide)
    ext;refine⟨aX,?_⟩;ext;refine cU ?_;ext;refine fG hz ?_;ext;exact q
   ·obtain⟨hw,r1,r2,r3⟩:(word = "row" ∨ word = "first")/\1<=rest.length/\rest.length<=8/\∀ z∈rest,z∈zs:=by
     rcases hf with ⟨h,_⟩|⟨h,_⟩|⟨h,_⟩|h
     ·exact absurd h h1
     ·exact absurd h h2
     ·exact absurd h h3
     ·exact h
    have hl:(rest.map D.str).length=rest.length:=abK ..;ext;refine aB ?_;ext;refine⟨⟨rfl,rfl⟩,?_⟩;ext;refine aw (word = "row" ∨ word = "first") ((fA (zs:=["row", "first"])).trans (by simp)) (λ hw=>?_) (λ h4=>absurd hw h4);ext;rw[List.length_cons];refine aw ((1:Int)<=(((rest.map D.str).length+1:Nat):Int) - 1) decide_eq_true_iff (λ g1=>?_) (λ g1=>absurd (by nofun) g1);ext;refine aw ((((rest.map D.str).length+1:Nat):Int) - 1<=8) decide_eq_true_iff (λ g2=>?_) (λ g2=>absurd (by nofun) g2);ext;rw[uz];ext;refine aU (λ i as ρ=>∃ (x y:Option OV),as=tru i/\ρ=[x,some (.fz (aK word rest)),y]) ⟨none,_,rfl,rfl⟩ ?_ ?_
    ·rintro i d as ρ R hd ⟨x,y,rfl,rfl⟩ k;rw[List.getElem?_map,aap] at hd;obtain⟨z,hz,rfl⟩:=hd;have hi:=(List.getElem?_eq_some_iff.mp hz).1;ext;refine cU ?_;ext;refine fG (hn z (r3 z (List.mem_of_getElem? hz))) ?_;ext;exact⟨by rw[gc];nofun,k _ _ ⟨_,_,ei,rfl⟩⟩
    ·rintro as ρ ⟨x,y,rfl,rfl⟩;ext;refine jm ?_;ext;rw[ge];exact q
theorem uA{rest:List Str}(hf:iu word rest)(h:P (.fz (.bl true)) [.fz (aK word rest)]):cv [.fz (aK word rest)] P:=by
 unfold cv;exact⟨word,rest,rfl,hf,h⟩
def y9(r:Rw):Prop:=cH r.1/\iu r.2.1 r.2.2
@[irreducible] def cw:Ct:=λ os P=>∃ r:Rw,os=[.fz (dZ r)]/\y9 r/\P (.fz (.bl true)) os
abbrev oo:Stmt:=top 25
abbrev za:FS:=
  (ao (fIf (fOr (kQ (eR (fCB cIs (aa (ab 0) (aa (fC (.ty "tuple")) ag))))) (aH (fOp aNe (fCB eX (aa (ab 0) ag)) (fC (.int 2)))))
   (bE (fC (.bl false)))
   bc)
  (bE (ia (am bJ (aa (fFz (fOp aIx (ab 0) (fC (.int 0)))) ag)) (am cv (aa (fFz (fOp aIx (ab 0) (fC (.int 1)))) ag)))))
theorem zb:Lh cw 1 []:=by delta cw
theorem zc:Hh cw za [] 1:=by
 intro os P h;unfold cw at h;obtain⟨⟨n,word,rest⟩,rfl,⟨hn,hf⟩,q⟩:=h;ext;refine aB ?_;ext;refine⟨⟨rfl,rfl⟩,?_⟩;ext;refine cY ?_;ext;refine⟨aX,?_⟩;ext;refine cY ?_;ext;refine fG hn ?_;ext;refine cU ?_;ext;refine uA hf ?_;ext;exact q
theorem uB{r:Rw}(hr:y9 r)(h:P (.fz (.bl true)) [.fz (dZ r)]):cw [.fz (dZ r)] P:=by
 unfold cw;exact⟨r,rfl,hr,h⟩
abbrev gf(rows:List Rw):D:=.lst (rows.map dZ)
def JL(rows:List Rw):Prop:=∀ i r s,rows[i]?=some r->rows[i+1]?=some s->bd r.1 s.1=true
@[irreducible] def bu:Ct:=λ os P=>∃ rows:List Rw,os=[.fz (gf rows)]/\rows.length<=1000/\JL rows/\P (.fz (.bl true)) os
abbrev uC:Stmt:=top 26
abbrev Fe:FS:=
  (bE (fCB xq (aa (ci [0] 1 (sx (aa (fC (.int 1)) (aa (fCB eX (aa (ab 0) ag)) ag))) (ac 0) kS (fOp (iK (λ i j=>decide (i<j)) bd) (fOp aIx (fOp aIx (ab 1) (fOp (aI0 λ i j=>.int (i - j)) (ab 0) (fC (.int 1)))) (fC (.int 0))) (fOp aIx (fOp aIx (ab 1) (ab 0)) (fC (.int 0))))) ag)))
theorem Ff:Lh bu 1 []:=by delta bu
theorem Fg:Hh bu Fe [] 1:=by
 intro os P h;unfold bu at h;obtain⟨rows,rfl,hl,hr,q⟩:=h;have sz:=cE;have hlm:(rows.map dZ).length=rows.length:=abK ..;ext;refine⟨⟨by nofun,by nofun,by nofun,by nofun⟩,?_⟩;ext;refine aU (λ i as ρ=>∃ (x:Option OV),as=tru i/\ρ=[x,some (.fz (gf rows))]) ⟨none,rfl,rfl⟩ ?_ ?_
 ·rintro i d as ρ R hd ⟨x,rfl,rfl⟩ k;obtain⟨hi,rfl⟩:=bH hd;have hi':i+1<rows.length:=by nofun
  have g1:rows[i]?=some (rows[i]'(by nofun)):=List.getElem?_eq_getElem _;have g2:rows[i+1]?=some (rows[i+1]'hi'):=List.getElem?_eq_getElem _
  have e1:atI (rows.map dZ) ((1:Int)+i - 1)=some (dZ (rows[i]'(by nofun))):=by
   rw[show (1:Int)+i - 1=((i:Nat):Int) by nofun];exact cF (by rw[List.getElem?_map,g1];rfl)
  have e2:atI (rows.map dZ) ((1:Int)+i)=some (dZ (rows[i+1]'hi')):=by
   rw[show (1:Int)+i=((i+1:Nat):Int) by nofun];exact cF (by rw[List.getElem?_map,g2];rfl)
  ext;refine cU ?_;ext;rw[e1];ext;rw[e2];ext;refine⟨by rw[gc];nofun,k _ _ ⟨_,?_,rfl⟩⟩;rw[hr i _ _ g1 g2];exact ei
 ·rintro as ρ ⟨x,rfl,rfl⟩;ext;refine jm ?_;ext;rw[ge];exact q
theorem zd(hl:rows.length<=1000)(hr:JL rows)(h:P (.fz (.bl true)) [.fz (gf rows)]):bu [.fz (gf rows)] P:=by
 unfold bu;exact⟨rows,rfl,hl,hr,h⟩
@[irreducible] def cx:Ct:=λ os P=>∃ rows:List Rw,os=[.fz (gf rows)]/\rows.length<=1000/\(∀ r∈rows,y9 r)/\JL rows/\P (.fz (.bl true)) os
abbrev oq:Stmt:=top 27
abbrev ze:FS:=
  (ao (fIf (kQ (eR (fCB cIs (aa (ab 0) (aa (fC (.ty "list")) ag)))))
   (bE (fC (.bl false)))
   bc)
  (bE (ia (fCB xq (aa (ci [] 1 (cD (ab 0)) (ac 0) kS (am cw (aa (fFz (ab 0)) ag))) ag)) (am bu (aa (fFz (ab 0)) ag)))))
theorem zf:Lh cx 1 []:=by delta cx
theorem zg:Hh cx ze [] 1:=by
 intro os P h;unfold cx at h;obtain⟨rows,rfl,hl,ho,hr,q⟩:=h;have sz:=cE;ext;refine aB ?_;ext;refine⟨⟨rfl,rfl⟩,?_⟩;ext;refine cY ?_;ext;refine aU (λ i as ρ=>∃ (x:Option OV),as=tru i/\ρ=[x,some (.fz (gf rows))]) ⟨none,rfl,rfl⟩ ?_ ?_
 ·rintro i d as ρ R hd ⟨x,rfl,rfl⟩ k;rw[List.getElem?_map,aap] at hd;obtain⟨r,hg,rfl⟩:=hd;have hi:=(List.getElem?_eq_some_iff.mp hg).1;ext;refine cU ?_;ext;refine uB (ho r (List.mem_of_getElem? hg)) ?_;ext;exact⟨by rw[gc];nofun,k _ _ ⟨_,ei,rfl⟩⟩
 ·rintro as ρ ⟨x,rfl,rfl⟩;ext;refine jm ?_;ext;rw[ge];refine cU ?_;ext;refine zd hl hr ?_;ext;exact q
theorem uD(hl:rows.length<=1000)(ho:∀ r∈rows,y9 r)(hr:JL rows)(h:P (.fz (.bl true)) [.fz (gf rows)]):cx [.fz (gf rows)] P:=by
 unfold cx;exact⟨rows,rfl,hl,ho,hr,h⟩
def Lx(word:Str):Prop:=word = "none" ∨ word = "again" ∨ word = "ahead" ∨ word = "not"
def AQ(zs:List Str)(word:Str)(rest:List Str):Prop:=(word = "row" /\ ∀ z∈rest,z∈zs)∨(word = "first" /\ ∃ z∈rest,z∈zs)∨Lx word
inductive Emp(rows:List Rw):Str->Prop where
 |base {r:Rw}:r∈rows->Lx r.2.1->Emp rows r.1
 |row {r:Rw}:r∈rows->r.2.1 = "row" -> (∀ z∈r.2.2,Emp rows z)->Emp rows r.1
 |first {r:Rw} {z:Str}:r∈rows->r.2.1 = "first" -> z∈r.2.2->Emp rows z->Emp rows r.1
def uE(rows:List Rw)(zs:List Str):Prop:=∀ r∈rows,AQ zs r.2.1 r.2.2->r.1∈zs
theorem Emp.mem(c:uE rows zs)(h:Emp rows z):z∈zs:=by
 induction h with
 |base h e=>exact c _ h (.inr (.inr e))
 |row h e _ ih=>exact c _ h (.inl ⟨e,ih⟩)
 |first h e m _ ih=>exact c _ h (.inr (.inl ⟨e,_,m,ih⟩))
theorem Emp.of(h:∀ z∈zs,Emp rows z){r:Rw}(hr:r∈rows)(m:AQ zs r.2.1 r.2.2):Emp rows r.1:=by
 rcases m with ⟨e,a⟩|⟨e,z,hz,a⟩|e
 ·exact .row hr e λ z hz=>h z (a z hz)
 ·exact .first hr e hz (h z a)
 ·exact .base hr e
structure Walk1(rows:List Rw)(zs0 zs:List Str)(i:Nat):Prop where
 nd:zs.Nodup
 emp:∀ z∈zs,Emp rows z
 sub:∀ z∈zs,z∈rows.map (·.1)
 grow:(zs=zs0/\∀ r∈rows.take i,AQ zs0 r.2.1 r.2.2->r.1∈zs0)∨zs0.length<zs.length
theorem Walk1.start(nd:zs.Nodup)(emp:∀ z∈zs,Emp rows z)(sub:∀ z∈zs,z∈rows.map (·.1)):Walk1 rows zs zs 0:=⟨nd,emp,sub,.inl ⟨rfl,λ r h=>by simp at h⟩⟩
theorem ou{l:List α}{r a:α}(h:l[i]?=some a)(hr:r∈l.take (i+1)):r∈l.take i∨r=a:=by
 rw[aat,h] at hr;simpa using hr
theorem Walk1.add{r:Rw}(W:Walk1 rows zs0 zs i)(hr:rows[i]?=some r)(hn:r.1∉zs)(m:AQ zs r.2.1 r.2.2):Walk1 rows zs0 (zs++[r.1]) (i+1):=by
 have hrm:=List.mem_of_getElem? hr;refine⟨KS.nodup_snoc W.nd hn,λ z hz=>?_,λ z hz=>?_,.inr ?_⟩
 ·rcases abL.mp hz with h|h
  ·exact W.emp z h
  ·have:z=r.1:=(by exists h);rw[this];exact Emp.of W.emp hrm m
 ·rcases abL.mp hz with h|h
  ·exact W.sub z h
  ·have:z=r.1:=(by exists h);rw[this];exact abR.mpr ⟨r,hrm,rfl⟩
 ·rw[aag,aa2];rcases W.grow with ⟨e,_⟩|h
  ·rw[e];nofun
  ·nofun
theorem Walk1.skip{r:Rw}(W:Walk1 rows zs0 zs i)(hr:rows[i]?=some r)(h:AQ zs r.2.1 r.2.2->r.1∈zs):Walk1 rows zs0 zs (i+1):=by
 refine⟨W.nd,W.emp,W.sub,?_⟩;rcases W.grow with ⟨e,g⟩|g
 ·refine .inl ⟨e,λ r' hr' m=>?_⟩;rcases ou hr hr' with z|z
  ·exact g r' z m
  ·subst z;subst e;exact h m
 ·exact .inr g
theorem Walk1.len(W:Walk1 rows zs0 zs i):zs.length<=rows.length:=by
 have:=aaz W.nd W.sub
 rwa [abK] at this
@[irreducible] def a7:Ct:=λ os P=>∃ (word:Str) (rest zs:List Str) (ds:List D),os=[.fz (aK word rest),.fd (zs.map Sum.inr) ds]/\iu word rest/\∀ b:Bool,(b=true↔AQ zs word rest)->P (.fz (.bl b)) os
@[irreducible] def bm:Ct:=λ os P=>∃ rows:List Rw,os=[.fz (.lst (rows.map dZ))]/\BookL rows/\∀ (zs:List Str) (ds:List D),zs.Nodup->(∀ z,z∈zs↔Emp rows z)->zs.length<=30->P (.fd (zs.map Sum.inr) ds) os
section
variable {P:Program} {w:World} {K:Frag}  
abbrev JM:Stmt:=top 28
abbrev MU:FS:=
  (ao (fIf (aH (fOp aEq (fOp aIx (ab 0) (fC (.int 0))) (fC (.str "row"))))
   (bE (fCB xq (aa (ci [1] 1 (cD (am bi (aa (fFz (ab 0)) ag))) (ac 0) kS (fOp aIn (ab 0) (ab 2))) ag)))
   bc)
  (ao (fIf (aH (fOp aEq (fOp aIx (ab 0) (fC (.int 0))) (fC (.str "first"))))
   (bE (fCB Lu (aa (ci [1] 1 (cD (am bi (aa (fFz (ab 0)) ag))) (ac 0) kS (fOp aIn (ab 0) (ab 2))) ag)))
   bc)
  (bE (fOp aIn (fOp aIx (ab 0) (fC (.int 0))) (fC (.gt [.str "none", .str "again", .str "ahead", .str "not"]))))))
theorem MV:Lh a7 2 [1]:=by delta a7
theorem iD{rest:List Str}(h:iu word rest):rest.length<=8:=by
 obtain⟨zs,_,h⟩:=h;rcases h with ⟨_,rfl⟩|⟨_,z,rfl,_⟩|⟨_,h,_⟩|⟨_,_,h,_⟩
 ·simp
 ·simp
 ·nofun
 ·exact h
theorem MW:Hh a7 MU [1] 2:=by
 intro os P h;unfold a7 at h;obtain⟨word,rest,zs,ds,rfl,hf,q⟩:=h;have sz:=cE;have h8:=iD hf
 have hp8:(bO word rest).length<=8:=by
  unfold bO;split
  ·simp
  ·exact h8
 ext;refine aB ?_;ext;refine cV ?_;ext;refine⟨aO,?_⟩;ext;refine aw (word = "row") bz (λ hw=>?_) (λ hw=>?_)
 ·have hpl:bO word rest=rest:=by unfold bO;rw[if_neg (by rw[hw];decide)]
  ext;refine cS ?_;rw[hpl];ext;refine aU (λ i as ρ=>∃ x:Option OV,as=(rest.take i).map (λ z=>D.bl (pT (zs.map Sum.inr) (.inr z)))/\ρ=[x,some (.fz (aK word rest)),some (.fd (zs.map Sum.inr) ds)]) ⟨none,by simp,rfl⟩ ?_ ?_
  ·rintro i d as ρ R hd ⟨x,rfl,rfl⟩ k
   obtain⟨z,hz,rfl⟩:∃ z,rest[i]?=some z/\d=.str z:=by
    rw[List.getElem?_map,aap] at hd;obtain⟨z,h1,h2⟩:=hd;exact⟨z,h1,h2.symm⟩
   ext;refine cU ?_;ext;refine⟨by rw[abK,aao];nofun,k _ _ ⟨some (.fz (.str z)),by rw[aat,hz,aaf];rfl,rfl⟩⟩
  ·rintro as ρ ⟨x,rfl,rfl⟩;rw[abK,aal (aac _)];have e:rest.map (λ z=>D.bl (pT (zs.map Sum.inr) (.inr z)))=(rest.map λ z=>pT (zs.map Sum.inr) (.inr z)).map D.bl:=by rw[aav];rfl
   rw[e];ext;refine nL ?_;ext;refine q _ ?_;rw[List.all_map,ab3];constructor
   ·intro h;exact .inl ⟨hw,λ z hz=>bI.mp (h z hz)⟩
   ·rintro (⟨_,h⟩|⟨e,_⟩|e) z hz
    ·exact bI.mpr (h z hz)
    ·rw[hw] at e;exact absurd e (by decide)
    ·rw[hw] at e;exact absurd e (by unfold Lx;decide)
 ·ext;refine aB ?_;ext;refine cV ?_;ext;refine⟨aO,?_⟩;ext;refine aw (word = "first") bz (λ hw'=>?_) (λ hw'=>?_)
  ·have hpl:bO word rest=rest:=by unfold bO;rw[if_neg (by rw[hw'];decide)]
   ext;refine cS ?_;rw[hpl];ext;refine aU (λ i as ρ=>∃ x:Option OV,as=(rest.take i).map (λ z=>D.bl (pT (zs.map Sum.inr) (.inr z)))/\ρ=[x,some (.fz (aK word rest)),some (.fd (zs.map Sum.inr) ds)]) ⟨none,by simp,rfl⟩ ?_ ?_
   ·rintro i d as ρ R hd ⟨x,rfl,rfl⟩ k
    obtain⟨z,hz,rfl⟩:∃ z,rest[i]?=some z/\d=.str z:=by
     rw[List.getElem?_map,aap] at hd;obtain⟨z,h1,h2⟩:=hd;exact⟨z,h1,h2.symm⟩
    ext;refine cU ?_;ext;refine⟨by rw[abK,aao];nofun,k _ _ ⟨some (.fz (.str z)),by rw[aat,hz,aaf];rfl,rfl⟩⟩
   ·rintro as ρ ⟨x,rfl,rfl⟩;rw[abK,aal (aac _)];have e:rest.map (λ z=>D.bl (pT (zs.map Sum.inr) (.inr z)))=(rest.map λ z=>pT (zs.map Sum.inr) (.inr z)).map D.bl:=by rw[aav];rfl
    rw[e];ext;refine nL ?_;ext;refine q _ ?_;rw[acd,aaZ];constructor
    ·rintro⟨z,hz,h⟩;exact .inr (.inl ⟨hw',z,hz,bI.mp h⟩)
    ·rintro (⟨e,_⟩|⟨_,z,hz,h⟩|e)
     ·exact absurd e hw
     ·exact⟨z,hz,bI.mpr h⟩
     ·rw[hw'] at e;exact absurd e (by unfold Lx;decide)
  ·ext;refine cV ?_;ext;refine⟨⟨rfl,rfl⟩,?_⟩;ext;refine q _ ?_;rw[show [D.str (Str.ofString "none"),D.str (Str.ofString "again"),D.str (Str.ofString "ahead"),D.str (Str.ofString "not")]=([("none" : Str), "again", "ahead", "not"]).map D.str from rfl,fA];simp only[List.mem_cons,List.not_mem_nil,or_false];constructor
   ·intro h;exact .inr (.inr h)
   ·rintro (⟨e,_⟩|⟨e,_⟩|e)
    ·exact absurd e hw
    ·exact absurd e hw'
    ·exact e
theorem JN{rest:List Str}{P:OV->List OV->Prop}(hf:iu word rest)(h:∀ b:Bool,(b=true↔AQ zs word rest)->P (.fz (.bl b)) [.fz (aK word rest),.fd (zs.map Sum.inr) ds]):a7 [.fz (aK word rest),.fd (zs.map Sum.inr) ds] P:=by
 unfold a7;exact⟨word,rest,zs,ds,rfl,hf,h⟩
end
section
variable {P:Program} {w:World} {K:Frag}  
theorem AR(h:(rows.map dZ)[i]?=some d):∃ r,rows[i]?=some r/\d=dZ r:=by
 rw[List.getElem?_map,aap] at h;obtain⟨r,h1,h2⟩:=h;exact⟨r,h1,h2.symm⟩
abbrev ox:Stmt:=top 29
abbrev zi:FS:=
  (ao (cL 1 wZ)
  (ao (cg (fC (.bl true)) (ac 2))
  (ao (ie (Dh (ab 2))
   (ao (cg (fC (.bl false)) (ac 2))
  (pN (cD (ab 0)) (jF 2 (bG (ac 3) (bG (ac 4) jE)))
   (fIf (Gi (aH (fOp nF (ab 3) (ab 1))) (eR (am a7 (aa (fFz (ab 4)) (aa (ab 1) ag)))))
   (ao (mr 1 (fC (.bl true)) (ab 3))
  (cg (fC (.bl true)) (ac 2)))
   bc))))
  (bE (ab 1)))))
theorem zj:Lh bm 1 []:=by delta bm
theorem zk:Hh bm zi [] 5:=by
 intro os P h;unfold bm at h;obtain⟨rows,rfl,hB,q⟩:=h;have sz:=cE;have few:=hB.few;ext
 refine dQ (λ m ρ=>∃ (zs:List Str) (ds:List D) (g:Bool) (x3 x4:Option OV),ρ=[some (.fz (.lst (rows.map dZ))),some (.fd (zs.map Sum.inr) ds),some (.fz (.bl g)),x3,x4]/\Walk1 rows zs zs 0/\(g=true∨uE rows zs)/\m=2*(rows.length - zs.length)+(if g=true then 1 else 0))
  _ ⟨[],[],true,none,none,rfl,Walk1.start aaB (λ _ h=>by cases h) (λ _ h=>by cases h),.inl rfl,rfl⟩ ?_
 rintro m ρ R ⟨zs,ds,g,x3,x4,rfl,W,hg,rfl⟩ kk;ext
 cases g with
 | false=>
  have hcl:uE rows zs:=by
   rcases hg with z|z
   ·cases z
   ·exact z
  refine cY ?_;ext;exact q zs ds W.nd (λ z=>⟨W.emp z,λ h=>h.mem hcl⟩) (aau W.len few)
 | true=>
  refine cU ?_;ext
  refine bQ (λ i ρ=>∃ (zs':List Str) (ds':List D) (g:Bool) (x3 x4:Option OV),ρ=[some (.fz (.lst (rows.map dZ))),some (.fd (zs'.map Sum.inr) ds'),some (.fz (.bl g)),x3,x4]/\Walk1 rows zs zs' i/\(g=false->zs'=zs)/\(g=true->zs.length<zs'.length))
   ⟨zs,ds,false,x3,x4,rfl,W,λ _=>rfl,λ z=>nomatch z⟩ ?_ ?_
  ·rintro i d ρ R' hd ⟨zs',ds',g,x3,x4,rfl,W',hg0,hg1⟩ kk';obtain⟨r,hr,rfl⟩:=AR hd;have hrm:=List.mem_of_getElem? hr;ext;refine⟨rfl,?_⟩;ext;refine aB ?_;ext;refine aw (r.1∉zs') (by rw[aaW,ab1,Ne,bI]) (λ hn=>?_) (λ hn=>?_)
   ·ext;refine JN (hB.ok r hrm).2 λ b hb=>?_;ext;refine aw (AQ zs' r.2.1 r.2.2) hb (λ hm=>?_) (λ hm=>?_)
    ·ext;refine⟨rfl,?_⟩;ext;have W2:=W'.add hr hn hm;refine⟨by rw[abK];have:=W'.len;nofun,?_⟩;ext;refine kk' _ ⟨zs'++[r.1],(fL (zs'.map Sum.inr) ds' (.inr r.1) (.bl true)).2,true,some (.fz (.str r.1)),some (.fz (aK r.2.1 r.2.2)),?_,W2,(λ z=>nomatch z),λ _=>?_⟩
     ·have e:=sS (zs:=zs') (ds:=ds') (z:=r.1) (d:=.bl true);unfold KS.dedup1 at e;rw[if_neg hn] at e;rw[← e];rfl
     ·rcases W2.grow with ⟨z,_⟩|z
      ·have:=congrArg List.length z;rw[aag,aa2] at this;rcases W'.grow with ⟨y,_⟩|y
       ·rw[y] at this;nofun
       ·nofun
      ·exact z
    ·exact kk' _ ⟨zs',ds',g,some (.fz (.str r.1)),some (.fz (aK r.2.1 r.2.2)),rfl,W'.skip hr λ z=>absurd z hm,hg0,hg1⟩
   ·ext;refine cY ?_;exact kk' _ ⟨zs',ds',g,some (.fz (.str r.1)),some (.fz (aK r.2.1 r.2.2)),rfl,W'.skip hr λ _=>Classical.not_not.mp hn,hg0,hg1⟩
  ·rintro ρ ⟨zs',ds',g,x3,x4,rfl,W',hg0,hg1⟩;rw[abK] at W';have hl:=W'.len;refine kk _ _ ?_ ⟨zs',ds',g,x3,x4,rfl,Walk1.start W'.nd W'.emp W'.sub,?_,rfl⟩
   ·cases g with
    |false=>rw[hg0 rfl,if_neg (by decide),if_pos rfl];nofun
    |true=>have:=hg1 rfl;rw[if_pos rfl];nofun
   ·cases g with
    |true=>exact .inl rfl
    | false=>
     refine .inr ?_;have e:=hg0 rfl;rcases W'.grow with ⟨_,z⟩|z
     ·rw[aal (aac _)] at z;rw[e];exact λ r hr m=>z r hr m
     ·rw[e] at z;exact absurd z (aaR _)
theorem uF{P:OV->List OV->Prop}(hB:BookL rows)(h:∀ (zs:List Str) (ds:List D),zs.Nodup->(∀ z,z∈zs↔Emp rows z)->zs.length<=30->P (.fd (zs.map Sum.inr) ds) [.fz (.lst (rows.map dZ))]):bm [.fz (.lst (rows.map dZ))] P:=by
 unfold bm;exact⟨rows,rfl,hB,h⟩
theorem lD(h:(zs.map D.str)[i]?=some d):∃ z,zs[i]?=some z/\d=.str z:=by
 rw[List.getElem?_map,aap] at h;obtain⟨r,h1,h2⟩:=h;exact⟨r,h1,h2.symm⟩
end
def ki(zs:List Str):List Str->List Str
 |[]=>[]
 |p::r=>if p∈zs then p::ki zs r else [p]
theorem qo{zs zs':List Str}(h:∀ z,z∈zs↔z∈zs'):∀ ps,ki zs ps=ki zs' ps
 |[]=>rfl
 | p::r=>by
  unfold ki;rw[qo h r];by_cases hp:p∈zs
  ·rw[if_pos hp,if_pos ((h p).mp hp)]
  ·rw[if_neg hp,if_neg λ z=>hp ((h p).mpr z)]
theorem oy{zs:List Str}:∀ ps,(ki zs ps).length<=ps.length
 |[]=>aac _
 | p::r=>by
  unfold ki;have:=oy (zs:=zs) r;split <;> simp <;> nofun
theorem uG{p:Str}(hp:ps[i]?=some p)(h:∀ z∈ps.take i,z∈zs):ki zs ps=ps.take i++ki zs (ps.drop i):=by
 induction ps generalizing i with
 |nil=>simp at hp
 | cons a r ih=>
  cases i with
  |zero=>rfl
  | succ i=>
   rw[List.take_succ_cons] at h;have ha:=h a (aab ..);rw[List.getElem?_cons_succ] at hp;have:=ih hp λ z hz=>h z (aad _ hz);rw[List.take_succ_cons,List.drop_succ_cons,List.cons_append,← this];rw[ki,if_pos ha]
theorem Fh{p:Str}(hp:ps[i]?=some p):ps.drop i=p::ps.drop (i+1):=by
 obtain⟨h,e⟩:=List.getElem?_eq_some_iff.mp hp;rw[aaw h,e]
theorem zm{p:Str}(hp:ps[i]?=some p)(h:∀ z∈ps.take i,z∈zs)(hn:p∉zs):ki zs ps=ps.take (i+1):=by
 rw[uG hp h,Fh hp,ki,if_neg hn,aat,hp];rfl
theorem oz{zs:List Str}:∀ {ps:List Str},(∀ z∈ps,z∈zs)->ki zs ps=ps
 |[],_=>rfl
 | p::r,h=>by
  rw[ki,if_pos (h p (aab ..)),oz λ z hz=>h z (aad _ hz)]
def bR(zs:List Str)(word:Str)(rest:List Str):List Str:=if word = "row" then ki zs rest else bO word rest
def c8(zs:List Str)(r:Rw):D:=.lst ((bR zs r.2.1 r.2.2).map .str)
@[irreducible] def aQ:Ct:=λ os P=>∃ (ps zs:List Str) (ds:List D),os=[.fz (.lst (ps.map .str)),.fd (zs.map Sum.inr) ds]/\ps.length<=8/\P (.fl ((ki zs ps).map .str)) os
@[irreducible] def aN:Ct:=λ os P=>∃ (word:Str) (rest zs:List Str) (ds:List D),os=[.fz (aK word rest),.fd (zs.map Sum.inr) ds]/\iu word rest/\P (.fl ((bR zs word rest).map .str)) os
@[irreducible] def bV:Ct:=λ os P=>∃ rows:List Rw,os=[.fz (.lst (rows.map dZ))]/\BookL rows/\∀ zs:List Str,(∀ z,z∈zs↔Emp rows z)->P (.fd ((rows.map (·.1)).map Sum.inr) (rows.map (c8 zs))) os
section
variable {P:Program} {w:World} {K:Frag}  
abbrev AS:Stmt:=top 30
abbrev JO:FS:=
  (ao (cL 2 (jD ag))
  (ao (pN (cD (ab 0)) (ac 3)
   (ao (b5 (xj 2 (ab 3)))
  (fIf (aH (fOp nF (ab 3) (ab 1)))
   Aw
   bc)))
  (bE (ab 2))))
theorem JP:Lh aQ 2 [1]:=by delta aQ
theorem JQ:Hh aQ JO [1] 4:=by
 intro os P h;unfold aQ at h;obtain⟨ps,zs,ds,rfl,h8,q⟩:=h;have sz:=cE;ext;refine⟨aaq _,?_⟩;ext;refine bQ (λ i ρ=>∃ x:Option OV,ρ=[some (.fz (.lst (ps.map .str))),some (.fd (zs.map Sum.inr) ds),some (.fl ((ps.take i).map .str)),x]/\∀ z∈ps.take i,z∈zs) ⟨none,by simp,λ z hz=>by simp at hz⟩ ?_ ?_
 ·rintro i d ρ R hd ⟨x,rfl,hall⟩ kk;obtain⟨p,hp,rfl⟩:=lD hd;ext;refine⟨rfl,?_⟩;ext;refine⟨by rw[abK,aao];nofun,?_⟩;ext;refine aB ?_;ext;refine aw (p∉zs) (by rw[aaW,ab1,Ne,bI]) (λ hn=>?_) (λ hn=>?_)
  ·ext;have e:=zm hp hall hn;rw[e,aat,hp,aaf] at q;exact q
  ·refine kk _ ⟨some (.fz (.str p)),?_,?_⟩
   ·rw[aat,hp,aaf];rfl
   ·intro z hz;rcases ou hp hz with h|h
    ·exact hall z h
    ·rw[h];exact Classical.not_not.mp hn
 ·rintro ρ ⟨x,rfl,hall⟩;rw[abK,aal (aac _)] at *;ext;rw[oz hall] at q;exact q
theorem Fi{P:OV->List OV->Prop}(h8:ps.length<=8)(h:P (.fl ((ki zs ps).map .str)) [.fz (.lst (ps.map .str)),.fd (zs.map Sum.inr) ds]):aQ [.fz (.lst (ps.map .str)),.fd (zs.map Sum.inr) ds] P:=by
 unfold aQ;exact⟨ps,zs,ds,rfl,h8,h⟩
abbrev uH:Stmt:=top 31
abbrev Fj:FS:=
  (ao (fIf (aH (fOp aEq (fOp aIx (ab 0) (fC (.int 0))) (fC (.str "row"))))
   (bE (am aQ (aa (fFz (am bi (aa (fFz (ab 0)) ag))) (aa (ab 1) ag))))
   bc)
  (bE (am bi (aa (fFz (ab 0)) ag))))
theorem Fk:Lh aN 2 [1]:=by delta aN
theorem Fl:Hh aN Fj [1] 2:=by
 intro os P h;unfold aN at h;obtain⟨word,rest,zs,ds,rfl,hf,q⟩:=h;have h8:=iD hf;unfold bR at q;ext;refine aB ?_;ext;refine cV ?_;ext;refine⟨aO,?_⟩;ext;refine aw (word = "row") bz (λ hw=>?_) (λ hw=>?_)
 ·have hpl:bO word rest=rest:=by unfold bO;rw[if_neg (by rw[hw];decide)]
  rw[if_pos hw] at q;ext;refine cS ?_;rw[hpl];ext;refine Fi h8 ?_;ext;exact q
 ·rw[if_neg hw] at q;ext;refine cS ?_;ext;exact q
theorem zn{rest:List Str}{P:OV->List OV->Prop}(hf:iu word rest)(h:P (.fl ((bR zs word rest).map .str)) [.fz (aK word rest),.fd (zs.map Sum.inr) ds]):aN [.fz (aK word rest),.fd (zs.map Sum.inr) ds] P:=by
 unfold aN;exact⟨word,rest,zs,ds,rfl,hf,h⟩
theorem oA{f:α->β}{l:List α}{a:α}(h:l[i]?=some a):(l.take (i+1)).map f=(l.take i).map f++[f a]:=by
 rw[aat,h,aaf];rfl
theorem Fm{r:Rw}(nd:(rows.map (·.1)).Nodup)(h:rows[i]?=some r):r.1∉(rows.take i).map (·.1):=by
 intro z;obtain⟨hi,e⟩:=List.getElem?_eq_some_iff.mp h;obtain⟨r',hr',e'⟩:=abR.mp z;obtain⟨j,hj,ej⟩:=abr hr';rw[List.getElem_take] at ej;have hj':j<i:=by rw[aao] at hj;nofun
 have:=(abC (i:=j) (j:=i) (h₀:=by rw[abK];nofun) (h₁:=by rw[abK];nofun) nd).mp (by rw[List.getElem_map,List.getElem_map,ej,e,e']);nofun
theorem zo(h:z∉zs):fL (zs.map Sum.inr) ds (.inr z) d=(zs.map Sum.inr++[.inr z],ds++[d]):=by
 unfold fL;have e:¬ ((zs.map Sum.inr).any λ x=>decide (x=(Sum.inr z:Key)))=true:=λ q=>h (bI.mp q);rw[if_neg e]
abbrev uI:Stmt:=top 32
abbrev Fn:FS:=
  (ao (cL 1 (am bm (aa (fFz (ab 0)) ag)))
  (ao (cL 2 wZ)
  (ao (pN (cD (ab 0)) (jF 2 (bG (ac 3) (bG (ac 4) jE)))
   (mr 2 (am aN (aa (fFz (ab 4)) (aa (ab 1) ag))) (ab 3)))
  (bE (ab 2)))))
theorem Fo:Lh bV 1 []:=by delta bV
theorem Fp:Hh bV Fn [] 5:=by
 intro os P h;unfold bV at h;obtain⟨rows,rfl,hB,q⟩:=h;have sz:=cE;have few:=hB.few;ext;refine uF hB λ zs ds hn he hl=>?_;ext;refine bQ (λ i ρ=>∃ x3 x4:Option OV,ρ=[some (.fz (.lst (rows.map dZ))),some (.fd (zs.map Sum.inr) ds),some (.fd (((rows.take i).map (·.1)).map Sum.inr) ((rows.take i).map (c8 zs))),x3,x4]) ⟨none,none,by simp⟩ ?_ ?_
 ·rintro i d ρ R hd ⟨x3,x4,rfl⟩ kk;obtain⟨r,hr,rfl⟩:=AR hd;have hrm:=List.mem_of_getElem? hr;ext;refine⟨rfl,?_⟩;ext;refine zn (hB.ok r hrm).2 ?_;ext;refine⟨rfl,?_⟩;ext;refine⟨by rw[abK,abK,aao];nofun,?_⟩;refine kk _ ⟨some (.fz (.str r.1)),some (.fz (aK r.2.1 r.2.2)),?_⟩;have hnew:=Fm hB.nd hr;have e:=zo (ds:=(rows.take i).map (c8 zs)) (d:=c8 zs r) hnew;rw[oA hr,oA hr,aaf];show [_,_,some (OV.fd (fL (((rows.take i).map (·.1)).map Sum.inr) ((rows.take i).map (c8 zs)) (.inr r.1) (c8 zs r)).1 (fL (((rows.take i).map (·.1)).map Sum.inr) ((rows.take i).map (c8 zs)) (.inr r.1) (c8 zs r)).2),_,_]=_;rw[e];rfl
 ·rintro ρ ⟨x3,x4,rfl⟩;rw[abK,aal (aac _)];ext;exact q zs he
theorem zp{P:OV->List OV->Prop}(hB:BookL rows)(h:∀ zs:List Str,(∀ z,z∈zs↔Emp rows z)->P (.fd ((rows.map (·.1)).map Sum.inr) (rows.map (c8 zs))) [.fz (.lst (rows.map dZ))]):bV [.fz (.lst (rows.map dZ))] P:=by
 unfold bV;exact⟨rows,rfl,hB,h⟩
end
abbrev dC(zs:List Str)(rows:List Rw):D:=.dct ((rows.map (·.1)).map Sum.inr) (rows.map (c8 zs))
def oB(zs ls:List Str)(r:Rw):List Str:=(bR zs r.2.1 r.2.2).filter λ z=>decide (z∈ls)
def JR(zs:List Str)(rows:List Rw)(S:List Str):Prop:=∀ n∈S,∃ r∈rows,r.1=n/\∃ p∈bR zs r.2.1 r.2.2,p∈S
def uJ(zs:List Str)(rows:List Rw):Prop:=∀ S,JR zs rows S->S=[]
def Good(zs:List Str)(rows:List Rw)(ls:List Str)(n:Str):Prop:=∀ r∈rows,r.1=n->∀ p∈bR zs r.2.1 r.2.2,p∉ls
def mN(zs:List Str)(rows:List Rw)(ls:List Str)(n:Str):Bool:=@decide (Good zs rows ls n) (Classical.propDecidable _)
theorem fH :mN zs rows ls n=true↔Good zs rows ls n:=by
 unfold mN;exact @decide_eq_true_iff _ (Classical.propDecidable _)
theorem Fq(sub:∀ n∈ls,n∈rows.map (·.1))(h:∀ n∈ls,¬ Good zs rows ls n):JR zs rows ls:=by
 intro n hn;obtain⟨r,hr,e⟩:=abR.mp (sub n hn);have g:=h n hn;unfold Good at g;simp only[Classical.not_forall,Classical.not_not] at g;obtain⟨r',hr',e',p,hp,hl⟩:=g;exact⟨r',hr',e',p,hp,hl⟩
@[irreducible] def a8:Ct:=λ os P=>∃ (rows:List Rw) (zs ls:List Str) (ds:List D) (r:Rw),(os=[.fz (dC zs rows),.fz (.str r.1),.fd (ls.map Sum.inr) ds]∨os=[.fz (dC zs rows),.fz (.str r.1),.fz (.dct (ls.map Sum.inr) ds)])/\BookL rows/\r∈rows/\P (.fl ((oB zs ls r).map .str)) os
section
variable {P:Program} {w:World} {K:Frag}  
theorem fzzd{e:D}:[OV.fz d,OV.fz e,OV.fd ks ds].length=3/\∀ (j:Nat) (o:OV),[OV.fz d,OV.fz e,OV.fd ks ds][j]?=some o->j∉([2]:List Nat)->sC o=true:=⟨rfl,λ j o e hj=>by
 match j,e with
 |0,e=>cases e;rfl
 |1,e=>cases e;rfl
 |2,e=>exact absurd (by simp) hj⟩
theorem j8{f:Rw->D}:∀ {rows:List Rw} {r:Rw},(rows.map (·.1)).Nodup->r∈rows->gq ((rows.map (·.1)).map Sum.inr) (rows.map f) (.inr r.1)=some (f r)
 |[],_,_,h=>nomatch h
 | a::rows,r,hn,h=>by
  unfold gq;rw[abM,abM,abM,ab5,List.find?_cons];rw[abM,abS] at hn;by_cases e:a.1=r.1
  ·have:r=a:=by
    rcases abQ.mp h with h|h
    ·exact h
    ·exact absurd (abR.mpr ⟨r,h,e.symm⟩) hn.1
   subst this;simp
  ·have h':r∈rows:=by
    rcases abQ.mp h with h|h
    ·exact absurd (by rw[h]) e
    ·exact h
   rw[show decide ((Sum.inr a.1:Key)=Sum.inr r.1)=false from decide_eq_false λ z=>e (aa6 z)];exact j8 hn.2 h'
theorem uK{k:Key}(h:gq ks ds k=some d)(q:Q d):match gq ks ds k with
  |some d=>Q d
  |none=>False:=by rw [h];exact q
theorem qp{rest:List Str}(hf:iu word rest):(bR zs word rest).length<=8:=by
 have h8:=iD hf;unfold bR bO;split
 ·exact aau (oy rest) h8
 ·split
  ·simp
  ·exact h8
abbrev oC:Stmt:=top 33
abbrev zq:FS:=
  (bE (ci [2] 1 (cD (fOp aIx (ab 0) (ab 1))) (ac 0) (aH (fOp aIn (ab 0) (ab 3))) (ab 0)))
theorem fzzf{e f:D}:[OV.fz d,OV.fz e,OV.fz f].length=3/\∀ (j:Nat) (o:OV),[OV.fz d,OV.fz e,OV.fz f][j]?=some o->j∉([2]:List Nat)->sC o=true:=⟨rfl,λ j o e hj=>by
 match j,e with
 |0,e=>cases e;rfl
 |1,e=>cases e;rfl
 |2,e=>exact absurd (by simp) hj⟩
theorem zr:Lh a8 3 [2]:=λ os P h=>by
 unfold a8 at h;obtain⟨rows,zs,ls,ds,r,rfl|rfl,_⟩:=h
 ·exact fzzd
 ·exact fzzf
theorem zt:Hh a8 zq [2] 3:=by
 intro os P h;unfold a8 at h;obtain⟨rows,zs,ls,ds,r,ho,hB,hr,q⟩:=h;have sz:=cE;have h8:=qp (zs:=zs) (hB.ok r hr).2;rcases ho with rfl|rfl
 ·ext;refine uK (j8 (f:=c8 zs) hB.nd hr) ?_;ext;refine aU (λ i as ρ=>∃ x:Option OV,as=(((bR zs r.2.1 r.2.2).take i).filter λ z=>decide (z∈ls)).map .str/\ρ=[x,some (.fz (dC zs rows)),some (.fz (.str r.1)),some (.fd (ls.map Sum.inr) ds)]) ⟨none,by simp,rfl⟩ ?_ ?_
  ·rintro i d as ρ R hd ⟨x,rfl,rfl⟩ k;obtain⟨z,hz,rfl⟩:=lD hd;ext;refine aw (z∈ls) bI (λ hp=>?_) (λ hp=>?_)
   ·ext;refine⟨?_,k _ _ ⟨some (.fz (.str z)),?_,rfl⟩⟩
    ·rw[abK];have:=aa3 (λ z=>decide (z∈ls)) ((bR zs r.2.1 r.2.2).take i);rw[aao] at this;nofun
    ·rw[aat,hz,aaT,aaf];simp[hp]
   ·refine k _ _ ⟨some (.fz (.str z)),?_,rfl⟩;rw[aat,hz,aaT,aaf];simp[hp]
  ·rintro as ρ ⟨x,rfl,rfl⟩;rw[abK,aal (aac _)];ext;exact q
 ·ext;refine uK (j8 (f:=c8 zs) hB.nd hr) ?_;ext;refine aU (λ i as ρ=>∃ x:Option OV,as=(((bR zs r.2.1 r.2.2).take i).filter λ z=>decide (z∈ls)).map .str/\ρ=[x,some (.fz (dC zs rows)),some (.fz (.str r.1)),some (.fz (.dct (ls.map Sum.inr) ds))]) ⟨none,by simp,rfl⟩ ?_ ?_
  ·rintro i d as ρ R hd ⟨x,rfl,rfl⟩ k;obtain⟨z,hz,rfl⟩:=lD hd;ext;refine aw (z∈ls) bI (λ hp=>?_) (λ hp=>?_)
   ·ext;refine⟨?_,k _ _ ⟨some (.fz (.str z)),?_,rfl⟩⟩
    ·rw[abK];have:=aa3 (λ z=>decide (z∈ls)) ((bR zs r.2.1 r.2.2).take i);rw[aao] at this;nofun
    ·rw[aat,hz,aaT,aaf];simp[hp]
   ·refine k _ _ ⟨some (.fz (.str z)),?_,rfl⟩;rw[aat,hz,aaT,aaf];simp[hp]
  ·rintro as ρ ⟨x,rfl,rfl⟩;rw[abK,aal (aac _)];ext;exact q
theorem qq{r:Rw}{P:OV->List OV->Prop}(hB:BookL rows)(hr:r∈rows)(h:P (.fl ((oB zs ls r).map .str)) [.fz (dC zs rows),.fz (.str r.1),.fz (.dct (ls.map Sum.inr) ds)]):a8 [.fz (dC zs rows),.fz (.str r.1),.fz (.dct (ls.map Sum.inr) ds)] P:=by
 unfold a8;exact⟨rows,zs,ls,ds,r,.inr rfl,hB,hr,h⟩
end
structure Left(zs:List Str)(rows:List Rw)(ls:List Str):Prop where
 nd:ls.Nodup
 sub:∀ n∈ls,n∈rows.map (·.1)
 ring:JR zs rows ls
 all:∀ S,JR zs rows S->∀ n∈S,n∈ls
@[irreducible] def aS:Ct:=λ os P=>∃ (rows:List Rw) (zs:List Str),os=[.fz (dC zs rows)]/\BookL rows/\∀ (ls:List Str) (ds:List D),Left zs rows ls->P (.fd (ls.map Sum.inr) ds) os
section
variable {P:Program} {w:World} {K:Frag}  
theorem qr{P:OV->List OV->Prop}(hB:BookL rows)(h:∀ (ls:List Str) (ds:List D),Left zs rows ls->P (.fd (ls.map Sum.inr) ds) [.fz (dC zs rows)]):aS [.fz (dC zs rows)] P:=by
 unfold aS;exact⟨rows,zs,rfl,hB,h⟩
@[irreducible] def gw:Ct:=λ os P=>∃ rows:List Rw,os=[.fz (.lst (rows.map dZ))]/\BookL rows/\(∀ zs:List Str,(∀ z,z∈zs↔Emp rows z)->uJ zs rows)/\P (.fz .non) os
abbrev AT:Stmt:=top 35
abbrev JS:FS:=
  (ao (cg (am bV (aa (fFz (ab 0)) ag)) (ac 1))
  (ao (cL 2 (am aS (aa (fFz (ab 1)) ag)))
  (ao (fIf (aH (fOp aEq (fCB eX (aa (ab 2) ag)) (fC (.int 0))))
   (bE (fC .non))
   bc)
  (ao eD
  (ao eD
  (ao eD
  eD))))))
theorem JT:Lh gw 1 []:=by delta gw
theorem JU:Hh gw JS [] 5:=by
 intro os P h;unfold gw at h;obtain⟨rows,rfl,hB,hN,q⟩:=h;ext;refine zp hB λ zs he=>?_;ext;refine qr hB λ ls ds L=>?_;ext;refine aB ?_;ext;refine⟨aX,?_⟩;ext;refine aw (ls=[]) ?_ (λ e=>?_) (λ hne=>absurd (hN zs he ls L.ring) hne)
 ·rw[b9,abK];constructor
  ·intro h;exact aaA (by nofun)
  ·intro h;rw[h];rfl
 ·ext;exact q
theorem Fs{P:OV->List OV->Prop}(hB:BookL rows)(hN:∀ zs:List Str,(∀ z,z∈zs↔Emp rows z)->uJ zs rows)(h:P (.fz .non) [.fz (.lst (rows.map dZ))]):gw [.fz (.lst (rows.map dZ))] P:=by
 unfold gw;exact⟨rows,rfl,hB,hN,h⟩
end
theorem lE:∀ ls:List Str,(ls.map Sum.inr:List Key).map xt=ls.map D.str
 |[]=>rfl
 |z::ls=>by rw[abM,abM,abM,lE ls];rfl
structure Away(zs:List Str)(rows:List Rw)(ls:List Str):Prop where
 nd:ls.Nodup
 sub:∀ n∈ls,n∈rows.map (·.1)
 all:∀ S,JR zs rows S->∀ n∈S,n∈ls
theorem Away.len(O:Away zs rows ls):ls.length<=rows.length:=by
 have:=aaz O.nd O.sub
 rwa [abK] at this
theorem Away.next(O:Away zs rows ls):Away zs rows (ls.filter λ z=>decide (z∉ls.filter (mN zs rows ls))):=by
 refine⟨O.nd.sublist List.filter_sublist,λ n hn=>O.sub n (abX.mp hn).1,λ S hS n hn=>abX.mpr ⟨O.all S hS n hn,decide_eq_true λ z=>?_⟩⟩;have g:=fH.mp (abX.mp z).2;obtain⟨r,hr,e,p,hp,hpS⟩:=hS n hn;exact g r hr e p hp (O.all S hS p hpS)
theorem uL(nd:(rows.map (·.1)).Nodup){r r':Rw}(hr:r∈rows)(hr':r'∈rows)(e:r'.1=r.1):r'=r:=by
 obtain⟨i1,h1,e1⟩:=abr hr;obtain⟨i2,h2,e2⟩:=abr hr';have:=(abC (i:=i2) (j:=i1) (h₀:=by rw[abK];nofun) (h₁:=by rw[abK];nofun) nd).mp (by rw[List.getElem_map,List.getElem_map,e1,e2,e]);subst this;rw[← e1,← e2]
theorem mO{r:Rw}(nd:(rows.map (·.1)).Nodup)(hr:r∈rows):oB zs ls r=[]↔Good zs rows ls r.1:=by
 unfold oB;rw[List.filter_eq_nil_iff];constructor
 ·intro h r' hr' e p hp hl;rw[uL nd hr hr' e] at hp;exact h p hp (decide_eq_true hl)
 ·intro h p hp hl;exact h r hr rfl p hp (of_decide_eq_true hl)
theorem lF:∀ {ls:List Str} {ds:List D} {z:Str},ds.length=ls.length->z∈ls->∃ d,gq (ls.map Sum.inr) ds (.inr z)=some d
 |[],_,_,_,h=>nomatch h
 |a::ls,[],_,h,_=>by simp at h
 | a::ls,d::ds,z,h,hz=>by
  unfold gq;rw[abM,ab5,List.find?_cons];by_cases e:a=z
  ·subst e;exact⟨d,by simp⟩
  ·rw[show decide ((Sum.inr a:Key)=Sum.inr z)=false from decide_eq_false λ y=>e (aa6 y)];exact lF (by exists h) ((abQ.mp hz).resolve_left λ y=>e y.symm)
theorem oE:∀ {ls:List Str} {ds:List D} {z:Str},ds.length=ls.length->∃ ds',mz (ls.map Sum.inr) ds (.inr z)=((ls.filter λ x=>decide (x≠z)).map Sum.inr,ds')/\ds'.length=(ls.filter λ x=>decide (x≠z)).length
 |[],[],_,_=>⟨[],rfl,rfl⟩
 |[],d::ds,_,h=>by simp at h
 |a::ls,[],_,h=>by simp at h
 | a::ls,d::ds,z,h=>by
  obtain⟨ds',e,hl⟩:=oE (ls:=ls) (ds:=ds) (z:=z) (by exists h);unfold mz at e ⊢;injection e with e1 e2
  by_cases q:a=z
  ·refine⟨ds',?_,?_⟩
   ·subst q;simp only[List.map_cons,List.zip_cons_cons,List.filter_cons,ne_eq,not_true_eq_false,decide_false,if_neg Bool.false_ne_true];exact congr (congrArg _ e1) e2
   ·subst q;simpa using hl
  ·have q1:decide ((Sum.inr a:Key)≠Sum.inr z)=true:=decide_eq_true λ y=>q (aa6 y);have q2:decide (a≠z)=true:=decide_eq_true q;refine⟨d::ds',?_,?_⟩
   ·simp only[List.map_cons,List.zip_cons_cons,List.filter_cons,q1,q2,if_pos];rw[e1,e2]
   ·simp only[List.filter_cons,q2,if_pos,List.length_cons,hl]
theorem gg :(ls.filter λ z=>decide (z∉([]:List Str)))=ls:=List.filter_eq_self.mpr λ a _=>by simp
theorem qt(nd:E.Nodup)(h:E[i]?=some z):z∉E.take i:=λ hz=>by
 obtain⟨hi,e⟩:=List.getElem?_eq_some_iff.mp h;obtain⟨k,hk,ek⟩:=abr hz;rw[List.getElem_take] at ek;rw[aao] at hk;have:=(abC nd).mp (ek.trans e.symm);nofun
theorem iE(h:E[i]?=some z):((ls.filter λ z=>decide (z∉E.take i)).filter λ x=>decide (x≠z))=ls.filter λ z=>decide (z∉E.take (i+1)):=by
 rw[List.filter_filter];refine List.filter_congr λ x _=>?_;rw[aat,h];simp only[Option.toList,List.mem_append,List.mem_singleton];by_cases h1:x=z <;> by_cases h2:x∈E.take i <;> simp[h1,h2]
section
variable {P:Program} {w:World} {K:Frag}  
abbrev lG:Stmt:=top 34
abbrev uM:FS:=
  (ao (cL 1 (fCB DY (aa (ab 0) ag)))
  (ao (cg (fC (.bl true)) (ac 2))
  (ao (ie (Dh (ab 2))
   (ao (cg (tp [0,1] 1 1 (ac 0) (aH (fOp aEq (fCB eX (aa (am a8 (aa (fFz (ab 1)) (aa (fFz (ab 0)) (aa (ab 2) ag)))) ag)) (fC (.int 0)))) (ab 0)) (ac 3))
  (ao (pN (cD (ab 3)) (ac 4)
   (b5 (DU 1 (ab 4))))
  (cg (fOp (iK (λ i j=>decide (j<i)) λ i j=>bd j i) (fCB eX (aa (ab 3) ag)) (fC (.int 0))) (ac 2)))))
  (bE (ab 1)))))
theorem uN:Lh aS 1 []:=by delta aS
theorem uO:Hh aS uM [] 5:=by
 intro os P h;unfold aS at h;obtain⟨rows,zs,rfl,hB,q⟩:=h;have sz:=cE;have few:=hB.few;ext
 refine dQ (λ m ρ=>∃ (ls:List Str) (ds:List D) (b:Bool) (x3 x4:Option OV),ρ=[some (.fz (dC zs rows)),some (.fd (ls.map Sum.inr) ds),some (.fz (.bl b)),x3,x4]/\Away zs rows ls/\ds.length=ls.length/\(b=false->∀ n∈ls,¬ Good zs rows ls n)/\m=if b then ls.length+1 else 0)
  _ ⟨rows.map (·.1),rows.map (c8 zs),true,none,none,rfl,⟨hB.nd,λ _ h=>h,λ S hS n hn=>?_⟩,by rw[abK,abK],(λ z=>nomatch z),rfl⟩ ?_
 ·obtain⟨r,hr,e,_⟩:=hS n hn;exact abR.mpr ⟨r,hr,e⟩
 ·rintro m ρ R ⟨ls,ds,b,x3,x4,rfl,O,hl,hb,rfl⟩ kk;have hll:=O.len;ext;refine aw (b=true) Iff.rfl (λ e=>?_) (λ e=>?_)
  ·subst e;ext;rw[show MB (ls.map Sum.inr) ds=ls.map D.str from lE ls];refine aU (λ i as ρ=>∃ x:Option OV,as=((ls.take i).filter (mN zs rows ls)).map .str/\ρ=[x,some (.fz (dC zs rows)),some (.fz (.dct (ls.map Sum.inr) ds)),some (.fz (.bl true)),fzo x3,fzo x4]) ⟨none,by simp,rfl⟩ ?_ ?_
   ·rintro k d as ρ R' hd ⟨x,rfl,rfl⟩ k2;obtain⟨n,hn,rfl⟩:=lD hd;obtain⟨r,hr,rfl⟩:=abR.mp (O.sub n (List.mem_of_getElem? hn));ext;refine qq hB hr ?_;ext;refine⟨aX,?_⟩;ext;refine aw (Good zs rows ls r.1) ?_ (λ hp=>?_) (λ hp=>?_)
    ·rw[b9,abK,← mO hB.nd hr];constructor
     ·intro h;exact aaA (by nofun)
     ·intro h;rw[h];rfl
    ·ext;refine⟨?_,k2 _ _ ⟨some (.fz (.str r.1)),?_,rfl⟩⟩
     ·rw[abK];have:=aa3 (mN zs rows ls) (ls.take k);rw[aao] at this;nofun
     ·rw[aat,hn,aaT,aaf];simp[fH.mpr hp]
    ·refine k2 _ _ ⟨some (.fz (.str r.1)),?_,rfl⟩;rw[aat,hn,aaT,aaf];have:mN zs rows ls r.1=false:=ab1.mpr λ z=>hp (fH.mp z);simp[this]
   ·rintro as ρ ⟨x,rfl,rfl⟩;rw[abK,aal (aac _)];refine⟨⟨_,rfl⟩,?_⟩;ext;generalize hE:ls.filter (mN zs rows ls)=E;have hEsub:∀ z∈E,z∈ls:=λ z hz=>by rw[← hE] at hz;exact(abX.mp hz).1
    have hEnd:E.Nodup:=by rw[← hE];exact O.nd.sublist List.filter_sublist
    have hEl:E.length<=ls.length:=by rw[← hE];exact aa3 ..
    refine bQ (λ i ρ=>∃ (ds':List D) (x:Option OV),ρ=[some (.fz (dC zs rows)),some (.fd ((ls.filter λ z=>decide (z∉E.take i)).map Sum.inr) ds'),some (.fz (.bl true)),some (.fz (.lst (E.map .str))),x]/\ds'.length=(ls.filter λ z=>decide (z∉E.take i)).length) ⟨ds,x4,?_,?_⟩ ?_ ?_
    ·rw[List.take_zero,gg]
    ·rw[List.take_zero,gg,hl]
    ·rintro i d ρ R' hd ⟨ds',x,rfl,hl'⟩ k2;obtain⟨z,hz,rfl⟩:=lD hd;have hzl:z∈ls.filter λ z=>decide (z∉E.take i):=abX.mpr ⟨hEsub z (List.mem_of_getElem? hz),decide_eq_true (qt hEnd hz)⟩;obtain⟨dd,e1⟩:=lF hl' hzl;obtain⟨ds2,e2,hl2⟩:=oE (z:=z) hl';ext;refine⟨rfl,?_⟩;ext;refine uK e1 ?_;refine k2 _ ⟨ds2,some (.fz (.str z)),?_,?_⟩
     ·rw[e2,iE hz];rfl
     ·rw[hl2,iE hz]
    ·rintro ρ ⟨ds',x,rfl,hl'⟩;rw[abK,aal (aac _)] at *;have O2:Away zs rows (ls.filter λ z=>decide (z∉E)):=by rw[← hE];exact O.next
     ext;refine kk _ _ ?_ ⟨_,ds',_,_,_,rfl,O2,hl',?_,rfl⟩
     ·rw[if_pos rfl];split
      ·rename_i h;have hlt:(0:Int)<((E.map D.str).length:Nat):=of_decide_eq_true h;rw[abK] at hlt
       have:(ls.filter λ z=>decide (z∉E)).length<ls.length:=by
        cases E with
        |nil=>simp at hlt
        | cons y E=>
         refine List.length_filter_lt_length_iff_exists.mpr ⟨y,hEsub y (aab ..),?_⟩;simp
       nofun
      ·nofun
     ·intro h n hn g;have h0:¬ (0:Int)<((E.map D.str).length:Nat):=of_decide_eq_false h;rw[abK] at h0;have eE:E=[]:=aaA (by nofun);subst eE;rw[gg] at hn g;rw[List.filter_eq_nil_iff] at hE;exact hE n hn (fH.mpr g)
  ·have e':b=false:=by cases b with|true=>exact absurd rfl e|false=>rfl
   subst e';ext;exact q ls ds ⟨O.nd,O.sub,Fq O.sub (hb rfl),O.all⟩
end
structure BookR(rows:List Rw):Prop where
 b:BookL rows
 rise:JL rows
 free:∀ zs:List Str,(∀ z,z∈zs↔Emp rows z)->uJ zs rows
@[irreducible] def av:Ct:=λ os P=>∃ rows:List Rw,os=[.fz (gf rows)]/\BookR rows/\P (.fz .non) os
abbrev JV:Stmt:=top 46
abbrev MX:FS:=
  (ao (fIf (kQ (eR (am cx (aa (fFz (ab 0)) ag))))
   eD
   bc)
  (fIf (aH (fOp mD (am gw (aa (fFz (ab 0)) ag)) (fC .non)))
   eD
   bc))
theorem MY:Lh av 1 []:=by delta av
theorem MZ:Hh av MX [] 1:=by
 intro os P h;unfold av at h;obtain⟨rows,rfl,B,q⟩:=h;have few:=B.b.few;ext;refine aB ?_;ext;refine uD (by nofun) B.b.ok B.rise ?_;ext;refine cY ?_;ext;refine aB ?_;ext;refine Fs B.b B.free ?_;ext;refine cY ?_;ext;exact q
theorem JW(B:BookR rows)(h:P (.fz .non) [.fz (gf rows)]):av [.fz (gf rows)] P:=by
 unfold av;exact⟨rows,rfl,B,h⟩
structure AskR(rows:List Rw)(n z:Str)(k:Nat):Prop where
 b:BookR rows
 n:cH n
 t:Fd z
 s:z.length<sizeLine
 k:k<=z.length
abbrev zu(rows:List Rw)(n z:Str)(k:Nat):List OV:=[.fz (gf rows),.fz (.str n),.fz (.str z),.fz (.int k)]
@[irreducible] def a9:Ct:=λ os P=>∃ (rows:List Rw) (n z:Str) (k:Nat),os=zu rows n z k/\AskR rows n z k/\P (.fz .non) os
abbrev NM:Stmt:=top 47
abbrev f_rw:FS:=
  (ao (b5 (am av (aa (fFz (ab 0)) ag)))
  (ao (fIf (kQ (eR (am bJ (aa (fFz (ab 1)) ag))))
   eD
   bc)
  (ao (fIf (kQ (eR (am cb (aa (fFz (ab 2)) ag))))
   eD
   bc)
  (fIf (kQ (eR (am bU (aa (fFz (ab 2)) (aa (fFz (ab 3)) ag)))))
   eD
   bc))))
theorem l_rw:Lh a9 4 []:=by delta a9
theorem h_rw:Hh a9 f_rw [] 4:=by
 intro os P h;unfold a9 at h;obtain⟨rows,n,z,k,rfl,A,q⟩:=h;ext;refine JW A.b ?_;ext;refine aB ?_;ext;refine fG A.n ?_;ext;refine cY ?_;ext;refine aB ?_;ext;refine lB A.s A.t ?_;ext;refine cY ?_;ext;refine aB ?_;ext;refine qm A.k (acb A.s) ?_;ext;refine cY ?_;ext;exact q
theorem M0(A:AskR rows n z k)(h:P (.fz .non) (zu rows n z k)):a9 (zu rows n z k) P:=by
 unfold a9;exact⟨rows,n,z,k,rfl,A,h⟩
abbrev rsR(rows:List Rw):List (Str×D):=rows.map λ r=>(r.1,aK r.2.1 r.2.2)
abbrev ksR(rows:List Rw):List Key:=(rsR rows).map λ r=>.inr r.1
abbrev dsR(rows:List Rw):List D:=(rsR rows).map (·.2)
theorem lH:∀ rows:List Rw,mF (rows.map dZ)=some (rsR rows)
 |[]=>rfl
 | r::rows=>by
  show (match mF (rows.map dZ) with
   |some q=>some ((r.1,aK r.2.1 r.2.2)::q)
   |none=>none)=_
  rw[lH rows];rfl
theorem uP{Q:List (Str×D)->Prop}(h:Q (rsR rows)):match mF (rows.map dZ) with
  |some rs=>Q rs
  |none=>False:=by rw [lH];exact h
theorem JX(nd:(rows.map (·.1)).Nodup):((rsR rows).map (·.1)).Nodup:=by rw[aav];exact nd
def rlR(w:Str)(p:List Str):Rl:=if w = "none" then .leaf .none else if w = "any" then .leaf .any else if w = "signs" then .leaf (.signs (p.headD "")) else .comp w p
def fM(rows:List Rw):Rls:=λ n=>match rows.find? λ r=>decide (r.1=n) with
 |none=>.leaf .lack
 |some r=>rlR r.2.1 r.2.2
theorem M3(h:iu w p):aK w p=rlD (rlR w p):=by
 obtain⟨zs,_,h⟩:=h;unfold rlR;by_cases h1:w = "none"
 ·rw[if_pos h1];subst h1;rcases h with ⟨_,rfl⟩|⟨y,_⟩|⟨y,_⟩|⟨y,_⟩
  ·rfl
  ·exact absurd y (by decide +kernel)
  ·exact absurd y (by decide +kernel)
  ·exact absurd y (by decide +kernel)
 rw[if_neg h1];by_cases h2:w = "any"
 ·rw[if_pos h2];subst h2;rcases h with ⟨_,rfl⟩|⟨y,_⟩|⟨y,_⟩|⟨y,_⟩
  ·rfl
  ·exact absurd y (by decide +kernel)
  ·exact absurd y (by decide +kernel)
  ·exact absurd y (by decide +kernel)
 rw[if_neg h2];by_cases h3:w = "signs"
 ·rw[if_pos h3];subst h3;rcases h with ⟨y,_⟩|⟨_,z,rfl,_⟩|⟨y,_⟩|⟨y,_⟩
  ·exact absurd y (by decide +kernel)
  ·rfl
  ·exact absurd y (by decide +kernel)
  ·exact absurd y (by decide +kernel)
 rw[if_neg h3];rfl
theorem zv{w':Str}{p':List Str}(h:yr zs w p)(e:rlR w p=.comp w' p'):w' ≠ "signs" /\ 1<=p'.length/\p'.length<=8/\∀ x∈p',x∈zs:=by
 unfold rlR at e;split at e
 ·cases e
 ·rename_i h1;split at e
  ·cases e
  ·rename_i h2;split at e
   ·cases e
   ·rename_i h3;cases e;rcases h with ⟨y|y,_⟩|⟨y,_⟩|⟨_,y1,y2⟩|⟨_,y1,y2,y3⟩
    ·exact absurd y h1
    ·exact absurd y h2
    ·exact absurd y h3
    ·exact⟨h3,by nofun,by nofun,y2⟩
    ·exact⟨h3,y1,y2,y3⟩
theorem uQ(f:Rw->D)(n:Str):∀ rows:List Rw,gq (rows.map λ r=>(.inr r.1:Key)) (rows.map f) (.inr n)=(rows.find? λ r=>decide (r.1=n)).map f
 |[]=>rfl
 | r::rows=>by
  unfold gq;rw[abM,abM,ab5,List.find?_cons,List.find?_cons];by_cases e:r.1=n
  ·rw[show decide ((Sum.inr r.1:Key)=Sum.inr n)=true from decide_eq_true (by rw[e]),show decide (r.1=n)=true from decide_eq_true e];rfl
  ·rw[show decide ((Sum.inr r.1:Key)=Sum.inr n)=false from decide_eq_false λ y=>e (aa6 y),show decide (r.1=n)=false from decide_eq_false e];exact uQ f n rows
theorem oF(B:BookL rows):gu (ksR rows) (dsR rows) (fM rows):=λ n=>by
 have e:gq (ksR rows) (dsR rows) (.inr n)=(rows.find? λ r=>decide (r.1=n)).map λ r=>aK r.2.1 r.2.2:=by
  have:=uQ (λ r=>aK r.2.1 r.2.2) n rows;unfold ksR dsR rsR;rw[aav,aav];exact this
 rw[e];unfold fM
 cases h:rows.find? λ r=>decide (r.1=n) with
 |none=>rfl
 |some r=>exact M3 (B.ok r (List.mem_of_find?_eq_some h)).2
theorem JY(h:∀ r∈rows,ET zs r.2.1 r.2.2)(n:Str):iy (fM rows) (n::zs):=λ m w p e=>by
 unfold fM at e
 cases hf:rows.find? λ r=>decide (r.1=m) with
 |none=>rw[hf] at e;cases e
 | some r=>
  rw[hf] at e;obtain⟨h1,h2,h3,h4⟩:=zv (h r (List.mem_of_find?_eq_some hf)).2 e;exact⟨h1,h2,h3,λ x hx=>aad _ (h4 x hx)⟩
theorem M4(A:AskR rows n z k)(hz:z.length<=10000)(hf:f<sizeLine):∃ zs:List Str,zs.length<=46/\MkOk (fM rows) z zs n k f:=by
 obtain⟨zs,h1,h2⟩:=A.b.b.pool;refine⟨n::zs,by rw[abO];nofun,JY h2 n,aab ..,A.k,?_,?_,?_,hf⟩
 ·rw[sizeLine_eq];nofun
 ·rw[sizeLine_eq,abO];have:(zs.length+1)*(z.length+1)<=46*10001:=Nat.mul_le_mul (by nofun) (by nofun);nofun
 ·rw[sizeLine_eq,abO];nofun
@[irreducible] def bv:Ct:=λ os P=>∃ (rows:List Rw) (n z:Str) (k f:Nat) (r:Res),os=zu rows n z k/\AskR rows n z k/\z.length<=10000/\f<sizeLine/\rdF (fM rows) z f n k=some r/\∀ (zs:List Str) (K:Kp),zs.length<=46->MkOk (fM rows) z zs n k f->KpOk (fM rows) z zs K->((n,k),r)∈K->P (lw K) os
abbrev uR:Stmt:=top 48
abbrev Ft:FS:=
  (ao (b5 (am a9 (aa (fFz (ab 0)) (aa (fFz (ab 1)) (aa (fFz (ab 2)) (aa (fFz (ab 3)) ag))))))
  (ao (cL 4 tK)
  (ao (b5 (am gv (aa (fFz (fCB nV (aa (ab 0) ag))) (aa (fFz (ab 2)) (aa (ab 4) (aa (fFz (ab 1)) (aa (fFz (ab 3)) ag)))))))
  (bE (ab 4)))))
theorem Fu:Lh bv 4 []:=by delta bv
theorem Fv:Hh bv Ft [] 5:=by
 intro os P h;unfold bv at h;obtain⟨rows,n,z,k,f,r,rfl,A,hz,hf,hr,q⟩:=h;obtain⟨zs,hzs,M⟩:=M4 A hz hf;ext;refine M0 A ?_;ext;refine uP ⟨JX A.b.b.nd,?_⟩;ext;refine Fb (K:=[]) (oF A.b.b) M ⟨aaB,(λ _ y=>nomatch y),λ _ y=>nomatch y⟩ hr λ K' hK hin=>?_;ext;exact q zs K' hzs M hK hin
theorem zw(A:AskR rows n z k)(hz:z.length<=10000)(hf:f<sizeLine)(hr:rdF (fM rows) z f n k=some r)(h:∀ (zs:List Str) (K:Kp),zs.length<=46->MkOk (fM rows) z zs n k f->KpOk (fM rows) z zs K->((n,k),r)∈K->P (lw K) (zu rows n z k)):bv (zu rows n z k) P:=by
 unfold bv;exact⟨rows,n,z,k,f,r,rfl,A,hz,hf,hr,h⟩
@[irreducible] def cy:Ct:=λ os P=>∃ (rows:List Rw) (n z:Str) (k f:Nat) (r:Res),os=zu rows n z k/\AskR rows n z k/\z.length<=10000/\f<sizeLine/\rdF (fM rows) z f n k=some r/\∀ a b,P (.ot [.fz (dc r.ln),.fz (.int ((r.far:Int) - (k:Int)+1)),.fl a ((dE [] (t9 (fM rows) z f (n,k))).map bL),.fl b ((c6 r.ls).map .str)]) os
abbrev lI:Stmt:=top 49
abbrev uS:FS:=
  (ao (cg (am bv (aa (fFz (ab 0)) (aa (fFz (ab 1)) (aa (fFz (ab 2)) (aa (fFz (ab 3)) ag))))) (ac 4))
  (ao (cg (fOp aIx (ab 4) (ib (aa (ab 1) (aa (ab 3) ag)))) (jF 3 (bG (ac 5) (bG (ac 6) (bG (ac 7) jE)))))
  (bE (Et (aa (ab 5) (aa (ab 6) (aa (am bS (aa (fFz (fCB nV (aa (ab 0) ag))) (aa (fFz (ab 2)) (aa (fFz (ab 4)) (aa (fFz (ab 1)) (aa (fFz (ab 3)) ag)))))) (aa (fCB jg (aa (ab 7) ag)) ag))))))))
theorem uT:Lh cy 4 []:=by delta cy
theorem uU:Hh cy uS [] 8:=by
 intro os P h;unfold cy at h;obtain⟨rows,n,z,k,f,r,rfl,A,hz,hf,hr,q⟩:=h;ext;refine zw A hz hf hr λ zs K hzs M hK hin=>?_;have T:=hK.res M.r hin;have hl:r.ls.length<=zs.length:=aaz T.nd T.sub;ext;refine⟨(by rw[sizeLine_eq];exact(by decide:(2:Nat)<=16777216)),?_⟩;ext;refine j5 (show iT (kh K) (lu K) [.inr n,.inl (k:Int)]=some (yG k r) from iB hK.nd hin) ?_;ext;refine⟨rfl,?_⟩;ext;refine uP ⟨JX A.b.b.nd,?_⟩;ext;refine qk (oF A.b.b) M hK hr hin ?_;ext;refine lc (zs:=r.ls) (by nofun) ?_;ext;intro as;ext;refine⟨(by rw[sizeLine_eq];exact(by decide:(4:Nat)<=16777216)),?_⟩;ext;exact q _ _
theorem qu(A:AskR rows n z k)(hz:z.length<=10000)(hf:f<sizeLine)(hr:rdF (fM rows) z f n k=some r)(h:∀ a b,P (.ot [.fz (dc r.ln),.fz (.int ((r.far:Int) - (k:Int)+1)),.fl a ((dE [] (t9 (fM rows) z f (n,k))).map bL),.fl b ((c6 r.ls).map .str)]) (zu rows n z k)):cy (zu rows n z k) P:=by
 unfold cy;exact⟨rows,n,z,k,f,r,rfl,A,hz,hf,hr,h⟩
abbrev bA(b0 b1 b2:Int):OV:=.fl [.int b0,.int b1,.int b2]
def WellB(b1 b2 n:Int):Prop:=0<=b1/\b1<2 ^ 200/\0<=b2/\b2<=n
theorem WellB.mono{m n:Int}(h:WellB b1 b2 m)(e:m<=n):WellB b1 b2 n:=⟨h.1,h.2.1,h.2.2.1,Int.le_trans h.2.2.2 e⟩
@[irreducible] def bn:Ct:=λ os P=>∃ (ns:List Int) (k:Nat),os=[.fz (.lst (ns.map .int)),.fz (.int k)]/\∀ z:Int,P (.fz (.int z)) os
abbrev AU:Stmt:=top 51
abbrev JZ:FS:=
  (ao (fIf (aH (fOp (iK (λ i j=>decide (i<j)) bd) (ab 1) (fCB eX (aa (ab 0) ag))))
   (bE (fOp aIx (ab 0) (ab 1)))
   bc)
  (bE (fC (.int 0))))
theorem J0:Lh bn 2 []:=by delta bn
theorem J1:Hh bn JZ [] 2:=by
 intro os P h;unfold bn at h;obtain⟨ns,k,rfl,q⟩:=h;ext;refine aB ?_;ext;refine aw ((k:Int)<(ns.map D.int).length) (by simp) (λ hk=>?_) (λ _=>?_)
 ·ext;have hk':k<ns.length:=by rw[abK] at hk;nofun
  have e:atI (ns.map D.int) (k:Int)=some (.int ns[k]):=cF (by simp[hk'])
  show match atI (ns.map D.int) (k:Int) with
   |some d=>_
   |none=>False
  rw[e];exact q _
 ·ext;exact q _
theorem Fx{ns:List Int}(h:∀ z:Int,P (.fz (.int z)) [.fz (.lst (ns.map .int)),.fz (.int k)]):bn [.fz (.lst (ns.map .int)),.fz (.int k)] P:=by
 unfold bn;exact⟨ns,k,rfl,h⟩
@[irreducible] def bM:Ct:=λ os P=>∃ a b:Int,os=[.fz (.int a),.fz (.int b)]/\0<=a/\a<2 ^ 200/\0<=b/\b<2 ^ 41/\∀ z:Int,0<=z->P (.fz (.int z)) os
abbrev AV:Stmt:=top 52
abbrev J2:FS:=
  (ao (cg (fOp eC (fOp (aIC qb λ i j=>.int (i*j)) (fOp eC (ab 0) (fC (.int 1))) (fC (.int 50219736400000000000000111))) (fOp (aIC qb λ i j=>.int (i*j)) (fOp eC (ab 1) (fC (.int 1))) (fC (.int 7710038100000000000000040117)))) (ac 2))
  (bE (fOp (aIC (λ _ j=>0<j) λ i j=>.int (i % j)) (fOp (aIC tQ λ i j=>.int (i ^ j.toNat)) (ab 2) (fC (.int 5))) (fC (.int 9403300000000000000000000000000000000009043)))))
theorem J3:Lh bM 2 []:=by delta bM
theorem j9{x:Int}(h0:0<=x)(h:x<2 ^ 300):x.natAbs<2 ^ 1000:=by
 have:(2:Nat) ^ 300<2 ^ 1000:=by decide +kernel
 nofun
theorem Ka:Hh bM J2 [] 3:=by
 intro os P h;unfold bM at h;obtain⟨a,b,rfl,a0,a1,b0,b1,q⟩:=h;ext;refine⟨⟨j9 (x:=a+1) (by nofun) (by nofun),by decide +kernel⟩,?_⟩;ext;refine⟨⟨j9 (x:=b+1) (by nofun) (by nofun),by decide +kernel⟩,?_⟩;ext;refine⟨⟨by decide,by decide,j9 (x:=(a+1)*50219736400000000000000111+(b+1)*7710038100000000000000040117) (by nofun) (by nofun)⟩,?_⟩;ext;refine⟨(by decide:(0:Int)<9403300000000000000000000000000000000009043),?_⟩;ext;exact q _ (Int.emod_nonneg _ (by decide))
theorem uV{a b:Int}(a0:0<=a)(a1:a<2 ^ 200)(b0:0<=b)(b1:b<2 ^ 41)(h:∀ z:Int,0<=z->P (.fz (.int z)) [.fz (.int a),.fz (.int b)]):bM [.fz (.int a),.fz (.int b)] P:=by
 unfold bM;exact⟨a,b,rfl,a0,a1,b0,b1,h⟩
@[irreducible] def bW:Ct:=λ os P=>∃ (z:Int) (k:Nat),os=[.fz (.int z),.fz (.int k)]/\k<=100/\∀ b0 b1 b2,0<=b0->WellB b1 b2 0->P (bA b0 b1 b2) os
abbrev AW:Stmt:=top 53
abbrev Kb:FS:=
  (ao (cg (fOp eC (fOp (aIC CMul λ i j=>.int (i*j)) (fOp (aIC (λ _ j=>0<j) λ i j=>.int (i % j)) (ab 0) (fC (.int 9403300000000000000000000000000000000009043))) (fC (.int 128))) (ab 1)) (ac 2))
  (ao (fIf (aH (fOp (iK (λ i j=>decide (j<=i)) λ i j=>!bd i j) (ab 0) (fOp (aIC Gd λ i j=>.int (i ^ j.toNat)) (fC (.int 10)) (fC (.int 18)))))
   (bE (jD (aa (fOp (aI0 λ i j=>.int (i - j)) (ab 0) (fOp (aIC Gd λ i j=>.int (i ^ j.toNat)) (fC (.int 10)) (fC (.int 18)))) (aa (ab 2) (aa (fC (.int 0)) ag)))))
   bc)
  (bE (jD (aa (am bM (aa (fFz (ab 2)) (aa (fC (.int 0)) ag))) (aa (ab 2) (aa (fC (.int 0)) ag)))))))
theorem Kc:Lh bW 2 []:=by delta bW
theorem Kd:Hh bW Kb [] 3:=by
 intro os P h;unfold bW at h;obtain⟨z,k,rfl,hk,q⟩:=h;have m0:=Int.emod_nonneg z (show (9403300000000000000000000000000000000009043:Int)≠0 by decide);have m1:=Int.emod_lt_of_pos z (show (0:Int)<9403300000000000000000000000000000000009043 by decide);have s0:0<=z % 9403300000000000000000000000000000000009043*128+(k:Int):=by nofun
 have s1:z % 9403300000000000000000000000000000000009043*128+(k:Int)<2 ^ 200:=by nofun
 ext;refine⟨(by decide:(0:Int)<9403300000000000000000000000000000000009043),?_⟩;ext;refine⟨.inr ⟨by decide,by decide⟩,?_⟩;ext;refine aB ?_;ext;refine⟨⟨by decide,by decide,by decide⟩,?_⟩;ext;refine aw ((10:Int) ^ (18:Int).toNat<=z) decide_eq_true_iff (λ hz=>?_) (λ hz=>?_)
 ·ext;refine⟨⟨by decide,by decide,by decide⟩,?_⟩;ext;refine⟨by show 3<=sizeLine;decide,?_⟩;ext;exact q _ _ _ (Int.sub_nonneg_of_le hz) ⟨s0,s1,Int.le_refl _,Int.le_refl _⟩
 ·ext;refine uV s0 s1 (Int.le_refl _) (by decide) λ y hy=>?_;ext;refine⟨by show 3<=sizeLine;decide,?_⟩;ext;exact q _ _ _ hy ⟨s0,s1,Int.le_refl _,Int.le_refl _⟩
theorem Fy{z:Int}(hk:k<=100)(h:∀ b0 b1 b2,0<=b0->WellB b1 b2 0->P (bA b0 b1 b2) [.fz (.int z),.fz (.int k)]):bW [.fz (.int z),.fz (.int k)] P:=by
 unfold bW;exact⟨z,k,rfl,hk,h⟩
@[irreducible] def ai:Ct:=λ os P=>∃ (b0 b1 b2 m n:Int),os=[bA b0 b1 b2,.fz (.int m)]/\WellB b1 b2 n/\n<2 ^ 40/\0<m/\m<1000000/\∀ r b0' b1' b2',0<=r->r<m->WellB b1' b2' (n+1)->P (.fz (.int r)) [bA b0' b1' b2',.fz (.int m)]
abbrev AX:Stmt:=top 54
abbrev Ke:FS:=
  (ao (fIf (aH (fOp aEq (fOp aIx (ab 0) (fC (.int 0))) (fC (.int 0))))
   (ao (nB 0 (fOp eC (fOp aIx (ab 0) (fC (.int 2))) (fC (.int 1))) (fC (.int 2)))
  (nB 0 (am bM (aa (fFz (fOp aIx (ab 0) (fC (.int 1)))) (aa (fFz (fOp aIx (ab 0) (fC (.int 2)))) ag))) (fC (.int 0))))
   bc)
  (ao (cg (fOp (aIC (λ _ j=>0<j) λ i j=>.int (i % j)) (fOp aIx (ab 0) (fC (.int 0))) (ab 1)) (ac 2))
  (ao (nB 0 (fOp (aIC Gc λ i j=>.int (i / j)) (fOp aIx (ab 0) (fC (.int 0))) (ab 1)) (fC (.int 0)))
  (bE (ab 2)))))
theorem Kf:Lh ai 2 [0]:=by delta ai
theorem Kg:Hh ai Ke [0] 3:=by
 intro os P h;unfold ai at h;obtain⟨b0,b1,b2,m,n,rfl,⟨h1,h1',h2,h2'⟩,hn,hm,hm',q⟩:=h;ext;refine aB ?_;ext;refine⟨aX,?_⟩;ext;refine aw (b0=0) b9 (λ hk=>?_) (λ hk=>?_)
 ·ext;refine⟨rfl,?_⟩;ext;refine uV h1 h1' (show 0<=b2+1 by nofun) (by nofun) λ y hy=>?_;ext;refine⟨rfl,?_⟩;ext;refine⟨hm,?_⟩;ext;refine⟨⟨hm,by nofun⟩,?_⟩;ext;refine⟨rfl,?_⟩;ext;exact q _ _ _ _ (Int.emod_nonneg _ (by nofun)) (Int.emod_lt_of_pos _ hm) ⟨h1,h1',by nofun,by nofun⟩
 ·ext;refine⟨hm,?_⟩;ext;refine⟨⟨hm,by nofun⟩,?_⟩;ext;refine⟨rfl,?_⟩;ext;exact q _ _ _ _ (Int.emod_nonneg _ (by nofun)) (Int.emod_lt_of_pos _ hm) ⟨h1,h1',h2,by nofun⟩
theorem bK{m:Int}(n:Int)(hb:WellB b1 b2 n)(hn:n<2 ^ 40)(hm:0<m)(hm':m<1000000)(h:∀ r b0' b1' b2',0<=r->r<m->WellB b1' b2' (n+1)->P (.fz (.int r)) [bA b0' b1' b2',.fz (.int m)]) :
  ai [bA b0 b1 b2,.fz (.int m)] P:=by
 unfold ai;exact⟨b0,b1,b2,m,n,rfl,hb,hn,hm,hm',h⟩
def Kh(z:Str):Prop:=z.cps.toList.length=1/\∀ c∈z.cps.toList,32<=c/\c<=126/\c≠37
@[irreducible] def bN:Ct:=λ os P=>∃ (b0 b1 b2 n:Int),os=[bA b0 b1 b2]/\WellB b1 b2 n/\n<2 ^ 39/\∀ (c:Nat) (b0' b1' b2':Int),c∈qd.cps.toList->WellB b1' b2' (n+1)->P (.fz (.str ⟨#[c]⟩)) [bA b0' b1' b2']
abbrev AY:Stmt:=top 56
abbrev Ki:FS:=
  (ao (cg (fC (.str " !\"#$&'()*+,-./0123456789:;<=>?\x40ABCDEFGHIJKLMNOPQRSTUVWXYZ[\\]^_`abcdefghijklmnopqrstuvwxyz{|}~")) (ac 1))
  (bE (fOp aIx (ab 1) (am ai (aa (ab 0) (aa (fC (.int 94)) ag))))))
theorem Kj:Lh bN 1 [0]:=by delta bN
theorem Kk:Hh bN Ki [0] 2:=by
 intro os P h;unfold bN at h;obtain⟨b0,b1,b2,n,rfl,hb,hn,q⟩:=h;have hn0:0<=n:=Int.le_trans hb.2.2.1 hb.2.2.2;ext;refine bK n hb (by nofun) (by decide) (by decide) λ r b0 b1 b2 r0 r1 hb1=>?_;ext;refine⟨by decide +kernel,?_⟩;refine jT r0 (by rw[show qd.cps.toList.length=94 from tV];exact r1) λ d hdm=>?_;ext;exact q d _ _ _ hdm hb1
theorem oG(n:Int)(hb:WellB b1 b2 n)(hn:n<2 ^ 39)(h:∀ (c:Nat) (b0' b1' b2':Int),c∈qd.cps.toList->WellB b1' b2' (n+1)->P (.fz (.str ⟨#[c]⟩)) [bA b0' b1' b2']):bN [bA b0 b1 b2] P:=by
 unfold bN;exact⟨b0,b1,b2,n,rfl,hb,hn,h⟩
@[irreducible] def bB:Ct:=λ os P=>∃ (b0 b1 b2 n:Int),os=[bA b0 b1 b2]/\WellB b1 b2 n/\n<2 ^ 38/\∀ (z:Str) (b0' b1' b2':Int),cR z->WellB b1' b2' (n+42)->P (.fz (aK "signs" [z])) [bA b0' b1' b2']
abbrev uW:Stmt:=top 57
abbrev Fz:FS:=
  (ao (cg (fOp eC (fC (.int 1)) (am ai (aa (ab 0) (aa (fFz (fOp aIx (jD (aa (fC (.int 5)) (aa (fC (.int 40)) ag))) (fOp (aIC Gc λ i j=>.int (i / j)) (am ai (aa (ab 0) (aa (fC (.int 8)) ag))) (fC (.int 7))))) ag)))) (ac 1))
  (bE (ib (aa (fC (.str "signs")) (aa (xz (fC (.str "")) (gG (ci [0] 1 (eB (aa (ab 1) ag)) (ac 0) kS (am bN (aa (ab 1) ag))))) ag)))))
theorem FB:Lh bB 1 [0]:=by delta bB
theorem M5{a b:Int}{i:Int}(h0:0<=i)(h:i<2)(q:∀ m,(m=a∨m=b)->Q (.int m)):match atI [D.int a,D.int b] i with
  |some d=>Q d
  | none=>False:=jS h0 h fun d hd=>by
 simp only[List.mem_cons,List.not_mem_nil,or_false] at hd;rcases hd with rfl|rfl
 ·exact q a (.inl rfl)
 ·exact q b (.inr rfl)
theorem lez(n:Nat)(h:autoParam (n<=16777216) L2.aD._auto_1):n<=sizeLine:=by rw[sizeLine_eq];exact h
theorem FC:Hh bB Fz [0] 2:=by
 intro os P h;unfold bB at h;obtain⟨b0,b1,b2,n,rfl,hb,hn,q⟩:=h;have sz:=cE;have hn0:0<=n:=Int.le_trans hb.2.2.1 hb.2.2.2;ext;refine⟨lez 2,?_⟩;ext;refine bK n hb (by nofun) (by decide) (by decide) λ r b0 b1 b2 r0 r1 hb1=>?_;ext;refine⟨⟨by decide,by decide⟩,?_⟩;ext;refine M5 (by nofun) (by nofun) λ m hm=>?_;ext;refine bK (n+1) hb1 (by nofun) (by nofun) (by nofun) λ r3 b0 b1 b2 r30 r31 hb3=>?_;ext;refine⟨⟨by nofun,by nofun⟩,?_⟩;ext
 refine aU (λ i as ρ=>∃ (zs:List Str) (x:Option OV) (b0 b1 b2:Int),as=zs.map .str/\zs.length=i/\(∀ z∈zs,Kh z)/\WellB b1 b2 (n+2+i) /\
   ρ=[x,some (bA b0 b1 b2),some (.fz (.int (1+r3)))])
  ⟨[],none,b0,b1,b2,rfl,rfl,(λ _ h=>by cases h),hb3.mono (by nofun),rfl⟩ ?_ ?_
 ·rintro i d as ρ R hd ⟨zs,x,b0,b1,b2,rfl,hl,hz,hb4,rfl⟩ k;obtain⟨hi,rfl⟩:=bH hd;ext;refine cU ?_;ext;refine oG _ hb4 (by nofun) λ d b0 b1 b2 hdm hb5=>?_;ext;refine⟨by rw[abK];nofun,k _ _ ⟨zs++[⟨#[d]⟩],some (.fz (.int (0+i))),b0,b1,b2,by rw[aaf];rfl,by simp[hl],λ z hz'=>?_,hb5.mono (by nofun),rfl⟩⟩;rcases abL.mp hz' with h|h
  ·exact hz z h
  ·have:z=⟨#[d]⟩:=(by exists h);rw[this]
   exact⟨rfl,λ y hy=>by
    have:y=d:=(by exists hy);rw[this];exact nW d hdm⟩
 ·rintro as ρ ⟨zs,x,b0,b1,b2,rfl,hl,hz,hb4,rfl⟩;rw[ck] at hl hb4;have hsub:(iU zs).length<=zs.length:=xD zs;ext;refine ip ⟨⟨by show _<4096;nofun,by nofun⟩,?_⟩;have hmz:∀ z∈iU zs,Kh z:=λ z hz'=>hz z (gF.mp hz')
  have hpos:1<=(iU zs).length:=by
   have h0:1<=zs.length:=by nofun
   cases zs with
   |nil=>simp at h0
   |cons z zs=>exact List.length_pos_of_mem (gF.mpr (aab ..))
  have hs1:=mx zs;have hs2:=fV zs;generalize iU zs=ss at hsub hmz hpos hs1 hs2 ⊢;obtain⟨cs,rfl⟩:=nX λ z hz'=>(hmz z hz').1;have hpw:=qe hs1 hs2;rw[abK] at hsub hpos;ext
  have hls:((cs.map λ c=>(⟨#[c]⟩:Str)).map (·.length)).sum=cs.length:=by
   rw[aav];exact gE cs
  refine ip ⟨by rw[hls,abK];show cs.length+cs.length*0<=_;nofun,?_⟩;have hg:(Builtin.Str.glued (Str.ofString "") (cs.map λ c=>(⟨#[c]⟩:Str))).cps.toList=cs:=(g6 _).trans (jj cs);ext;refine⟨lez 2,?_⟩;ext;refine q _ _ _ _ ⟨by rw[hg];nofun,by rw[hg];nofun,by rw[hg];exact hpw,λ c hc=>?_⟩ (hb4.mono (by nofun));rw[hg] at hc;exact(hmz ⟨#[c]⟩ (abR.mpr ⟨c,hc,rfl⟩)).2 c (by simp)
theorem oH{n:Int}(hb:WellB b1 b2 n)(hn:n<2 ^ 38)(h:∀ (z:Str) (b0' b1' b2':Int),cR z->WellB b1' b2' (n+42)->P (.fz (aK "signs" [z])) [bA b0' b1' b2']) :
  bB [bA b0 b1 b2] P:=by
 unfold bB;exact⟨b0,b1,b2,n,rfl,hb,hn,h⟩
def AZ(o:OV)(ns:List Str):Prop:=o=.fl (ns.map .str)∨o=.fz (.lst (ns.map .str))
@[irreducible] def aP:Ct:=λ os P=>∃ (b0 b1 b2 n:Int) (ns:List Str) (o:OV),os=[bA b0 b1 b2,o]/\AZ o ns/\WellB b1 b2 n/\n<2 ^ 38/\(∀ z∈ns,cH z)/\ns.length<=20 /\
 ∀ (z:Str) (b0' b1' b2':Int),cH z->z∉ns->WellB b1' b2' (n+13)->P (.fz (.str z)) [bA b0' b1' b2',o]
abbrev lJ:Stmt:=top 55
abbrev uX:FS:=
  (ao (cg (fC (.str "abcdefghijklmnopqrstuvwxyz")) (ac 2))
  (ao (cg (am ai (aa (ab 0) (aa (fC (.int 3)) ag))) (ac 3))
  (ao (cg (fOp aIx (ab 2) (am ai (aa (ab 0) (aa (fC (.int 26)) ag)))) (ac 4))
  (ao (cg (xz (fC (.str "")) (ci [2,0] 1 (eB (aa (fOp eC (fC (.int 1)) (am ai (aa (ab 0) (aa (fC (.int 8)) ag)))) ag)) (ac 0) kS (fOp aIx (ab 3) (am ai (aa (ab 1) (aa (fC (.int 26)) ag)))))) (ac 5))
  (ao (fIf (Gi (aH (fOp (iK (λ i j=>decide (j<i)) λ i j=>bd j i) (ab 3) (fC (.int 0)))) (aH (fOp aNe (ab 1) (jD ag))))
   (ao (cg (fOp aIx (ab 1) (am ai (aa (ab 0) (aa (fFz (fCB eX (aa (ab 1) ag))) ag)))) (ac 6))
  (ao (cg (am ai (aa (ab 0) (aa (fFz (fOp eC (fCB eX (aa (ab 6) ag)) (fC (.int 1)))) ag))) (ac 7))
  (cg (fSl aSl (fOp eC (fOp eC (fSl aSl (ab 6) eO (mo (ab 7))) (ab 4)) (fSl aSl (ab 6) (mo (fOp (aI0 λ i j=>.int (i - j)) (fOp eC (ab 7) (ab 3)) (fC (.int 1)))) eO)) eO (mo (fC (.int 8)))) (ac 5))))
   bc)
  (ao (cg (fOp eC (fOp eC (jD (aa (ab 5) ag)) (ci [2] 1 (eB (aa (fC (.int 26)) ag)) (ac 0) kS (fOp aIx (ab 3) (ab 0)))) (ci [2] 1 (eB (aa (fC (.int 26)) ag)) (ac 0) kS (fOp eC (fOp aIx (ab 3) (ab 0)) (fOp aIx (ab 3) (ab 0))))) (ac 8))
  (bE (fOp aIx (ci [1] 1 (cD (ab 8)) (ac 0) (aH (fOp nF (ab 0) (ab 2))) (ab 0)) (fC (.int 0))))))))))
theorem uY:Lh aP 2 [0,1]:=by delta aP
theorem iF(zs:List Str):okDs (zs.map D.str)=true:=by
 induction zs with
 |nil=>rfl
 |cons z zs ih=>exact ih
theorem eV(zs:List Str):deps (toDVs (zs.map D.str))=0:=by
 induction zs with
 |nil=>rfl
 |cons z zs ih=>exact(Nat.zero_max _).trans ih
theorem zy(zs:List Str):dep (vG (.lst (zs.map D.str)))<=40:=aau (abo (Nat.le_of_eq (eV zs))) (by decide)
theorem zB :DO (.lst (zs.map D.str)) (.lst []):=⟨iF zs,rfl,zy zs⟩
theorem FD :(!dEq (.lst (zs.map D.str)) (.lst []))=true↔zs≠[]:=by
 cases zs with
 |nil=>exact⟨λ h=>Bool.noConfusion (show false=true from h),λ h=>absurd rfl h⟩
 |cons z zs=>exact⟨λ _=>List.cons_ne_nil z zs,λ _=>rfl⟩
abbrev mP:List Str:=abc.cps.toList.map λ c=>⟨#[c]⟩
theorem FF:mP.Nodup:=by decide +kernel
theorem ka:mP.length=26:=by decide +kernel
theorem iG(h:c∈abc.cps.toList):AH [c]:=λ d hd=>by
 have:d=c:=(by exists hd);rw[this];exact ES c h
theorem uZ(h:z∈mP):cH z:=by
 obtain⟨c,hc,rfl⟩:=abR.mp h;exact⟨aac 1,(by decide:(1:Nat)<=8),iG hc⟩
theorem zE(h:ns.length<=20):∃ z∈mP,z∉ns:=by
 refine Classical.byContradiction λ h'=>?_;have hs:∀ z∈mP,z∈ns:=λ z hz=>Classical.byContradiction λ e=>h' ⟨z,hz,e⟩;have:=aaz FF hs;rw[ka] at this;nofun
theorem A0(h:i<26):∃ c,abc.cps.toList[i]?=some c/\c∈abc.cps.toList:=by
 have hi:i<abc.cps.toList.length:=by rw[mI];exact h
 exact⟨_,List.getElem?_eq_getElem hi,aaH hi⟩
theorem va:Hh aP uX [0,1] 9:=by
 intro os P h;unfold aP at h;obtain⟨b0,b1,b2,n,ns,o,rfl,ho,hb,hn,hns,hnl,q⟩:=h;have sz:=cE;have hn0:0<=n:=Int.le_trans hb.2.2.1 hb.2.2.2;ext;refine bK n hb (by nofun) (by decide) (by decide) λ way b0 b1 b2 w0 w1 hb1=>?_;ext;refine bK (n+1) hb1 (by nofun) (by decide) (by decide) λ r b0 b1 b2 r0 r1 hb2=>?_;ext;refine⟨by decide +kernel,?_⟩;refine jT r0 (by rw[show (Str.ofString "abcdefghijklmnopqrstuvwxyz").cps.toList.length=26 from mI];exact r1) λ c hcm=>?_;have cl1:=iG hcm;ext;refine bK (n+1+1) hb2 (by nofun) (by decide) (by decide) λ r3 b0 b1 b2 r30 r31 hb3=>?_;ext;refine⟨⟨by nofun,by nofun⟩,?_⟩;ext
 refine aU (λ i as ρ=>∃ (zs:List Str) (x:Option OV) (b0 b1 b2:Int),as=zs.map .str/\zs.length=i/\(∀ z∈zs,z.cps.toList.length=1/\AH z.cps.toList)/\WellB b1 b2 (n+3+i) /\
   ρ=[x,some (bA b0 b1 b2),some o,some (.fz (.str abc)),some (.fz (.int way)),some (.fz (.str ⟨#[c]⟩)),none,none,none,none])
  ⟨[],none,b0,b1,b2,rfl,rfl,(λ _ h=>by cases h),hb3.mono (by nofun),rfl⟩ ?_ ?_
 ·rintro i d as ρ R hd ⟨zs,x,b0,b1,b2,rfl,hl,hz,hb4,rfl⟩ k;obtain⟨hi,rfl⟩:=bH hd;ext;refine cU ?_;ext;refine bK _ hb4 (by nofun) (by decide) (by decide) λ r5 b0 b1 b2 r50 r51 hb5=>?_;ext;refine⟨by decide +kernel,?_⟩;refine jT r50 (by rw[show (Str.ofString "abcdefghijklmnopqrstuvwxyz").cps.toList.length=26 from mI];exact r51) λ e hem=>?_;ext;refine⟨by rw[abK];nofun,k _ _ ⟨zs++[⟨#[e]⟩],some (.fz (.int (0+i))),b0,b1,b2,by rw[aaf];rfl,by simp[hl],λ z hz'=>?_,hb5.mono (by nofun),rfl⟩⟩;rcases abL.mp hz' with h|h
  ·exact hz z h
  ·have:z=⟨#[e]⟩:=(by exists h);rw[this];exact⟨rfl,iG hem⟩
 ·rintro as ρ ⟨zs,x,b0,b1,b2,rfl,hl,hz,hb4,rfl⟩;rw[ck] at hl hb4
  have hlz:(zs.map λ z=>z.cps.toList).flatten.length=zs.length:=by
   rw[List.length_flatten,aav];have:zs.map ((λ l:List Nat=>l.length) ∘ λ z:Str=>z.cps.toList)=zs.map λ _=>1:=aa9 λ z hz'=>(hz z hz').1;rw[show (List.map (List.length ∘ λ z:Str=>z.cps.toList) zs)=zs.map λ _=>1 from this];exact gE zs
  have hls:(zs.map (·.length)).sum=zs.length:=by
   have:zs.map (·.length)=zs.map λ _=>1:=aa9 λ z hz'=>by rw[cj];exact(hz z hz').1
   rw[this];exact gE zs
  have hg:(Builtin.Str.glued (Str.ofString "") zs).cps.toList=(zs.map λ z=>z.cps.toList).flatten:=g6 zs
  have hN:cH (Builtin.Str.glued (Str.ofString "") zs):=by
   refine⟨by rw[hg,hlz];nofun,by rw[hg,hlz];nofun,?_⟩;rw[hg];intro y hy;obtain⟨l,hl',hy'⟩:=List.mem_flatten.mp hy;obtain⟨z,hz',rfl⟩:=abR.mp hl';exact(hz z hz').2 y hy'
  ext;refine ip ⟨by rw[hls];show zs.length+zs.length*0<=_;nofun,?_⟩;generalize Builtin.Str.glued (Str.ofString "") zs=nm at hN ⊢;ext;refine mE (λ ρ=>∃ (z:Str) (b0 b1 b2:Int) (x6 x7:Option OV),cH z/\WellB b1 b2 (n+13)/\ρ=[some (bA b0 b1 b2),some o,some (.fz (.str abc)),some (.fz (.int way)),some (.fz (.str ⟨#[c]⟩)),some (.fz (.str z)),x6,x7,none]) ?_ ?_
  ·rintro ρ ⟨z,b0,b1,b2,x6,x7,hz,hb,rfl⟩;ext;refine⟨lez 1,?_⟩;ext;refine⟨⟨by decide,by decide⟩,?_⟩;ext;refine aU (λ i as ρ=>∃ (x:Option OV),as=(mP.take i).map .str/\ρ=[x,some (bA b0 b1 b2),some o,some (.fz (.str abc)),some (.fz (.int way)),some (.fz (.str ⟨#[c]⟩)),some (.fz (.str z)),x6,x7,none]) ⟨none,rfl,rfl⟩ ?_ ?_
   ·rintro i d as ρ R hd ⟨x,rfl,rfl⟩ k;obtain⟨hi,rfl⟩:=bH hd;obtain⟨e,he,hem⟩:=A0 (i:=i) (by nofun);have ea:atI abc.cps.toList ((0:Int)+i)=some e:=by rw[Int.zero_add];exact cF he
    ext;refine cU ?_;ext;refine⟨by decide +kernel,?_⟩;rw[ea];ext;refine⟨by rw[abK,aao];nofun,k _ _ ⟨_,?_,rfl⟩⟩;rw[aat,List.getElem?_map,he,aaf];rfl
   ·rintro as ρ ⟨x,rfl,rfl⟩;rw[ck,show mP.take (26:Int).toNat=mP from by decide +kernel];ext;refine⟨by show 1+(mP.map D.str).length<=sizeLine;rw[abK,ka];nofun,?_⟩;ext;refine⟨⟨by decide,by decide⟩,?_⟩;ext;refine aU (λ i as ρ=>∃ (x:Option OV) (ws:List Str),as=ws.map .str/\ws.length=i/\(∀ y∈ws,cH y)/\ρ=[x,some (bA b0 b1 b2),some o,some (.fz (.str abc)),some (.fz (.int way)),some (.fz (.str ⟨#[c]⟩)),some (.fz (.str z)),x6,x7,none]) ⟨none,[],rfl,rfl,(λ _ h=>nomatch h),rfl⟩ ?_ ?_
    ·rintro i d as ρ R hd ⟨x,ws,rfl,hwl,hws,rfl⟩ k;obtain⟨hi,rfl⟩:=bH hd;obtain⟨e,he,hem⟩:=A0 (i:=i) (by nofun);have ea:atI abc.cps.toList ((0:Int)+i)=some e:=by rw[Int.zero_add];exact cF he
     ext;refine cU ?_;ext;refine⟨by decide +kernel,?_⟩;rw[ea];ext;refine⟨by decide +kernel,?_⟩;rw[ea];ext;refine⟨by show 1+1<=sizeLine;nofun,?_⟩;ext;refine⟨by rw[abK];nofun,k _ _ ⟨_,ws++[⟨#[e]⟩++⟨#[e]⟩],by rw[aaf];rfl,by rw[aag,hwl];rfl,λ y hy=>?_,rfl⟩⟩;rcases abL.mp hy with h|h
     ·exact hws y h
     ·rw[abN.mp h];exact⟨(by decide:(1:Nat)<=2),(by decide:(2:Nat)<=8),jX (iG hem) (iG hem)⟩
    ·rintro as ρ ⟨x,ws,rfl,hwl,hws,rfl⟩;rw[ck] at hwl;have eL:[D.str z]++mP.map D.str++ws.map D.str=(z::(mP++ws)).map D.str:=by rw[abM,aaf];rfl
     have hL1:∀ y∈z::(mP++ws),cH y:=λ y hy=>by
      rcases abQ.mp hy with rfl|hy
      ·exact hz
      ·rcases abL.mp hy with hy|hy
       ·exact uZ hy
       ·exact hws y hy
     have hL2:∃ y∈z::(mP++ws),y∉ns:=by
      obtain⟨y,hy,hn⟩:=zE hnl;exact⟨y,aad _ (aam _ hy),hn⟩
     have hL3:(z::(mP++ws)).length<=60:=by rw[abO,aag,ka];nofun
     ext;refine⟨by rw[← aag,eL,abK];nofun,?_⟩;rw[eL];generalize z::(mP++ws)=L at hL1 hL2 hL3;ext;refine aU (λ i as ρ=>∃ (x:Option OV),as=((L.take i).filter λ y=>decide (y∉ns)).map .str/\ρ=[x,some (bA b0 b1 b2),some o,some (.fz (.str abc)),some (.fz (.int way)),some (.fz (.str ⟨#[c]⟩)),some (.fz (.str z)),x6,x7,some (.fz (.lst (L.map .str)))]) ⟨none,rfl,rfl⟩ ?_ ?_
     ·rintro i d as ρ R hd ⟨x,rfl,rfl⟩ k
      obtain⟨y,hy,rfl⟩:∃ y,L[i]?=some y/\d=.str y:=by
       rw[List.getElem?_map,aap] at hd;obtain⟨r,h1,h2⟩:=hd;exact⟨r,h1,h2.symm⟩
      have hfl:=aa3 (λ y=>decide (y∉ns)) (L.take i);rw[aao] at hfl;rcases ho with rfl|rfl
      all_goals
       ext;refine⟨⟨rfl,xC ns⟩,?_⟩;ext;refine aw (y∉ns) (by rw[aaW,ab1,Ne,fA]) (λ hp=>?_) (λ hp=>?_)
       ·ext;refine⟨by rw[abK];nofun,k _ _ ⟨_,?_,rfl⟩⟩;rw[aat,hy,aaT,aaf];simp[hp]
       ·refine k _ _ ⟨_,?_,rfl⟩;rw[aat,hy,aaT,aaf];have hp':=Classical.not_not.mp hp;simp[hp']
     ·rintro as ρ ⟨x,rfl,rfl⟩;rw[abK,aal (aac _)]
      obtain⟨y,r,e⟩:∃ y r,L.filter (λ y=>decide (y∉ns))=y::r:=by
       cases h:L.filter (λ y=>decide (y∉ns)) with
       | nil=>
        obtain⟨y,hy,hn⟩:=hL2;have:y∈L.filter (λ y=>decide (y∉ns)):=abX.mpr ⟨hy,decide_eq_true hn⟩;rw[h] at this;cases this
       |cons y r=>exact⟨y,r,rfl⟩
      have hm:y∈L.filter (λ y=>decide (y∉ns)):=by rw[e];exact aab ..
      obtain⟨m1,m2⟩:=abX.mp hm;rw[e,abM];ext;refine cV ?_;ext;exact q _ _ _ _ (hL1 y m1) (of_decide_eq_true m2) hb
  ·intro rest;ext;refine aw (0<way) decide_eq_true_iff (λ hw=>?_) (λ hw=>?_)
   ·rcases ho with rfl|rfl
    all_goals
     ext;refine⟨aaq _,?_⟩;ext;refine⟨zB,?_⟩;ext;refine aw (ns≠[]) FD (λ hne=>?_) (λ hne=>rest _ ⟨nm,b0,b1,b2,_,_,hN,hb4.mono (by nofun),rfl⟩);have hlp:0<ns.length:=List.length_pos_iff.mpr hne;have hlm:(ns.map D.str).length=ns.length:=abK ..;ext;refine bK _ hb4 (by nofun) (by nofun) (by nofun) λ r6 b0 b1 b2 r60 r61 hb6=>?_;ext;refine jS r60 (by nofun) λ d hd=>?_;obtain⟨old,ho,rfl⟩:=abR.mp hd;obtain⟨o1,o2,o3⟩:=hns old ho;have hol:old.length=old.cps.toList.length:=cj old;ext;refine⟨by nofun,?_⟩;ext;refine bK _ hb6 (by nofun) (by nofun) (by nofun) λ at' b0 b1 b2 a0 a1 hb7=>?_;obtain⟨k,rfl⟩:=aba a0;ext;refine⟨by nofun,?_⟩;have hy1:=(jY old none (some (k:Int))).trans (mh old.cps.toList k);have l1:(jO old none (some (k:Int))).length=k:=by rw[rJ hy1,aao];nofun
     ext;refine⟨by rw[l1];show k+1<=sizeLine;nofun,?_⟩;ext;refine⟨by nofun,?_⟩;obtain⟨j,ej⟩:∃ j:Nat,(k:Int)+way - 1=j:=⟨((k:Int)+way - 1).toNat,by nofun⟩;have hy2:(jO old (some ((k:Int)+way - 1)) none).cps.toList=old.cps.toList.drop j:=(jY ..).trans (by rw[ej];exact kL ..);have l2:(jO old (some ((k:Int)+way - 1)) none).length=old.cps.toList.length - j:=by rw[rJ hy2,abB]
     have l12:(jO old none (some (k:Int))++(⟨#[c]⟩:Str)).length=k+1:=by rw[cj,fP,aag,← cj,l1];rfl
     ext;refine⟨by rw[l12,l2];nofun,?_⟩;have l3:(jO old none (some (k:Int))++(⟨#[c]⟩:Str)++jO old (some ((k:Int)+way - 1)) none).length=k+1+(old.cps.toList.length - j):=by rw[cj,fP,aag,← cj,← cj,l12,l2]
     have h3:AH (jO old none (some (k:Int))++(⟨#[c]⟩:Str)++jO old (some ((k:Int)+way - 1)) none).cps.toList:=by
      rw[fP,fP,hy1,hy2];exact jX (jX (λ d hd=>o3 d (abD hd)) cl1) λ d hd=>o3 d (List.mem_of_mem_drop hd)
     generalize jO old none (some (k:Int))++(⟨#[c]⟩:Str)++jO old (some ((k:Int)+way - 1)) none=y at l3 h3 ⊢;ext;refine⟨by nofun,?_⟩;have hy4:=(jY y none (some ((8:Nat):Int))).trans (mh y.cps.toList 8);have hyl:=cj y;refine rest _ ⟨jO y none (some 8),b0,b1,b2,_,_,⟨?_,?_,?_⟩,hb7.mono (by nofun),rfl⟩
     ·exact(by rw[hy4,aao];nofun:1<=(jO y none (some ((8:Nat):Int))).cps.toList.length)
     ·exact(by rw[hy4,aao];nofun:(jO y none (some ((8:Nat):Int))).cps.toList.length<=8)
     ·exact λ d hd=>h3 d (wz (by rw[← jY];exact hd))
   ·ext;exact cY (rest _ ⟨nm,b0,b1,b2,_,_,hN,hb4.mono (by nofun),rfl⟩)
theorem jn(n:Int){o:OV}(ho:AZ o ns)(hb:WellB b1 b2 n)(hn:n<2 ^ 38)(hns:∀ z∈ns,cH z)(hl:ns.length<=20)(h:∀ (z:Str) (b0' b1' b2':Int),cH z->z∉ns->WellB b1' b2' (n+13)->P (.fz (.str z)) [bA b0' b1' b2',o]):aP [bA b0 b1 b2,o] P:=by
 unfold aP;exact⟨b0,b1,b2,n,ns,o,rfl,ho,hb,hn,hns,hl,h⟩
def vb(w:Str)(rest:List Str):Prop:=((w = "none" ∨ w = "any")/\rest=[])∨(w = "signs" /\ ∃ z,rest=[z]/\cR z)
abbrev bf(rows:List Rw):OV:=.fd ((rows.map (·.1)).map Sum.inr) (rows.map λ r=>aK r.2.1 r.2.2)
@[irreducible] def bX:Ct:=λ os P=>∃ (b0 b1 b2 n:Int) (rows:List Rw),os=[bA b0 b1 b2,bf rows,.fz (.int 12)]/\WellB b1 b2 n/\n<2 ^ 38/\(∀ r∈rows,vb r.2.1 r.2.2)/\rows.length<=20 /\
 ∀ (z:Str) (b0' b1' b2':Int),z.length<=12->(∀ c∈z.cps.toList,32<=c/\c<=126/\c≠37)->WellB b1' b2' (n+40)->P (.fz (.str z)) [bA b0' b1' b2',bf rows,.fz (.int 12)]
abbrev A6:Stmt:=top 58
abbrev Kl:FS:=
  (ao (cg (xz (fC (.str "")) (tq [] 1 1 (ac 0) (aH (fOp aEq (fOp aIx (ab 0) (fC (.int 0))) (fC (.str "signs")))) (fOp aIx (ab 0) (fC (.int 1))))) (ac 3))
  (ao (cg (fC (.str "")) (ac 4))
  (ao (pN (eB (aa (am ai (aa (ab 0) (aa (fFz (fOp eC (ab 2) (fC (.int 1)))) ag))) ag)) (ac 5)
   (ao (cg (am bN (aa (ab 0) ag)) (ac 6))
  (ao (fIf (Gi (aH (fOp aNe (ab 3) (fC (.str "")))) (aH (fOp (iK (λ i j=>decide (j<i)) λ i j=>bd j i) (am ai (aa (ab 0) (aa (fC (.int 8)) ag))) (fC (.int 0)))))
   (cg (fOp aIx (ab 3) (am ai (aa (ab 0) (aa (fFz (fCB eX (aa (ab 3) ag))) ag)))) (ac 6))
   bc)
  (cg (fOp eC (ab 4) (ab 6)) (ac 4)))))
  (bE (ab 4)))))
theorem Km:Lh bX 3 [0,1]:=by delta bX
theorem oI:∀ {zs:List Str},(∀ y∈zs,cR y)->(zs.map (·.length)).sum<=40*zs.length
 |[],_=>aac _
 | z::zs,h=>by
  have h1:=(h z (aab ..)).2.1;have h2:=oI (zs:=zs) λ y hy=>h y (aad _ hy);have h3:=cj z;rw[abM,List.sum_cons,abO];nofun
theorem FH(h:∀ y∈zs,cR y):∀ c∈(zs.map λ z=>z.cps.toList).flatten,32<=c/\c<=126/\c≠37:=λ c hc=>by
 obtain⟨l,hl,hy⟩:=List.mem_flatten.mp hc;obtain⟨z,hz,rfl⟩:=abR.mp hl;exact(h z hz).2.2.2 c hy
theorem vc:∀ {zs:List Str},(∀ y∈zs,cR y)->(zs.map λ z=>z.cps.toList).flatten.length<=40*zs.length
 |[],_=>aac _
 | z::zs,h=>by
  have h1:=(h z (aab ..)).2.1;have h2:=vc (zs:=zs) λ y hy=>h y (aad _ hy);rw[abM,List.flatten_cons,aag,abO];nofun
theorem Kn:Hh bX Kl [0,1] 7:=by
 intro os P h;unfold bX at h;obtain⟨b0,b1,b2,n,rows,rfl,hb,hn,hr,hl,q⟩:=h;have sz:=cE;have hn0:0<=n:=Int.le_trans hb.2.2.1 hb.2.2.2;ext
 refine aU (λ i as ρ=>∃ (x:Option OV) (zs:List Str),as=zs.map .str/\zs.length<=i/\(∀ y∈zs,cR y)/\ρ=[x,fzo (some (bA b0 b1 b2)),some (.fz (.dct ((rows.map (·.1)).map Sum.inr) (rows.map λ r=>aK r.2.1 r.2.2))),fzo (some (.fz (.int 12))),fzo none,fzo none,fzo none,fzo none])
  ⟨none,[],rfl,aac _,(λ _ h=>nomatch h),rfl⟩ ?_ ?_
 ·rintro i d as ρ R hd ⟨x,zs,rfl,hzl,hz,rfl⟩ k
  obtain⟨r,hri,rfl⟩:∃ r,rows[i]?=some r/\d=aK r.2.1 r.2.2:=by
   have hd:(rows.map λ r=>aK r.2.1 r.2.2)[i]?=some d:=hd;rw[List.getElem?_map,aap] at hd;obtain⟨r,h1,h2⟩:=hd;exact⟨r,h1,h2.symm⟩
  have hi:=(List.getElem?_eq_some_iff.mp hri).1;ext;refine cV ?_;ext;refine⟨aO,?_⟩;ext;refine aw (r.2.1 = "signs") bz (λ hw=>?_) (λ hw=>?_)
  ·obtain⟨y,hy,hs⟩:∃ y,r.2.2=[y]/\cR y:=by
    rcases hr r (List.mem_of_getElem? hri) with ⟨h,_⟩|⟨_,h⟩
    ·rw[hw] at h;exact absurd h (by decide)
    ·exact h
   rw[hy];ext;refine⟨by rw[abK];nofun,k _ _ ⟨_,zs++[y],by rw[aaf];rfl,by rw[aag,aa2];nofun,λ v hv=>?_,rfl⟩⟩;rcases abL.mp hv with h|h
   ·exact hz v h
   ·rw[abN.mp h];exact hs
  ·exact k _ _ ⟨_,zs,rfl,by nofun,hz,rfl⟩
 ·rintro as ρ ⟨x,zs,rfl,hzl,hz,rfl⟩
  have hzl':zs.length<=20:=by
   have e:(MC ((rows.map (·.1)).map Sum.inr) (rows.map λ r=>aK r.2.1 r.2.2)).length=rows.length:=by show (rows.map _).length=_;rw[abK]
   rw[e] at hzl;nofun
  have h1:=oI hz;have hg:(Builtin.Str.glued (Str.ofString "") zs).cps.toList=(zs.map λ z=>z.cps.toList).flatten:=g6 zs;have h2:=vc hz;have h3:=FH hz;rw[← hg] at h2 h3;refine⟨⟨_,rfl⟩,?_⟩;ext;refine ip ⟨by show _+zs.length*0<=_;nofun,?_⟩;generalize Builtin.Str.glued (Str.ofString "") zs=own at h2 h3 ⊢;have hol:=cj own;ext;refine bK n hb (by nofun) (by decide) (by decide) λ m b0 b1 b2 m0 m1 hb1=>?_;ext;refine⟨⟨by nofun,by nofun⟩,?_⟩;ext
  refine bQ (λ i ρ=>∃ (t:Str) (x5 x6:Option OV) (b0 b1 b2:Int),t.cps.toList.length=i/\(∀ c∈t.cps.toList,32<=c/\c<=126/\c≠37)/\WellB b1 b2 (n+1+3*i)/\ρ=[some (bA b0 b1 b2),some (bf rows),some (.fz (.int 12)),some (.fz (.str own)),some (.fz (.str t)),x5,x6])
   ⟨"", _,_,b0,b1,b2,rfl,(λ _ h=>nomatch h),hb1.mono (by nofun),rfl⟩ ?_ ?_
  ·rintro i d ρ R hd ⟨t,x5,x6,b0,b1,b2,htl,ht,hb2,rfl⟩ k;obtain⟨hi,rfl⟩:=bH hd;have htl':=cj t;ext;refine oG _ hb2 (by nofun) λ c b0 b1 b2 hc hb3=>?_;have hcs:=nW c hc;ext;refine mE (λ ρ=>∃ (c:Nat) (b0 b1 b2:Int),(32<=c/\c<=126/\c≠37)/\WellB b1 b2 (n+1+3*i+3)/\ρ=[some (bA b0 b1 b2),some (bf rows),some (.fz (.int 12)),some (.fz (.str own)),some (.fz (.str t)),some (.fz (.int (0+i))),some (.fz (.str ⟨#[c]⟩))]) ?_ ?_
   ·rintro ρ ⟨c,b0,b1,b2,hc,hb4,rfl⟩;ext;refine⟨by show t.length+1<=sizeLine;nofun,?_⟩;refine k _ ⟨t++⟨#[c]⟩,_,_,b0,b1,b2,by rw[fP,aag,htl];rfl,λ e he=>?_,hb4.mono (by nofun),rfl⟩;rw[fP] at he;rcases abL.mp he with h|h
    ·exact ht e h
    ·have:e=c:=(by exists h);rw[this];exact hc
   ·intro rest;ext;refine⟨aO,?_⟩;ext;refine aw (own ≠ "") xB (λ h0=>?_) (λ _=>?_)
    ·have hop:0<own.cps.toList.length:=by
      refine Nat.pos_of_ne_zero λ z=>h0 (gZ ?_);rw[aaA z];rfl
     ext;refine bK _ hb3 (by nofun) (by decide) (by decide) λ r4 b0 b1 b2 r40 r41 hb4=>?_;ext;refine aw (0<r4) decide_eq_true_iff (λ _=>?_) (λ _=>?_)
     ·ext;refine⟨by nofun,?_⟩;ext;refine bK _ hb4 (by nofun) (by nofun) (by nofun) λ r5 b0 b1 b2 r50 r51 hb5=>?_;ext;refine⟨by nofun,?_⟩;refine jT r50 (by nofun) λ e he=>?_;exact rest _ ⟨e,b0,b1,b2,h3 e he,hb5.mono (by nofun),rfl⟩
     ·exact rest _ ⟨c,b0,b1,b2,hcs,hb4.mono (by nofun),rfl⟩
    ·ext;exact cY (rest _ ⟨c,b0,b1,b2,hcs,hb3.mono (by nofun),rfl⟩)
  ·rintro ρ ⟨t,x5,x6,b0,b1,b2,htl,ht,hb2,rfl⟩;rw[ck] at htl hb2;ext;exact q t b0 b1 b2 (by rw[cj];nofun) ht (hb2.mono (by nofun))
theorem FJ(n:Int)(hb:WellB b1 b2 n)(hn:n<2 ^ 38)(hr:∀ r∈rows,vb r.2.1 r.2.2)(hl:rows.length<=20)(h:∀ (z:Str) (b0' b1' b2':Int),z.length<=12->(∀ c∈z.cps.toList,32<=c/\c<=126/\c≠37)->WellB b1' b2' (n+40)->P (.fz (.str z)) [bA b0' b1' b2',bf rows,.fz (.int 12)]):bX [bA b0 b1 b2,bf rows,.fz (.int 12)] P:=by
 unfold bX;exact⟨b0,b1,b2,n,rows,rfl,hb,hn,hr,hl,h⟩
def eu(rows:List Rw)(n:Str):Option Rw:=rows.find? λ r=>decide (r.1=n)
theorem c9(h:n∈rows.map (·.1)):∃ r∈rows,r.1=n/\eu rows n=some r:=by
 obtain⟨r,hr,e⟩:=abR.mp h
 cases q:eu rows n with
 | none=>
  have:=List.find?_eq_none.mp q r hr;simp[e] at this
 | some r'=>
  have h1:=List.find?_some q;exact⟨r',List.mem_of_find?_eq_some q,of_decide_eq_true h1,rfl⟩
def bg(rows:List Rw):List Rw:=(c6 (rows.map (·.1))).filterMap (eu rows)
@[irreducible] def bo:Ct:=λ os P=>∃ rows:List Rw,os=[bf rows]/\(rows.map (·.1)).Nodup/\rows.length<=20/\P (.fl ((bg rows).map dZ)) os
abbrev oJ:Stmt:=top 59
abbrev zF:FS:=
  (bE (ci [0] 1 (cD (fCB jg (aa (ab 0) ag))) (ac 0) kS (ib (aa (ab 0) (aa (fOp aIx (ab 1) (ab 0)) ag)))))
theorem zG:Lh bo 1 [0]:=by delta bo
theorem jo{r:Rw}(h:eu rows n=some r):gq ((rows.map (·.1)).map Sum.inr) (rows.map λ r=>aK r.2.1 r.2.2) (.inr n)=some (aK r.2.1 r.2.2):=by
 unfold eu at h
 induction rows with
 |nil=>cases h
 | cons a rows ih=>
  unfold gq at ih ⊢;rw[abM,abM,abM,ab5,List.find?_cons];rw[List.find?_cons] at h;by_cases e:a.1=n
  ·rw[decide_eq_true e] at h;cases h;rw[decide_eq_true (congrArg Sum.inr e)];rfl
  ·rw[decide_eq_false e] at h;rw[show decide ((Sum.inr a.1:Key)=Sum.inr n)=false from decide_eq_false λ z=>e (aa6 z)];exact ih h
theorem FK{f:α->Option β}{l:List α}{a:α}{b:β}(h:l[i]?=some a)(hf:f a=some b):(l.take (i+1)).filterMap f=(l.take i).filterMap f++[b]:=by
 rw[aat,h,List.filterMap_append];simp[hf]
theorem zH:Hh bo zF [0] 1:=by
 intro os P h;unfold bo at h;obtain⟨rows,rfl,nd,hl,q⟩:=h;have sz:=cE;ext;refine lc (by rw[abK];nofun) ?_;have hsl:(c6 (rows.map (·.1))).length=rows.length:=by rw[(aT _).length_eq,abK]
 have hsm:∀ z∈c6 (rows.map (·.1)),z∈rows.map (·.1):=λ z hz=>(aT _).mem_iff.mp hz;unfold bg at q;generalize c6 (rows.map (·.1))=ss at hsl hsm q ⊢;ext;refine aU (λ i as ρ=>∃ (x:Option OV),as=((ss.take i).filterMap (eu rows)).map dZ/\ρ=[x,some (bf rows)]) ⟨none,rfl,rfl⟩ ?_ ?_
 ·rintro i d as ρ R hd ⟨x,rfl,rfl⟩ k
  obtain⟨z,hz,rfl⟩:∃ y,ss[i]?=some y/\d=.str y:=by
   rw[List.getElem?_map,aap] at hd;obtain⟨r,h1,h2⟩:=hd;exact⟨r,h1,h2.symm⟩
  obtain⟨r,hr,rfl,e⟩:=c9 (hsm z (List.mem_of_getElem? hz));have hfl:=List.length_filterMap_le (eu rows) (ss.take i);rw[aao] at hfl;ext;refine cU ?_;ext;rw[jo e];ext;refine⟨lez 2,?_⟩;ext;refine⟨by rw[abK];nofun,k _ _ ⟨_,?_,rfl⟩⟩;rw[FK hz e,aaf];rfl
 ·rintro as ρ ⟨x,rfl,rfl⟩;rw[abK,aal (aac _)];ext;exact q
theorem lK(nd:(rows.map (·.1)).Nodup)(hl:rows.length<=20)(h:P (.fl ((bg rows).map dZ)) [bf rows]):bo [bf rows] P:=by
 unfold bo;exact⟨rows,rfl,nd,hl,h⟩
theorem gx :(bg rows).map (·.1)=c6 (rows.map (·.1)):=by
 unfold bg;have hsm:∀ z∈c6 (rows.map (·.1)),z∈rows.map (·.1):=λ z hz=>(aT _).mem_iff.mp hz;generalize c6 (rows.map (·.1))=ss at hsm ⊢
 induction ss with
 |nil=>rfl
 | cons z ss ih=>
  obtain⟨r,hr,e1,e⟩:=c9 (hsm z (aab ..));rw[abt,e];show r.1::_=_;rw[ih λ y hy=>hsm y (aad _ hy),e1]
theorem da{r:Rw}(h:r∈bg rows):r∈rows:=by
 unfold bg at h;obtain⟨n,_,e⟩:=ab7.mp h;exact List.mem_of_find?_eq_some e
theorem zI{a b:Str}(h:cO a b=true)(ne:a≠b):bd a b=true:=by
 cases e:bd a b with
 |true=>rfl
 |false=>exact absurd (fT h (by show (!bd a b)=true;rw[e];rfl)) ne
structure RulesG(rows:List Rw)(pool:List Str)(rank:Str->Nat):Prop where
 nd:(rows.map (·.1)).Nodup
 ok:∀ r∈rows,cH r.1/\yr pool r.2.1 r.2.2
 few:rows.length<=20
 pn:∀ z∈pool,cH z
 pl:pool.length<=45
 dw:∀ r∈rows,∀ p∈bO r.2.1 r.2.2,rank p<rank r.1
theorem oK:∀ {ps zs:List Str} {x:Str},x∈ki zs ps->x∈ps
 |[],_,_,h=>nomatch h
 | p::ps,zs,x,h=>by
  unfold ki at h;split at h
  ·rcases abQ.mp h with y|y
   ·rw[y];exact aab ..
   ·exact aad _ (oK y)
  ·rw[abN.mp h];exact aab ..
theorem qv{rest:List Str}{x:Str}(h:x∈bR zs w rest):x∈bO w rest:=by
 unfold bR at h;split at h
 ·rename_i h1;unfold bO;rw[if_neg (by rw[h1];decide +kernel)];exact oK h
 ·exact h
theorem mQ(R:RulesG rows pool rank):BookR (bg rows):=by
 have hn:=gx (rows:=rows);have hnd:((bg rows).map (·.1)).Nodup:=by rw[hn];exact(aT _).nodup_iff.mpr R.nd
 have hl:(bg rows).length=rows.length:=by
  have:=congrArg List.length hn;rw[abK,(aT _).length_eq,abK] at this;exact this
 refine⟨⟨hnd,λ r hr=>?_,by rw[hl];have:=R.few;nofun,⟨pool,R.pl,λ r hr=>⟨R.pn,(R.ok r (da hr)).2⟩⟩⟩,λ i r s hr hs=>?_,λ zs _ S hS=>?_⟩
 ·have:=R.ok r (da hr);exact⟨this.1,pool,R.pn,this.2⟩
 ·have h1:((bg rows).map (·.1))[i]?=some r.1:=by rw[List.getElem?_map,hr];rfl
  have h2:((bg rows).map (·.1))[i+1]?=some s.1:=by rw[List.getElem?_map,hs];rfl
  have hs:=cq (rows.map (·.1));rw[← hn] at hs;obtain⟨g1,e1⟩:=List.getElem?_eq_some_iff.mp h1;obtain⟨g2,e2⟩:=List.getElem?_eq_some_iff.mp h2;have hle:=ab6.mp hs i (i+1) g1 g2 (aaE i);have hne:=ab6.mp hnd i (i+1) g1 g2 (aaE i);rw[e1,e2] at hle hne;exact zI hle hne
 ·cases S with
  |nil=>rfl
  | cons n S=>
   have go:∀ (m:Nat) (x:Str),x∈n::S->rank x<m->False:=by
    intro m
    induction m with
    |zero=>intro x _ h;nofun
    | succ m ih=>
     intro x hx h;obtain⟨r,hr,e,p,hp,hpS⟩:=hS x hx;have:=R.dw r (da hr) p (qv hp);rw[e] at this;exact ih p hpS (by nofun)
   exact(go (rank n+1) n (aab ..) (aaE _)).elim
theorem lL(nd:(rows.map (·.1)).Nodup):eu (bg rows) n=eu rows n:=by
 by_cases h:n∈rows.map (·.1)
 ·obtain⟨r,hr,e1,e⟩:=c9 h;obtain⟨r',hr',e1',e'⟩:=c9 (rows:=bg rows) (n:=n) (by rw[gx];exact(aT _).mem_iff.mpr h);rw[e,e',uL nd hr (da hr') (e1'.trans e1.symm)]
 ·have g:∀ rs:List Rw,(∀ r∈rs,r∈rows)->eu rs n=none:=λ rs hs=>List.find?_eq_none.mpr λ r hr=>by
   have:r.1≠n:=λ e=>h (abR.mpr ⟨r,hs r hr,e⟩);simpa using this
  rw[g _ λ r hr=>da hr,g _ λ r hr=>hr]
theorem iH(nd:(rows.map (·.1)).Nodup):fM (bg rows) n=match eu rows n with
  |none=>.leaf .lack
  | some r=>rlR r.2.1 r.2.2:=by
 show (match eu (bg rows) n with
  |none=>Rl.leaf .lack
  |some r=>rlR r.2.1 r.2.2)=_
 rw[lL nd]
def ce(rows:List Rw)(n:Str):Leaf:=match eu rows n with
 |none=>.lack
 |some r=>if r.2.1 = "none" then .none else if r.2.1 = "any" then .any else .signs (r.2.2.headD "")
def zJ(rows:List Rw)(n:Str):Prop:=∀ r,eu rows n=some r->vb r.2.1 r.2.2
theorem FL(nd:(rows.map (·.1)).Nodup)(h:zJ rows n):fM (bg rows) n=.leaf (ce rows n):=by
 rw[iH nd];unfold ce
 cases e:eu rows n with
 |none=>rfl
 | some r=>
  have:=h r e;unfold rlR;by_cases h1:r.2.1 = "none"
  ·simp only[h1];rfl
  ·by_cases h2:r.2.1 = "any"
   ·simp only[h2];rfl
   ·rcases this with ⟨y|y,_⟩|⟨y,_⟩
    ·exact absurd y h1
    ·exact absurd y h2
    ·simp only[y];rfl
theorem vd{rs:List Rw}(hno:∀ r∈rs,r.1≠n):gq ((rs.map (·.1)).map Sum.inr) (rs.map λ r=>aK r.2.1 r.2.2) (.inr n)=none:=by
 induction rs with
 |nil=>rfl
 | cons a rs ih=>
  unfold gq at ih ⊢;rw[abM,abM,abM,ab5,List.find?_cons];rw[show decide ((Sum.inr a.1:Key)=Sum.inr n)=false from decide_eq_false λ z=>hno a (aab ..) (aa6 z)];exact ih λ r hr=>hno r (aad _ hr)
theorem ve(h:R n=.leaf l):rdF R z (f+1) n k=some ⟨eh l z k,k,[n]⟩:=by
 show goF R z (f+1) (cX R z n k) k [n]=_;rw[show cX R z n k=⟨.leaf l,n,k,k,0,[],true,eh l z k⟩ by unfold cX;rw[h]];exact mJ rfl
abbrev eW(ln:Option Nat)(m:Int)(st:List Sp2)(ls:List Str):D:=.tup [dc ln,.int m,.lst (st.map bL),.lst (ls.map .str)]
@[irreducible] def bY:Ct:=λ os P=>∃ (ln:Option Nat) (m:Int) (st:List Sp2) (ls:List Str),os=[.fz (eW ln m st ls),.fz (eW ln m st ls)]/\st.length<=1000/\P (.fz (.bl true)) os
abbrev A7:Stmt:=top 60
abbrev Ko:FS:=
  (ao (fIf (fOr (kQ (eR (fCB cIs (aa (ab 0) (aa (fC (.ty "tuple")) ag))))) (fOr (aH (fOp aNe (fCB eX (aa (ab 0) ag)) (fC (.int 4)))) (aH (fOp aNe (ab 0) (ab 1)))))
   (bE (fC (.bl false)))
   bc)
  (ao (cL 2 (fOp eC (jD (aa (fOp aIx (ab 0) (fC (.int 1))) ag)) (ci [] 2 (cD (fOp aIx (ab 0) (fC (.int 2)))) (jF 2 (bG (ac 0) (bG (ac 1) jE))) kS (ab 1))))
  (ao (fIf (aH (fOp mD (fOp aIx (ab 0) (fC (.int 0))) (fC .non)))
   (b5 (xj 2 (fOp aIx (ab 0) (fC (.int 0)))))
   bc)
  (bE (Dg (fCB Lu (aa (tm [] 1 2 (ac 0) kS (fCB cIs (aa (ab 0) (aa (fC (.ty "bool")) ag)))) ag)))))))
theorem Kq:Lh bY 2 []:=by delta bY
theorem jp:∀ st:List Sp2,okDs (st.map bL)=true
 |[]=>rfl
 |_::st=>abW.mpr ⟨rfl,jp st⟩
theorem jq:∀ st:List Sp2,deps (toDVs (st.map bL))<=1
 |[]=>aaq _
 |_::st=>Nat.max_le.mpr ⟨aac 1,jq st⟩
theorem FM(ln:Option Nat)(m:Int)(st:List Sp2)(ls:List Str):DO (eW ln m st ls) (eW ln m st ls):=by
 have h0:okD (dc ln)=true:=by cases ln <;> rfl
 have ok:okD (eW ln m st ls)=true:=by
  show okDs [dc ln,.int m,.lst (st.map bL),.lst (ls.map .str)]=true;exact abW.mpr ⟨h0,abW.mpr ⟨rfl,abW.mpr ⟨jp st,abW.mpr ⟨iF ls,rfl⟩⟩⟩⟩
 have e0:dep (vG (dc ln))=0:=by cases ln <;> rfl
 have h1:=jq st;have h2:=eV ls;refine⟨ok,ok,?_⟩;show max (dep (vG (dc ln))) (max 0 (max (deps (toDVs (st.map bL))+1) (max (deps (toDVs (ls.map D.str))+1) 0)))+1<=_;rw[e0,h2];refine aau (abo (Nat.max_le.mpr ⟨aaq _,Nat.max_le.mpr ⟨aaq _,Nat.max_le.mpr ⟨abo h1,Nat.max_le.mpr ⟨(by decide:0+1<=2),aaq _⟩⟩⟩⟩)) ?_;exact Nat.le_of_ble_eq_true rfl
theorem oM(d:D):dEq d d=true:=nc _
theorem Kr:Hh bY Ko [] 3:=by
 intro os P h;unfold bY at h;obtain⟨ln,m,st,ls,rfl,hst,q⟩:=h;ext;refine aB ?_;ext;refine⟨⟨rfl,rfl⟩,?_⟩;ext;refine cY ?_;ext;refine⟨aX,?_⟩;ext;refine cY ?_;ext;refine⟨FM ln m st ls,?_⟩;ext;refine aw False ⟨λ h=>(by rw[oM] at h;exact Bool.noConfusion h),False.elim⟩ False.elim (λ _=>?_);ext;refine⟨lez 1,?_⟩;ext;refine aU (λ i as ρ=>∃ x0 x1:Option OV,as=(st.take i).map (λ s=>D.int s.2)/\ρ=[x0,x1,some (.fz (eW ln m st ls)),some (.fz (eW ln m st ls)),none]) ⟨none,none,rfl,rfl⟩ ?_ ?_
 ·rintro i d as ρ R hd ⟨x0,x1,rfl,rfl⟩ kk;rw[List.getElem?_map] at hd
  cases he:st[i]? with
  |none=>rw [he] at hd;cases hd
  | some e=>
   rw[he] at hd;cases hd;have hi:=(List.getElem?_eq_some_iff.mp he).1;ext;refine⟨rfl,?_⟩;ext;refine cU ?_;ext;refine⟨by rw[abK,aao];exact aan (by nofun:min i st.length<1001) (lez 1001),kk _ _ ⟨_,_,?_,rfl⟩⟩;rw[aat,he,aaf];rfl
 rintro as ρ ⟨x0,x1,rfl,rfl⟩;rw[abK,aal (aac _)];ext;have hl:([D.int m]++st.map λ s=>D.int s.2)=((m::st.map λ s=>(s.2:Int)).map D.int):=by rw[abM,aav];rfl
 refine⟨by rw[abK];exact aau (by show 1+st.length<=1001;nofun) (lez 1001),?_⟩;rw[hl];have hl2:(m::st.map λ s=>(s.2:Int)).length<=1001:=by rw[abO,abK];nofun
 generalize (m::st.map λ s=>(s.2:Int))=is0 at hl2;ext;refine mE (λ ρ=>∃ is:List Int,is.length<=1002/\ρ=[some (.fz (eW ln m st ls)),some (.fz (eW ln m st ls)),some (.fl (is.map .int))]) ?_ ?_
 ·rintro ρ ⟨is,hl,rfl⟩;ext;refine sV (λ i as ρ=>∃ (x:Option OV),as=(List.replicate i false).map .bl/\ρ=[x,some (.fz (eW ln m st ls)),some (.fz (eW ln m st ls)),some (.fl (is.map .int))]) (by rintro i as ρ ⟨x,_,rfl⟩;rfl) ⟨none,rfl,rfl⟩ ?_ ?_
  ·rintro i d as ρ R hd ⟨x,rfl,rfl⟩ k
   obtain⟨j,hj,rfl⟩:∃ j,is[i]?=some j/\d=.int j:=by
    rw[List.getElem?_map,aap] at hd;obtain⟨r,h1,h2⟩:=hd;exact⟨r,h1,h2.symm⟩
   have hi:=(List.getElem?_eq_some_iff.mp hj).1;ext;refine cU ?_;ext;refine⟨⟨rfl,rfl⟩,?_⟩;ext;refine⟨by rw[abK,aaF];exact aan (by nofun:i<1003) (lez 1003),k _ _ ⟨_,?_,rfl⟩⟩;rw[List.replicate_succ',aaf];rfl
  ·rintro as ρ ⟨x,rfl,rfl⟩;ext;refine nL ?_;ext;rw[show ((List.replicate (is.map D.int).length false).any id)=false from by simp];exact q
 ·intro rest
  cases ln with
  | none=>
   ext;refine cY ?_;exact rest _ ⟨is0,by nofun,rfl⟩
  | some i=>
   ext;refine cU ?_;ext;refine⟨rfl,?_⟩;ext;refine⟨by rw[abK];exact aan (by nofun:is0.length<1002) (lez 1002),?_⟩;exact rest _ ⟨is0++[(i:Int)],by rw[aag];show is0.length+1<=_;nofun,by rw[aaf];rfl⟩
theorem FN{ln:Option Nat}{m:Int}(hs:st.length<=1000)(h:P (.fz (.bl true)) [.fz (eW ln m st ls),.fz (eW ln m st ls)]):bY [.fz (eW ln m st ls),.fz (eW ln m st ls)] P:=by
 unfold bY;exact⟨ln,m,st,ls,rfl,hs,h⟩
theorem zK(h:y∉zs):fL (zs.map Sum.inr) ds (.inr y) d=(zs.map Sum.inr++[.inr y],ds++[d]):=by
 unfold fL;rw[if_neg];intro e;obtain⟨x,hx,hy⟩:=List.any_eq_true.mp e;obtain⟨v,hv,rfl⟩:=abR.mp hx;exact h (aa6 (of_decide_eq_true hy) ▸ hv)
theorem fI{rest:List Str}(h:y∉rows.map (·.1)):bf (rows++[(y,w,rest)])=.fd (fL ((rows.map (·.1)).map Sum.inr) (rows.map λ r=>aK r.2.1 r.2.2) (.inr y) (aK w rest)).1 (fL ((rows.map (·.1)).map Sum.inr) (rows.map λ r=>aK r.2.1 r.2.2) (.inr y) (aK w rest)).2:=by
 rw[zK h];unfold bf;rw[aaf,aaf,aaf];rfl
structure Leaves(ns:List Str)(rows:List Rw):Prop where
 nd:ns.Nodup
 nm:∀ y∈ns,cH y
 rd:(rows.map (·.1)).Nodup
 sub:∀ r∈rows,r.1∈ns/\vb r.2.1 r.2.2
theorem Leaves.len(L:Leaves ns rows):rows.length<=ns.length:=by
 have:=aaz L.rd λ x hx=>by
  obtain⟨r,hr,e⟩:=abR.mp hx;exact e ▸ (L.sub r hr).1
 rwa [abK] at this
@[irreducible] def bw:Ct:=λ os P=>∃ (b0 b1 b2 n:Int) (m:Nat),os=[bA b0 b1 b2,.fz (.int m)]/\WellB b1 b2 n/\n<2 ^ 37/\m<=5 /\
 ∀ (ns:List Str) (rows:List Rw) (b0' b1' b2':Int) (a a':Addr),ns.length=m->Leaves ns rows->WellB b1' b2' (n+500)->P (.ot [.fl a (ns.map .str),.fd a' ((rows.map (·.1)).map Sum.inr) (rows.map λ r=>aK r.2.1 r.2.2)]) [bA b0' b1' b2',.fz (.int m)]
abbrev oN:Stmt:=top 61
abbrev zL:FS:=
  (ao (cL 2 (jD ag))
  (ao (cL 3 wZ)
  (ao (pN (eB (aa (ab 1) ag)) (ac 4)
   (ao (cg (am aP (aa (ab 0) (aa (ab 2) ag))) (ac 5))
  (ao (b5 (xj 2 (ab 5)))
  (ao (cg (fOp aIx (jD (aa (ib (aa (fC (.str "none")) ag)) (aa (ib (aa (fC (.str "any")) ag)) (aa (am bB (aa (ab 0) ag)) (aa (am bB (aa (ab 0) ag)) (aa (fC .non) ag)))))) (am ai (aa (ab 0) (aa (fC (.int 5)) ag)))) (ac 6))
  (fIf (aH (fOp mD (ab 6) (fC .non)))
   (mr 3 (ab 6) (ab 5))
   bc)))))
  (bE (Et (aa (ab 2) (aa (ab 3) ag)))))))
theorem zM:Lh bw 2 [0]:=by delta bw
theorem M6{s1 s2:Str}(h1:cR s1)(h2:cR s2){i:Int}(i0:0<=i)(i1:i<5)(q:∀ w rest,vb w rest->Q (aK w rest))(qn:Q .non):match atI [aK "none" [],aK "any" [],aK "signs" [s1],aK "signs" [s2],.non] i with
  |some d=>Q d
  | none=>False:=jS i0 i1 fun d hd=>by
 simp only[List.mem_cons,List.not_mem_nil,or_false] at hd;rcases hd with rfl|rfl|rfl|rfl|rfl
 ·exact q _ _ (.inl ⟨.inl rfl,rfl⟩)
 ·exact q _ _ (.inl ⟨.inr rfl,rfl⟩)
 ·exact q _ _ (.inr ⟨rfl,s1,rfl,h1⟩)
 ·exact q _ _ (.inr ⟨rfl,s2,rfl,h2⟩)
 ·exact qn
theorem zN:Hh bw zL [0] 7:=by
 intro os P h;unfold bw at h;obtain⟨b0,b1,b2,n,m,rfl,hb,hn,hm,q⟩:=h;have sz:=cE;ext;refine⟨aaq _,?_⟩;ext;refine⟨⟨by nofun,by nofun⟩,?_⟩;ext
 refine bQ (λ i ρ=>∃ (ns:List Str) (rows:List Rw) (x4 x5 x6:Option OV) (b0 b1 b2:Int),Leaves ns rows/\ns.length=i/\WellB b1 b2 (n+98*i)/\ρ=[some (bA b0 b1 b2),some (.fz (.int m)),some (.fl (ns.map .str)),some (bf rows),x4,x5,x6])
  ⟨[],[],none,none,none,b0,b1,b2,⟨aaB,(λ _ h=>nomatch h),aaB,λ _ h=>nomatch h⟩,rfl,hb.mono (by nofun),rfl⟩ ?_ ?_
 ·rintro i d ρ R hd ⟨ns,rows,x4,x5,x6,b0,b1,b2,L,hl,hb2,rfl⟩ kk;obtain⟨hi,rfl⟩:=bH hd;have hrl:=L.len;ext;refine jn _ (.inl rfl) hb2 (by nofun) L.nm (by nofun) λ y b0 b1 b2 hy hyn hb3=>?_;ext;refine⟨rfl,?_⟩;ext;refine⟨by rw[abK];nofun,?_⟩;have eS:ns.map D.str++[D.str y]=(ns++[y]).map D.str:=by rw[aaf];rfl
  rw[eS];ext;refine⟨lez 1,?_⟩;ext;refine⟨lez 1,?_⟩;ext;refine oH hb3 (by nofun) λ s1 b0 b1 b2 hs1 hb4=>?_;ext;refine oH hb4 (by nofun) λ s2 b0 b1 b2 hs2 hb5=>?_;ext;refine⟨lez 5,?_⟩;ext;refine bK _ hb5 (by nofun) (by decide) (by decide) λ r b0 b1 b2 r0 r1 hb6=>?_
  have hyr:y∉rows.map (·.1):=λ h=>by
   obtain⟨r,hr,e⟩:=abR.mp h;exact hyn (e ▸ (L.sub r hr).1)
  have L1:Leaves (ns++[y]) rows:=⟨KS.nodup_snoc L.nd hyn,λ v hv=>by
   rcases abL.mp hv with h|h
   ·exact L.nm v h
   ·rw[abN.mp h];exact hy,L.rd,λ r hr=>⟨aam _ (L.sub r hr).1,(L.sub r hr).2⟩⟩
  ext;refine M6 hs1 hs2 r0 r1 (λ w rest hw=>?_) ?_
  ·ext;refine aB ?_;ext;refine cU ?_;ext;refine⟨rfl,?_⟩;ext;refine⟨by rw[abK,abK];nofun,?_⟩;refine kk _ ⟨ns++[y],rows++[(y,w,rest)],some (.fz (.int (0+(i:Int)))),some (.fz (.str y)),some (.fz (aK w rest)),b0,b1,b2,⟨L1.nd,L1.nm,by rw[aaf];exact KS.nodup_snoc L.rd hyr,λ v hv=>?_⟩,by rw[aag,hl];rfl,hb6.mono (by nofun),?_⟩
   ·rcases abL.mp hv with h|h
    ·exact L1.sub v h
    ·rw[abN.mp h];exact⟨aai _ (aab ..),hw⟩
   ·rw[fI hyr];rfl
  ·ext;refine aB ?_;ext;refine cY ?_;ext;exact kk _ ⟨ns++[y],rows,some (.fz (.int (0+(i:Int)))),some (.fz (.str y)),some (.fz .non),b0,b1,b2,L1,by rw[aag,hl];rfl,hb6.mono (by nofun),rfl⟩
 ·rintro ρ ⟨ns,rows,x4,x5,x6,b0,b1,b2,L,hl,hb2,rfl⟩;rw[ck] at hl hb2;ext;intro as;ext;refine⟨lez 2,?_⟩;ext;exact q ns rows b0 b1 b2 _ _ (by nofun) L (hb2.mono (by nofun))
theorem vf(n:Int)(hb:WellB b1 b2 n)(hn:n<2 ^ 37)(hm:m<=5)(h:∀ (ns:List Str) (rows:List Rw) (b0' b1' b2':Int) (a a':Addr),ns.length=m->Leaves ns rows->WellB b1' b2' (n+500)->P (.ot [.fl a (ns.map .str),.fd a' ((rows.map (·.1)).map Sum.inr) (rows.map λ r=>aK r.2.1 r.2.2)]) [bA b0' b1' b2',.fz (.int m)]):bw [bA b0 b1 b2,.fz (.int m)] P:=by
 unfold bw;exact⟨b0,b1,b2,n,m,rfl,hb,hn,hm,h⟩
theorem FP{a b:Str}(h:a≠b)(q:B):br (dEq (.str a) (.str b)) A B:=aw (a=b) bz (λ e=>absurd e h) λ _=>q
theorem Ks{a b:Str}(h:a=b)(q:A):br (dEq (.str a) (.str b)) A B:=aw (a=b) bz (λ _=>q) λ e=>absurd h e
def Kt(rows:List Rw)(nm w:Str)(rest:List Str):Prop:=(w = "lacking" /\ rest=[]/\ce rows nm=.lack)∨(w = "none" /\ rest=[]/\ce rows nm=.none)∨(w = "any" /\ rest=[]/\ce rows nm=.any)∨(w = "signs" /\ ∃ s,rest=[s]/\ce rows nm=.signs s)
theorem zO(R:zJ rows nm):∃ w rest,(gq ((rows.map (·.1)).map Sum.inr) (rows.map λ r=>aK r.2.1 r.2.2) (.inr nm)).getD (.tup [.str "lacking"])=aK w rest/\Kt rows nm w rest:=by
 cases e:eu rows nm with
 | some r=>
  refine⟨r.2.1,r.2.2,by rw[jo e];rfl,?_⟩;unfold Kt ce;rw[e];rcases R r e with ⟨h|h,e⟩|⟨h,y,e,_⟩
  ·exact .inr (.inl ⟨h,e,by simp only[h,if_true]⟩)
  ·exact .inr (.inr (.inl ⟨h,e,by simp only[h];rfl⟩))
  ·exact .inr (.inr (.inr ⟨h,y,e,by simp only[h,e];rfl⟩))
 | none=>
  refine⟨"lacking", [],?_,.inl ⟨rfl,rfl,by unfold ce;rw[e]⟩⟩
  have hno:∀ r∈rows,r.1≠nm:=λ r hr h=>by
   have:=List.find?_eq_none.mp e r hr;simp[h] at this
  rw[vd hno];rfl
@[irreducible] def bZ:Ct:=λ os P=>∃ (rows:List Rw) (t nm:Str) (p:Nat),os=[bf rows,.fz (.str t),.fz (.str nm),.fz (.int p)]/\zJ rows nm/\t.length<=1000/\P (.fz (dc (eh (ce rows nm) t p))) os
abbrev A8:Stmt:=top 62
abbrev Ku:FS:=
  (ao (cg (Jq (ab 0) (ab 2) (ib (aa (fC (.str "lacking")) ag))) (ac 4))
  (ao (fIf (aH (fOp aEq (fOp aIx (ab 4) (fC (.int 0))) (fC (.str "none"))))
   (bE (fC (.int 0)))
   bc)
  (ao (fIf (Gi (aH (fOp (iK (λ i j=>decide (i<j)) bd) (ab 3) (fCB eX (aa (ab 1) ag)))) (fOr (aH (fOp aEq (fOp aIx (ab 4) (fC (.int 0))) (fC (.str "any")))) (Gi (aH (fOp aEq (fOp aIx (ab 4) (fC (.int 0))) (fC (.str "signs")))) (aH (fOp aIn (fOp aIx (ab 1) (ab 3)) (fOp aIx (ab 4) (fC (.int 1))))))))
   (bE (fC (.int 1)))
   bc)
  (bE (fC .non)))))
theorem Kv:Lh bZ 4 [0]:=by delta bZ
theorem lM :dc (eh .lack z k)=.non:=rfl
theorem vg :dc (eh .none z k)=.int 0:=rfl
theorem oO :dc (eh .any z k)=if k<z.length then .int 1 else .non:=by
 rw[← jZ];show Jx (if k<z.length then some 1 else none)=_;split <;> rfl
theorem zP{s:Str}(h:¬ k<z.length):dc (eh (.signs s) z k)=.non:=by
 rw[← jZ,nY (List.getElem?_eq_none_iff.mpr (by rw[← fB];nofun))];rfl
theorem FQ{s:Str}(h:z.cps.toList[k]?=some c):dc (eh (.signs s) z k)=if c∈s.cps.toList then .int 1 else .non:=by
 rw[← jZ,tX h];split <;> rfl
theorem Kw:Hh bZ Ku [0] 5:=by
 intro os P h;unfold bZ at h;obtain⟨rows,t,nm,p,rfl,hL,ht,q⟩:=h;have sz:=cE;obtain⟨w,rest,eF,hF⟩:=zO hL;have two:∀ X:Prop,(w = "none" -> X)->(w ≠ "none" -> X)->X:=λ X a b=>(Classical.em (w = "none")).elim a b;ext;refine⟨lez 1,?_⟩;ext;rw[eF];ext;refine aB ?_;ext;refine cV ?_;ext;refine⟨aO,?_⟩;ext;refine aw (w = "none") bz (λ h0=>?_) (λ h0=>?_)
 ·ext;rcases hF with ⟨rfl,rfl,hL⟩|⟨rfl,rfl,hL⟩|⟨rfl,rfl,hL⟩|⟨rfl,s,rfl,hL⟩
  ·exact absurd h0 (by decide +kernel)
  ·rw[hL,vg] at q;exact q
  ·exact absurd h0 (by decide +kernel)
  ·exact absurd h0 (by decide +kernel)
 ·ext;refine aB ?_;ext;refine⟨by nofun,?_⟩;ext;refine aw ((p:Int)<t.length) decide_eq_true_iff (λ hpl=>?_) (λ hpl=>?_)
  ·have hpc:p<t.cps.toList.length:=by have:=cj t;nofun
   obtain⟨c,hc⟩:∃ c,t.cps.toList[p]?=some c:=⟨_,List.getElem?_eq_getElem hpc⟩;rcases hF with ⟨rfl,rfl,hL⟩|⟨rfl,rfl,hL⟩|⟨rfl,rfl,hL⟩|⟨rfl,s,rfl,hL⟩
   ·ext;refine⟨aO,?_⟩;ext;refine FP (by decide) ?_;ext;refine⟨aO,?_⟩;ext;refine FP (by decide) ?_;ext;refine cY ?_;ext;rw[hL,lM] at q;exact q
   ·exact absurd rfl h0
   ·ext;refine⟨aO,?_⟩;ext;refine Ks rfl ?_;ext;refine cU ?_;ext;rw[hL,oO,if_pos (by nofun)] at q;exact q
   ·ext;refine⟨aO,?_⟩;ext;refine FP (by decide) ?_;ext;refine⟨aO,?_⟩;ext;refine Ks rfl ?_;ext;refine⟨by nofun,?_⟩;rw[show atI t.cps.toList (p:Int)=some c from cF hc];ext;rw[hL,FQ hc] at q;refine aw (c∈s.cps.toList) decide_eq_true_iff (λ hm=>?_) (λ hm=>?_)
    ·ext;rw[if_pos hm] at q;exact q
    ·ext;rw[if_neg hm] at q;exact q
  ·ext;refine cY ?_;ext;rcases hF with ⟨rfl,rfl,hL⟩|⟨rfl,rfl,hL⟩|⟨rfl,rfl,hL⟩|⟨rfl,s,rfl,hL⟩
   ·rw[hL,lM] at q;exact q
   ·exact absurd rfl h0
   ·rw[hL,oO,if_neg (by nofun)] at q;exact q
   ·rw[hL,zP (by nofun)] at q;exact q
theorem FR{p:Nat}(hL:zJ rows nm)(ht:t.length<=1000)(h:P (.fz (dc (eh (ce rows nm) t p))) [bf rows,.fz (.str t),.fz (.str nm),.fz (.int p)]):bZ [bf rows,.fz (.str t),.fz (.str nm),.fz (.int p)] P:=by
 unfold bZ;exact⟨rows,t,nm,p,rfl,hL,ht,h⟩
def cJ(L:Str->Nat->Option Nat):List Str->Nat->Option Nat×Nat×List Str
 |[],a=>(none,a,[])
 | [x],a=>(match L x a with
  |none=>none
  |some l=>some (a+l),a,[x])
 | x::v::xs,a=>match L x a with
  |none=>(none,a,[x])
  |some l=>((cJ L (v::xs) (a+l)).1,(cJ L (v::xs) (a+l)).2.1,x::(cJ L (v::xs) (a+l)).2.2)
def zQ(ls us:List Str):List Str:=us.foldl (λ l u=>iw l [u]) ls
theorem lN:∀ {us ls:List Str} {v:Str},v∈zQ ls us↔v∈ls∨v∈us
 |[],ls,v=>by show v∈ls↔_;simp
 | u::us,ls,v=>by
  show v∈zQ (iw ls [u]) us↔_;rw[lN,fF];simp only[List.mem_cons,List.not_mem_nil,or_false,or_assoc]
section
variable    {p:Nat}
theorem vh{p:List Str}(h:w = "row"):cf w p s x=qg p { s with st:=s.st++[ah p s] } x:=if_pos h
theorem vi{L:Str->Nat->Option Nat}(hL:∀ x a l,L x a=some l->a<=t.length->a+l<=t.length):∀ {ps:List Str} {a:Nat},a<=t.length->a<=(cJ L ps a).2.1/\(cJ L ps a).2.1<=t.length/\∀ e,(cJ L ps a).1=some e->a<=e/\e<=t.length
 |[],a,ha=>⟨aac _,ha,λ e z=>nomatch z⟩
 | [x],a,ha=>by
  refine⟨aac _,ha,λ e z=>?_⟩;unfold cJ at z
  cases h:L x a with
  |none=>rw [h] at z;cases z
  |some l=>rw [h] at z;cases z;exact ⟨Nat.le_add_right _ _,hL x a l h ha⟩
 | x::v::xs,a,ha=>by
  unfold cJ
  cases h:L x a with
  |none=>exact ⟨aac _,ha,fun e z=>nomatch z⟩
  | some l=>
   have h1:=hL x a l h ha;obtain⟨h2,h3,h4⟩:=vi hL (ps:=v::xs) h1;exact⟨by show a<=(cJ L (v::xs) (a+l)).2.1;nofun,h3,λ e z=>by have:=h4 e z;nofun⟩
theorem Kx{lf:Str->Leaf}:∀ (xs:List Str) (dn:List Str) (a far f:Nat) (st:List Sp2) (ls:List Str),ps=dn++xs->xs≠[]->(∀ x∈xs,R x=.leaf (lf x))->p<=a->a<=t.length->far<=a ->
  goF R t (xs.length+2+f) ⟨.comp "row" ps,y,p,a,dn.length,st,false,none⟩ far ls=some ⟨(cJ (λ x a=>eh (lf x) t a) xs a).1.map (λ e=>e - p),(cJ (λ x a=>eh (lf x) t a) xs a).2.1,zQ ls (cJ (λ x a=>eh (lf x) t a) xs a).2.2⟩:=by
 intro xs
 induction xs with
 |nil=>intro dn a far f st ls _ h;exact absurd rfl h
 | cons x xs ih=>
  intro dn a far f st ls hps _ hR hpa hat hfa
  have hw:ah ps ⟨.comp "row" ps,y,p,a,dn.length,st,false,none⟩=(x,a):=by
   show (ps.getD dn.length "", a)=_;rw[hps,List.getD_eq_getElem?_getD,List.getElem?_append_right (aac _),Nat.sub_self];rfl
  have hl:ps.length=dn.length+(xs.length+1):=by rw[hps,aag,abO]
  have ef:(x::xs).length+2+f=(xs.length+1+f)+1+1:=by rw[abO];nofun
  have ht:rdF R t ((xs.length+1+f)+1) (ah ps ⟨.comp "row" ps,y,p,a,dn.length,st,false,none⟩).1 (ah ps ⟨.comp "row" ps,y,p,a,dn.length,st,false,none⟩).2=some ⟨eh (lf x) t a,a,[x]⟩:=by
   rw[hw];exact ve (hR x (aab ..))
  rw[ef,iM rfl rfl ht,vh rfl];have em:max far a=a:=Nat.max_eq_right hfa;show goF R t (xs.length+1+f+1) (qg ps ⟨.comp "row" ps,y,p,a,dn.length,st++[ah ps ⟨.comp "row" ps,y,p,a,dn.length,st,false,none⟩],false,none⟩ (eh (lf x) t a)) (max far a) (iw ls [x])=_;rw[em,hw]
  cases e:eh (lf x) t a with
  | none=>
   have er:cJ (λ x a=>eh (lf x) t a) (x::xs) a=(none,a,[x]):=by
    cases xs with
    |nil=>show ((match eh (lf x) t a with|none=>none|some l=>some (a+l)),a,[x])=_;rw[e]
    |cons v xs=>show (match eh (lf x) t a with|none=>(none,a,[x])|some l=>_)=_;rw[e]
   rw[er];exact mJ rfl
  | some l=>
   have hle:=mK hat e
   cases xs with
   | nil=>
    have er:cJ (λ x a=>eh (lf x) t a) [x] a=(some (a+l),a,[x]):=by
     show ((match eh (lf x) t a with|none=>none|some l=>some (a+l)),a,[x])=_;rw[e]
    rw[er,show qg ps ⟨.comp "row" ps,y,p,a,dn.length,st++[(x,a)],false,none⟩ (some l)=⟨.comp "row" ps,y,p,a+l,dn.length+1,st++[(x,a)],true,some (a+l - p)⟩ from if_pos (show dn.length+1=ps.length by rw[hl];rfl)];exact mJ rfl
   | cons v xs=>
    have er:cJ (λ x a=>eh (lf x) t a) (x::v::xs) a=((cJ (λ x a=>eh (lf x) t a) (v::xs) (a+l)).1,(cJ (λ x a=>eh (lf x) t a) (v::xs) (a+l)).2.1,x::(cJ (λ x a=>eh (lf x) t a) (v::xs) (a+l)).2.2):=by
     show (match eh (lf x) t a with|none=>(none,a,[x])|some l=>_)=_;rw[e]
    rw[er,show qg ps ⟨.comp "row" ps,y,p,a,dn.length,st++[(x,a)],false,none⟩ (some l)=⟨.comp "row" ps,y,p,a+l,dn.length+1,st++[(x,a)],false,none⟩ from if_neg (show ¬ dn.length+1=ps.length by rw[hl,abO];nofun)];have:=ih (dn++[x]) (a+l) a f (st++[(x,a)]) (iw ls [x]) (by rw[hps,aas];rfl) (λ z=>nomatch z) (λ x hx=>hR x (aad _ hx)) (by nofun) hle (by nofun);rw[show (dn++[x]).length=dn.length+1 by rw[aag];rfl] at this;rw[show (v::xs).length+1+f+1=(v::xs).length+2+f by nofun];exact this
end
theorem lO{x v:Str}{a l:Nat}(h:L x a=some l):cJ L (x::v::xs) a=((cJ L (v::xs) (a+l)).1,(cJ L (v::xs) (a+l)).2.1,x::(cJ L (v::xs) (a+l)).2.2):=by
 show (match L x a with|none=>(none,a,[x])|some l=>_)=_;rw[h]
theorem fJ{x:Str}{a:Nat}(h:L x a=none):cJ L (x::xs) a=(none,a,[x]):=by
 cases xs with
 |nil=>show ((match L x a with|none=>none|some l=>some (a+l)),a,[x])=_;rw[h]
 |cons v xs=>show (match L x a with|none=>(none,a,[x])|some l=>_)=_;rw[h]
theorem kb{x:Str}{a l:Nat}(h:L x a=some l):cJ L [x] a=(some (a+l),a,[x]):=by
 show ((match L x a with|none=>none|some l=>some (a+l)),a,[x])=_;rw[h]
abbrev LfR(rw':List Rw)(t:Str):Str->Nat->Option Nat:=λ x a=>eh (ce rw' x) t a
abbrev Ky(r:Option Nat×Nat×List Str)(a:Nat):D:=.tup [dc (r.1.map λ e=>e - a),.int r.2.1,.lst (r.2.2.map .str)]
@[irreducible] def cz:Ct:=λ os P=>∃ (rw':List Rw) (t:Str) (ps:List Str) (a:Nat),os=[bf rw',.fz (.str t),.fz (.lst (ps.map .str)),.fz (.int a)]/\(∀ x∈ps,zJ rw' x)/\ps≠[]/\ps.length<=8/\t.length<=1000/\P (.fz (Ky (cJ (LfR rw' t) ps a) a)) os
abbrev Kz:Stmt:=top 63
abbrev M7:FS:=
  (ao (cg (ab 3) (ac 4))
  (ao (cL 5 (jD ag))
  (ao (pN (cD (ab 2)) (ac 6)
   (ao (b5 (xj 5 (ab 6)))
  (ao (cg (am bZ (aa (ab 0) (aa (fFz (ab 1)) (aa (fFz (ab 6)) (aa (fFz (ab 4)) ag))))) (ac 7))
  (ao (fIf (aH (fOp xF (ab 7) (fC .non)))
   (bE (ib (aa (fC .non) (aa (ab 4) (aa (ab 5) ag)))))
   bc)
  (fIf (aH (fOp (iK (λ i j=>decide (i<j)) bd) (fCB eX (aa (ab 5) ag)) (fCB eX (aa (ab 2) ag))))
   (cg (fOp eC (ab 4) (ab 7)) (ac 4))
   (bE (ib (aa (fOp (aI0 λ i j=>.int (i - j)) (fOp eC (ab 4) (ab 7)) (ab 3)) (aa (ab 4) (aa (ab 5) ag))))))))))
  (bE (ib (aa (fC .non) (aa (ab 3) (aa (ab 5) ag))))))))
theorem M8:Lh cz 4 [0]:=by delta cz
theorem M9:Hh cz M7 [0] 8:=by
 intro os P h;unfold cz at h;obtain⟨rw',t,ps,a,rfl,hlf,hne,hpl,htl,q⟩:=h;have sz:=cE;have hp1:1<=ps.length:=by cases ps with|nil=>exact absurd rfl hne|cons=>simp
 ext;refine⟨aaq _,?_⟩;ext
 refine bQ (λ i ρ=>∃ (b:Nat) (x6 x7:Option OV),i<ps.length/\a<=b/\(cJ (LfR rw' t) ps a)=((cJ (LfR rw' t) (ps.drop i) b).1,(cJ (LfR rw' t) (ps.drop i) b).2.1,ps.take i++(cJ (LfR rw' t) (ps.drop i) b).2.2)/\ρ=[some (bf rw'),some (.fz (.str t)),some (.fz (.lst (ps.map .str))),some (.fz (.int a)),some (.fz (.int b)),some (.fl ((ps.take i).map .str)),x6,x7])
  ⟨a,none,none,by nofun,aac _,rfl,rfl⟩ ?_ ?_
 ·rintro i d ρ R' hd ⟨b,x6,x7,hi,hab,hr,rfl⟩ kk
  obtain⟨x,hx,rfl⟩:∃ x,ps[i]?=some x/\d=.str x:=by
   rw[List.getElem?_map,aap] at hd;obtain⟨r,h1,h2⟩:=hd;exact⟨r,h1,h2.symm⟩
  have hxl:=hlf x (List.mem_of_getElem? hx)
  have hdr:ps.drop i=x::ps.drop (i+1):=by
   rw[aaw hi]
   congr 1
   exact(List.getElem?_eq_some_iff.mp hx).2
  have htk:ps.take (i+1)=ps.take i++[x]:=by rw[aat,hx];rfl
  have eS:(ps.take i).map D.str++[D.str x]=(ps.take (i+1)).map D.str:=by rw[htk,aaf];rfl
  have htl1:(ps.take (i+1)).length=i+1:=by rw[aao];nofun
  rw[hdr] at hr;ext;refine⟨rfl,?_⟩;ext;refine⟨by rw[abK,aao];nofun,?_⟩;rw[eS];ext;refine FR hxl htl ?_
  cases e:eh (ce rw' x) t b with
  | none=>
   rw[fJ (L:=LfR rw' t) e] at hr;rw[hr] at q;ext;refine aB ?_;ext;refine cU ?_;ext;refine⟨lez 3,?_⟩;ext;rw[htk];exact q
  | some l=>
   ext;refine aB ?_;ext;refine cY ?_;ext;refine aB ?_;ext;rw[abK,abK,htl1];refine aw (i+1<ps.length) (by rw[decide_eq_true_iff];nofun) (λ hlt=>?_) (λ hlt=>?_)
   ·ext;have hd2:ps.drop (i+1)=ps[i+1]::ps.drop (i+2):=aaw hlt;rw[hd2,lO (L:=LfR rw' t) e,← hd2] at hr;refine kk _ ⟨b+l,_,_,hlt,by nofun,?_,rfl⟩;rw[hr,htk,aas];rfl
   ·have hd2:ps.drop (i+1)=[]:=List.drop_eq_nil_of_le (by nofun);rw[hd2,kb (L:=LfR rw' t) e] at hr;rw[hr] at q;ext;refine⟨lez 3,?_⟩;ext;rw[htk];have e9:((b:Int)+(l:Int) - (a:Int))=((b+l - a:Nat):Int):=by nofun
    show P (.fz (.tup [.int ((b:Int)+(l:Int) - (a:Int)),.int b,.lst ((ps.take i++[x]).map .str)])) _;rw[e9];exact q
 ·rintro ρ ⟨b,x6,x7,hi,_⟩;rw[abK] at hi;nofun
theorem KA{a:Nat}(h1:∀ x∈ps,zJ rw' x)(h2:ps≠[])(h3:ps.length<=8)(h4:t.length<=1000)(h:P (.fz (Ky (cJ (LfR rw' t) ps a) a)) [bf rw',.fz (.str t),.fz (.lst (ps.map .str)),.fz (.int a)]):cz [bf rw',.fz (.str t),.fz (.lst (ps.map .str)),.fz (.int a)] P:=by
 unfold cz;exact⟨rw',t,ps,a,rfl,h1,h2,h3,h4,h⟩
def A9(R:Rls)(t:Str)(rw':List Rw)(ps:List Str)(pt:Str):Prop:=∀ b f,b<=t.length->∃ ls',rdF R t (12+f) pt b=some ⟨(cJ (LfR rw' t) ps b).1.map (λ e=>e - b),(cJ (LfR rw' t) ps b).2.1,ls'⟩/\∀ v,v∈ls'↔v=pt∨v∈(cJ (LfR rw' t) ps b).2.2
def goOn:Option Nat->Bool
 |some (_+1)=>true
 |_=>false
structure AgI(R:Rls)(t:Str)(pt root:Str)(p F j a far:Nat)(st:List Sp2)(ls acc:List Str)(gn:Bool):Prop where
 az:a<=t.length
 pa:p<=a
 pf:p<=far
 nd:ls.Nodup
 mem:∀ v,v∈ls↔v=root∨(0<j/\v=pt)∨v∈acc
 sn:st.Nodup
 lo:∀ q∈st,if gn=true then q.2<a else q.2<=a
 sl:st.length=j
 jl:j+(if gn=true then 1 else 0)<=a - p+1
 go:∃ s:As,goF R t F (cX R t root p) p [root]=goF R t (F - j) s far ls/\eI R t F (cX R t root p)=eI R t (F - j) s/\s.st=st /\
  ((gn=true/\s=⟨.comp "again" [pt],root,p,a,0,st,false,none⟩)∨(gn=false/\s.dn=true/\s.ln=some (a - p)))
theorem jr(h:w = "again"):cf w p s x=dB { s with st:=s.st++[ah p s] } x:=(if_neg (by rw[h];decide +kernel)).trans ((if_neg (by rw[h];decide +kernel)).trans (if_pos h))
section
variable     {pt root:Str} {p F j a:Nat}  {acc:List Str}
theorem AgI.step(I:AgI R t pt root p F j a far st ls acc true)(hP:A9 R t rw' ps pt)(hps:ps≠[])(hF:t.length+20<=F) :
  ∃ ls',(∀ l,(cJ (LfR rw' t) ps a).1.map (λ e=>e - a)=some l->a+l<=t.length) /\
   AgI R t pt root p F (j+1) (a+((cJ (LfR rw' t) ps a).1.map (λ e=>e - a)).getD 0) (max far (cJ (LfR rw' t) ps a).2.1) (st++[(pt,a)]) ls' (acc++(cJ (LfR rw' t) ps a).2.2) (goOn ((cJ (LfR rw' t) ps a).1.map (λ e=>e - a))):=by
 obtain⟨s,g1,g2,g3,g4⟩:=I.go;have hjl:=I.jl;rw[if_pos rfl] at hjl;have haz:=I.az;have hpa:=I.pa;have hpf:=I.pf;have hsl:=I.sl;obtain⟨f1,f2,f3⟩:=vi (t:=t) (L:=LfR rw' t) (λ x a l h ha=>mK ha h) (ps:=ps) haz;generalize hr:cJ (LfR rw' t) ps a=r at *
 have hle:∀ l,r.1.map (λ e=>e - a)=some l->a+l<=t.length:=λ l h=>by
  cases e:r.1 with
  |none=>rw [e] at h;cases h
  | some v=>
   rw[e] at h;have h':v - a=l:=aaj h;have:=f3 v e;nofun
 rcases g4 with ⟨_,rfl⟩|⟨z,_⟩
 ·obtain⟨b,hb⟩:∃ b,F - (j+1)=12+b:=⟨F - (j+1) - 12,by nofun⟩;have ha:F - j=(12+b)+1:=by nofun
  obtain⟨ls',hrd,hm⟩:=hP a b haz;rw[hr] at hrd hm;have ht:rdF R t (12+b) (ah [pt] ⟨.comp "again" [pt],root,p,a,0,st,false,none⟩).1 (ah [pt] ⟨.comp "again" [pt],root,p,a,0,st,false,none⟩).2=some ⟨r.1.map (λ e=>e - a),r.2.1,ls'⟩:=hrd;rw[ha,iM rfl rfl ht,jr rfl] at g1;rw[ha,lr rfl rfl ht,jr rfl] at g2
  have hm':∀ v,v∈iw ls ls'↔v=root∨(0<j+1/\v=pt)∨v∈acc++r.2.2:=λ v=>by
   rw[fF,I.mem,hm,abL];constructor
   ·rintro ((h|⟨_,h⟩|h)|(h|h))
    ·exact .inl h
    ·exact .inr (.inl ⟨by nofun,h⟩)
    ·exact .inr (.inr (.inl h))
    ·exact .inr (.inl ⟨by nofun,h⟩)
    ·exact .inr (.inr (.inr h))
   ·rintro (h|⟨_,h⟩|h|h)
    ·exact .inl (.inl h)
    ·exact .inr (.inl h)
    ·exact .inl (.inr (.inr h))
    ·exact .inr (.inr h)
  have hsn:(st++[(pt,a)]).Nodup:=abV.mpr ⟨I.sn,by simp,λ q hq q' hq' e=>by
   have:=I.lo q hq;rw[if_pos rfl,e,abN.mp hq'] at this;exact absurd this (aaR _)⟩
  have hlo:∀ q∈st++[(pt,a)],q.2<=a:=λ q hq=>by
   rcases abL.mp hq with h|h
   ·have:=I.lo q h;rw[if_pos rfl] at this;nofun
   ·rw[abN.mp h];exact aac _
  have hsl':(st++[(pt,a)]).length=j+1:=by rw[aag,hsl];rfl
  refine⟨iw ls ls',hle,?_⟩;generalize r.1.map (λ e=>e - a)=x at *;have mk:∀ s':As,dB { (⟨.comp "again" [pt],root,p,a,0,st,false,none⟩:As) with st:=st++[(pt,a)] } x=s'->goF R t F (cX R t root p) p [root]=goF R t (12+b) s' (max far r.2.1) (iw ls ls')/\eI R t F (cX R t root p)=eI R t (12+b) s':=λ s' e1=>⟨by rw[g1,← e1];rfl,by rw[g2,← e1];rfl⟩
  have stop:(x=none∨x=some 0)->AgI R t pt root p F (j+1) a (max far r.2.1) (st++[(pt,a)]) (iw ls ls') (acc++r.2.2) false:=λ h=>by
   obtain⟨g1',g2'⟩:=mk ⟨.comp "again" [pt],root,p,a,0,st++[(pt,a)],true,some (a - p)⟩ (if_pos h);exact⟨haz,hpa,by nofun,iA I.nd,hm',hsn,λ q hq=>by rw[if_neg (by decide)];exact hlo q hq,hsl',by rw[if_neg (by decide)];nofun,_,by rw[hb];exact g1',by rw[hb];exact g2',rfl,.inr ⟨rfl,rfl,rfl⟩⟩
  match x,stop,mk,hle with
  |none,stop,_,_=>exact stop (.inl rfl)
  |some 0,stop,_,_=>exact stop (.inr rfl)
  | some (l+1),_,mk,hle=>
   have hl:=hle (l+1) rfl;obtain⟨g1',g2'⟩:=mk ⟨.comp "again" [pt],root,p,a+(l+1),0,st++[(pt,a)],false,none⟩ (if_neg λ z=>z.elim (λ y=>nomatch y) λ y=>nomatch y);show AgI R t pt root p F (j+1) (a+(l+1)) (max far r.2.1) (st++[(pt,a)]) (iw ls ls') (acc++r.2.2) true;exact⟨hl,by show p<=a+(l+1);nofun,by nofun,iA I.nd,hm',hsn,λ q hq=>by rw[if_pos rfl];have:=hlo q hq;show q.2<a+(l+1);nofun,hsl',by rw[if_pos rfl];show j+1+1<=a+(l+1) - p+1;nofun,_,by rw[hb];exact g1',by rw[hb];exact g2',rfl,.inl ⟨rfl,rfl⟩⟩
 ·cases z
theorem AgI.fin(I:AgI R t pt root p F j a far st ls acc false)(hF:t.length+20<=F):rdF R t F root p=some ⟨some (a - p),far,ls⟩/\t9 R t F (root,p)=st:=by
 obtain⟨s,g1,g2,g3,g4⟩:=I.go;have hjl:=I.jl;have haz:=I.az;rw[if_neg (by decide)] at hjl;obtain⟨b,hb⟩:∃ b,F - j=b+1:=⟨F - j - 1,by nofun⟩;rcases g4 with ⟨z,_⟩|⟨_,h1,h2⟩
 ·cases z
 ·refine⟨?_,?_⟩
  ·show goF R t F (cX R t root p) p [root]=_;rw[g1,hb,mJ h1,h2]
  ·unfold t9;show (eI R t F (cX R t root p)).st=st;rw[g2,lq h1];exact g3
end
theorem oP:∀ {st ls:List Sp2},(ls++st).Nodup->dE ls st=ls++st
 |[],ls,_=>by show ls=ls++[];rw[aay]
 | q::st,ls,h=>by
  show dE (if q∈ls then ls else ls++[q]) st=_
  have hq:q∉ls:=λ hm=>by
   have:=(abV.mp h).2.2 q hm q (aab ..);exact this rfl
  have e:ls++q::st=(ls++[q])++st:=by rw[aas];rfl
  rw[if_neg hq,e];exact oP (by rw[← e];exact h)
theorem lP{L:Str->Nat->Option Nat}:∀ {ps:List Str} {a:Nat},(cJ L ps a).2.2.length<=ps.length/\∀ v∈(cJ L ps a).2.2,v∈ps
 |[],a=>⟨aac _,λ v h=>h⟩
 |[x],a=>⟨aac _,λ v h=>h⟩
 | x::v::xs,a=>by
  cases h:L x a with
  |none=>rw [fJ h];exact ⟨by simp,fun u hu=>by rw [List.mem_singleton.mp hu];exact aab ..⟩
  | some l=>
   rw[lO h];obtain⟨h1,h2⟩:=lP (ps:=v::xs) (a:=a+l) (L:=L);exact⟨abo h1,λ u hu=>(abQ.mp hu).elim (λ e=>e ▸ aab ..) λ h=>aad _ (h2 u h)⟩
@[irreducible] def cA:Ct:=λ os P=>∃ (rw':List Rw) (t:Str) (ps:List Str) (pt:Str) (p:Nat) (R:Rls) (root:Str),os=[bf rw',.fz (.str t),.fz (.lst (ps.map .str)),.fz (.str pt),.fz (.int p)]/\(∀ x∈ps,zJ rw' x)/\ps≠[]/\ps.length<=8/\t.length<=100/\p<=t.length/\A9 R t rw' ps pt/\R root=.comp "again" [pt] /\
 ∀ (a far:Nat) (st:List Sp2) (ls acc:List Str),rdF R t (t.length+20) root p=some ⟨some (a - p),far,ls⟩->t9 R t (t.length+20) (root,p)=st->st.Nodup->st.length<=102->p<=a->p<=far->ls.Nodup->(∀ v,v∈ls↔v=root∨v=pt∨v∈acc)->(∀ v∈acc,v∈ps)->acc.length<=1000->P (.fz (.tup [.int ((a - p:Nat):Int),.int ((far:Int) - (p:Int)+1),.lst (st.map bL),.lst ((pt::acc).map .str)])) os
abbrev KB:Stmt:=top 64
abbrev Na:FS:=
  (ao (cg (ab 4) (ac 5))
  (ao (cg (ab 4) (ac 6))
  (ao (cL 7 (jD ag))
  (ao (cg (jD (aa (ab 3) ag)) (ac 8))
  (ao (cg (fC (.bl true)) (ac 9))
  (ao (ie (Dh (ab 9))
   (ao (b5 (xj 7 (ib (aa (ab 3) (aa (ab 5) ag)))))
  (ao (cg (am cz (aa (ab 0) (aa (fFz (ab 1)) (aa (fFz (ab 2)) (aa (fFz (ab 5)) ag))))) (jF 3 (bG (ac 10) (bG (ac 11) (bG (ac 12) jE)))))
  (ao (cg (fCB Ls (aa (ab 6) (aa (ab 11) ag))) (ac 6))
  (ao (cg (fOp eC (ab 8) (ab 12)) (ac 8))
  (ao (cg (ia (fOp mD (ab 10) (fC .non)) (fOp (iK (λ i j=>decide (j<i)) λ i j=>bd j i) (ab 10) (fC (.int 0)))) (ac 9))
  (fIf (Dh (ab 9))
   (cg (fOp eC (ab 5) (ab 10)) (ac 5))
   bc)))))))
  (bE (ib (aa (fOp (aI0 λ i j=>.int (i - j)) (ab 5) (ab 4)) (aa (fOp eC (fOp (aI0 λ i j=>.int (i - j)) (ab 6) (ab 4)) (fC (.int 1))) (aa (ab 7) (aa (ab 8) ag))))))))))))
theorem Nb:Lh cA 5 [0]:=by delta cA
theorem Nc:Hh cA Na [0] 13:=by
 intro os P h;unfold cA at h;obtain⟨rw',t,ps,pt,p,R,root,rfl,hlf,hne,hpl,htl,hp,hP,hR,q⟩:=h;have sz:=cE;ext;refine⟨aaq _,?_⟩;ext;refine⟨lez 1,?_⟩;ext
 refine dQ (λ m ρ=>∃ (j a far:Nat) (st:List Sp2) (ls acc:List Str) (gn:Bool) (x10 x11 x12:Option OV),AgI R t pt root p (t.length+20) j a far st ls acc gn/\acc.length<=8*j/\(∀ v∈acc,v∈ps)/\(gn=false->0<j)/\m=(if gn=true then t.length+1 - a else 0)/\ρ=[some (bf rw'),some (.fz (.str t)),some (.fz (.lst (ps.map .str))),some (.fz (.str pt)),some (.fz (.int p)),some (.fz (.int a)),some (.fz (.int far)),some (.fl (st.map bL)),some (.fz (.lst ((pt::acc).map .str))),some (.fz (.bl gn)),x10,x11,x12]) (t.length+1 - p)
  ⟨0,p,p,[],[root],[],true,none,none,none,⟨hp,aac _,aac _,by simp,λ v=>by simp,aaB,(λ _ h=>nomatch h),rfl,by rw[if_pos rfl];nofun,⟨.comp "again" [pt],root,p,p,0,[],false,none⟩,?_,?_,rfl,.inl ⟨rfl,rfl⟩⟩,by simp,(λ _ h=>nomatch h),(λ z=>nomatch z),by rw[if_pos rfl],rfl⟩ ?_
 ·rw[show cX R t root p=⟨.comp "again" [pt],root,p,p,0,[],false,none⟩ by unfold cX;rw[hR]];rfl
 ·rw[show cX R t root p=⟨.comp "again" [pt],root,p,p,0,[],false,none⟩ by unfold cX;rw[hR]];rfl
 rintro m ρ Rr ⟨j,a,far,st,ls,acc,gn,x10,x11,x12,I,hal,has,hj0,hm,rfl⟩ kk;have haz:=I.az;have hpa:=I.pa;have hsl:=I.sl;have hjl:=I.jl
 cases gn with
 | true=>
  obtain⟨ls',hle,J⟩:=I.step hP hne (aac _);rw[if_pos rfl] at hm hjl;obtain⟨u1,u2⟩:=lP (L:=LfR rw' t) (ps:=ps) (a:=a);have em:(if ((cJ (LfR rw' t) ps a).2.1:Int) > (far:Int) then ((cJ (LfR rw' t) ps a).2.1:Int) else (far:Int))=((max far (cJ (LfR rw' t) ps a).2.1:Nat):Int):=by split <;> nofun
  ext;refine cU ?_;ext;refine⟨rfl,?_⟩;ext;refine⟨lez 2,?_⟩;ext;refine⟨by rw[abK];nofun,?_⟩;ext;refine KA hlf hne hpl (by nofun) ?_;generalize cJ (LfR rw' t) ps a=r at *;have eS:(pt::acc).map D.str++r.2.2.map D.str=(pt::(acc++r.2.2)).map D.str:=by rw[abM,abM,aaf];rfl
  have eT:st.map bL++[D.tup [D.str pt,D.int (a:Int)]]=(st++[(pt,a)]).map bL:=by rw[aaf];rfl
  have hal':(acc++r.2.2).length<=8*(j+1):=by rw[aag];nofun
  have has':∀ v∈acc++r.2.2,v∈ps:=λ v hv=>(abL.mp hv).elim (has v) (u2 v);ext;refine⟨rfl,?_⟩;rw[eT];ext;rw[em];refine⟨by rw[abK,abK,abO];nofun,?_⟩;rw[eS];generalize Option.map (λ e=>e - a) r.1=x at *
  match x,J,hle with
  | none,J,_=>
   ext;refine cY ?_;ext;refine aB ?_;ext;refine cY ?_;exact kk 0 _ (by nofun) ⟨j+1,a,_,_,ls',_,false,_,_,_,J,hal',has',λ _=>Nat.succ_pos _,rfl,rfl⟩
  | some 0,J,_=>
   ext;refine cU ?_;ext;refine aB ?_;ext;refine cY ?_;exact kk 0 _ (by nofun) ⟨j+1,a,_,_,ls',_,false,_,_,_,J,hal',has',λ _=>Nat.succ_pos _,rfl,rfl⟩
  | some (l+1),J,hle=>
   have hl:=hle (l+1) rfl;ext;refine cU ?_;ext;refine aB ?_;ext;have hpos:(0:Int)<((l+1:Nat):Int):=by nofun
   refine aw ((0:Int)<((l+1:Nat):Int)) decide_eq_true_iff (λ _=>?_) (λ h=>absurd hpos h);refine kk (t.length+1 - (a+(l+1))) _ (by nofun) ⟨j+1,a+(l+1),_,_,ls',_,true,some (.fz (dc (some (l+1)))),some (.fz (.int r.2.1)),some (.fz (.lst (r.2.2.map .str))),J,hal',has',(λ z=>nomatch z),by rw[if_pos rfl],?_⟩;simp only[hpos,decide_true];rfl
 | false=>
  obtain⟨f1,f2⟩:=I.fin (aac _);rw[if_neg (by decide)] at hjl;ext;refine cY ?_;ext;refine⟨lez 4,?_⟩;ext;have e9:((a:Int) - (p:Int))=((a - p:Nat):Int):=by nofun
  have:=q a far st ls acc f1 f2 I.sn (by nofun) hpa I.pf I.nd (λ v=>by rw[I.mem];simp[hj0 rfl]) has (by nofun);rw[← e9] at this;exact this
theorem KC{pt:Str}{p:Nat}(R:Rls)(root:Str)(h1:∀ x∈ps,zJ rw' x)(h2:ps≠[])(h3:ps.length<=8)(h4:t.length<=100)(h5:p<=t.length)(h6:A9 R t rw' ps pt)(h7:R root=.comp "again" [pt])
  (h:∀ (a far:Nat) (st:List Sp2) (ls acc:List Str),rdF R t (t.length+20) root p=some ⟨some (a - p),far,ls⟩->t9 R t (t.length+20) (root,p)=st->st.Nodup->st.length<=102->p<=a->p<=far->ls.Nodup->(∀ v,v∈ls↔v=root∨v=pt∨v∈acc)->(∀ v∈acc,v∈ps)->acc.length<=1000->P (.fz (.tup [.int ((a - p:Nat):Int),.int ((far:Int) - (p:Int)+1),.lst (st.map bL),.lst ((pt::acc).map .str)])) [bf rw',.fz (.str t),.fz (.lst (ps.map .str)),.fz (.str pt),.fz (.int p)]):cA [bf rw',.fz (.str t),.fz (.lst (ps.map .str)),.fz (.str pt),.fz (.int p)] P:=by
 unfold cA;exact⟨rw',t,ps,pt,p,R,root,rfl,h1,h2,h3,h4,h5,h6,h7,h⟩
@[irreducible] def b4:Ct:=λ os P=>∃ (z:Int) (k:Nat),os=[.fz (.int z),.fz (.int k)]/\k<=100/\P (.fz (.bl true)) os
abbrev Ba:Stmt:=top 65
abbrev KD:FS:=
  (ao (cL 2 (am bW (aa (fFz (ab 0)) (aa (fFz (ab 1)) ag))))
  (ao (Jt 3 4 (am bw (aa (ab 2) (aa (fFz (fOp eC (fC (.int 2)) (am ai (aa (ab 2) (aa (fC (.int 4)) ag))))) ag))))
  (ao (cg (ci [3,2] 1 (eB (aa (fOp eC (fC (.int 1)) (am ai (aa (ab 2) (aa (fC (.int 4)) ag)))) ag)) (ac 0) kS (fOp aIx (ab 4) (am ai (aa (ab 3) (aa (fFz (fCB eX (aa (ab 4) ag))) ag))))) (ac 5))
  (ao (cg (am bX (aa (ab 2) (aa (ab 4) (aa (fC (.int 12)) ag)))) (ac 6))
  (ao (cg (am ai (aa (ab 2) (aa (fFz (fOp eC (fCB eX (aa (ab 6) ag)) (fC (.int 1)))) ag))) (ac 7))
  (ao (cL 8 (jD ag))
  (ao (pN (eB (aa (fC (.int 3)) ag)) (ac 9)
   (b5 (xj 8 (am aP (aa (ab 2) (aa (fOp eC (ab 3) (ab 8)) ag))))))
  (ao (mr 4 (fOp eC (ib (aa (fC (.str "row")) ag)) (fCB Az (aa (ab 5) ag))) (fOp aIx (ab 8) (fC (.int 0))))
  (ao (mr 4 (ib (aa (fC (.str "again")) (aa (fOp aIx (ab 8) (fC (.int 0))) ag))) (fOp aIx (ab 8) (fC (.int 1))))
  (ao (mr 4 (ib (aa (fC (.str "again")) (aa (fOp aIx (ab 5) (fC (.int 0))) ag))) (fOp aIx (ab 8) (fC (.int 2))))
  (ao (cg (am bo (aa (ab 4) ag)) (ac 10))
  (ao (pN (cD (jD (aa (ib (aa (fOp aIx (ab 8) (fC (.int 1))) (aa (fOp aIx (ab 8) (fC (.int 0))) (aa (ab 5) ag)))) (aa (ib (aa (fOp aIx (ab 8) (fC (.int 2))) (aa (fOp aIx (ab 5) (fC (.int 0))) (aa (fSl aSl (ab 5) eO (mo (fC (.int 1)))) ag)))) ag)))) (jF 3 (bG (ac 11) (bG (ac 12) (bG (ac 13) jE))))
   (ao (cg (am cA (aa (ab 4) (aa (fFz (ab 6)) (aa (fFz (ab 13)) (aa (fFz (ab 12)) (aa (fFz (ab 7)) ag)))))) (jF 4 (bG (ac 14) (bG (ac 15) (bG (ac 16) (bG (ac 17) jE))))))
  (ao (cg (ib (aa (ab 14) (aa (ab 15) (aa (ab 16) (aa (gG (fOp eC (jD (aa (ab 11) ag)) (ab 17))) ag))))) (ac 18))
  (fIf (kQ (eR (am bY (aa (fFz (am cy (aa (fFz (ab 10)) (aa (fFz (ab 11)) (aa (fFz (ab 6)) (aa (fFz (ab 7)) ag)))))) (aa (fFz (ab 18)) ag)))))
   (bE (fC (.bl false)))
   bc))))
  (bE (fOp aEq (ab 10) (am bo (aa (ab 4) ag))))))))))))))))
theorem KE:Lh b4 2 []:=by delta b4
theorem KF{ext:List Rw}(L:Leaves ns rows)(en:(ext.map (·.1)).Nodup)(eo:∀ r∈ext,cH r.1/\r.1∉ns/\yr pool r.2.1 r.2.2)(hp:∀ x∈ns,x∈pool)(pn:∀ x∈pool,cH x)(pl:pool.length<=45)(few:rows.length+ext.length<=20)(dw:∀ r∈ext,∀ x∈bO r.2.1 r.2.2,rank x<rank r.1) :
  ((rows++ext).map (·.1)).Nodup/\(∀ x∈ns,zJ (rows++ext) x)/\RulesG (rows++ext) pool rank/\∀ r∈ext,fM (bg (rows++ext)) r.1=rlR r.2.1 r.2.2:=by
 have nd':((rows++ext).map (·.1)).Nodup:=by
  rw[aaf];refine abV.mpr ⟨L.rd,en,λ a ha b hb z=>?_⟩;obtain⟨r,hr,e⟩:=abR.mp ha;obtain⟨r',hr',e'⟩:=abR.mp hb;exact(eo r' hr').2.1 (by rw[e',← z,← e];exact(L.sub r hr).1)
 have lfp:∀ r∈rows,bO r.2.1 r.2.2=[]:=λ r h=>by
  unfold bO;rcases (L.sub r h).2 with ⟨e,e2⟩|⟨e,_⟩
  ·rw[e2];split <;> rfl
  ·rw[if_pos e]
 refine⟨nd',λ x hx r e=>?_,⟨nd',λ r hr=>?_,by rw[aag];exact few,pn,pl,λ r hr x hx=>?_⟩,λ r hr=>?_⟩
 ·have h1:=List.mem_of_find?_eq_some e;have h2:=List.find?_some e;have h3:r.1=x:=of_decide_eq_true h2;rcases abL.mp h1 with h|h
  ·exact(L.sub r h).2
  ·exact absurd (h3 ▸ hx) (eo r h).2.1
 ·rcases abL.mp hr with h|h
  ·obtain⟨h1,h2⟩:=L.sub r h;exact⟨L.nm _ h1,h2.elim (λ h=>.inl h) λ h=>.inr (.inl h)⟩
  ·exact⟨(eo r h).1,(eo r h).2.2⟩
 ·rcases abL.mp hr with h|h
  ·rw[lfp r h] at hx;cases hx
  ·exact dw r h x hx
 ·rw[iH nd'];obtain⟨r',hr',e1,e⟩:=c9 (rows:=rows++ext) (n:=r.1) (abR.mpr ⟨r,aai _ hr,rfl⟩);rw[e,uL nd' (aai _ hr) hr' e1]
theorem lQ(rows:List Rw):okDs (rows.map dZ)=true:=by
 induction rows with
 |nil=>rfl
 |cons r rows ih=>exact abW.mpr ⟨abW.mpr ⟨iF r.2.2,rfl⟩,ih⟩
theorem zR(r:Rw):dep (vG (dZ r))<=2:=by
 have h:=eV r.2.2;show max 0 (max (max 0 (deps (toDVs (r.2.2.map D.str)))+1) 0)+1<=2;rw[h];decide
theorem vj(rows:List Rw):deps (toDVs (rows.map dZ))<=2:=by
 induction rows with
 |nil=>exact aaq _
 |cons r rows ih=>exact Nat.max_le.mpr ⟨zR r,ih⟩
theorem vk{rows':List Rw}:DO (.lst (rows.map dZ)) (.lst (rows'.map dZ)):=⟨lQ rows,lQ rows',aau (abo (vj rows)) (by decide)⟩
theorem KG(hy:R y=.comp "row" ps)(hl:∀ x∈ps,R x=.leaf (ce rw' x))(h1:ps≠[])(h2:ps.length<=8):A9 R t rw' ps y:=λ b f hb=>by
 have eb:cX R t y b=⟨.comp "row" ps,y,b,b,0,[],false,none⟩:=by unfold cX;rw[hy]
 refine⟨zQ [y] (cJ (LfR rw' t) ps b).2.2,?_,λ v=>?_⟩
 ·show goF R t (12+f) (cX R t y b) b [y]=_;rw[eb,show 12+f=ps.length+2+(10 - ps.length+f) by nofun];exact Kx (lf:=ce rw') (p:=b) ps [] b b _ [] [y] rfl h1 hl (aac _) hb (aac _)
 ·rw[lN,abN]
theorem FU{x:Str}(hl:R x=.leaf (ce rw' x)):A9 R t rw' [x] x:=λ b f hb=>by
 refine⟨[x],?_,λ v=>?_⟩
 ·have h:=ve (z:=t) (k:=b) (f:=11+f) hl;rw[show 12+f=(11+f)+1 by nofun,h]
  cases e:eh (ce rw' x) t b with
  |none=>rw [fJ (L:=LfR rw' t) e];rfl
  | some l=>
   rw[kb (L:=LfR rw' t) e];show _=some (⟨some (b+l - b),b,[x]⟩:Res);rw[aa8]
 ·cases e:eh (ce rw' x) t b with
  |none=>rw [fJ (L:=LfR rw' t) e];simp
  |some l=>rw [kb (L:=LfR rw' t) e];simp
abbrev exR(y w:Str)(ps:List Str):Rw:=(y,w,ps)
abbrev lY(ps:List Str)(x0 y0 y1 y2:Str):List Rw:=[exR y0 "row" ps,exR y1 "again" [y0],exR y2 "again" [x0]]
theorem KH:Hh b4 KD [] 19:=by
 intro os P h;unfold b4 at h;obtain⟨z,k,rfl,hk,q⟩:=h;have sz:=cE;ext;refine Fy hk λ b0 b1 b2 _ hb=>?_;ext;refine bK 0 hb (by decide) (by decide) (by decide) λ m b0 b1 b2 m0 m1 hb1=>?_;obtain⟨m',rfl⟩:=aba m0;ext;rw[show (2+(m':Int))=((2+m':Nat):Int) by nofun];refine vf _ hb1 (by nofun) (by nofun) λ ns rows b0 b1 b2 a a' hl L hb2=>?_;have hLl:=L.len;ext;refine bK _ hb2 (by nofun) (by decide) (by decide) λ c b0 b1 b2 c0 c1 hb4=>?_;obtain⟨c',rfl⟩:=aba c0;ext;refine⟨⟨by nofun,by nofun⟩,?_⟩;ext
 refine aU (λ i as ρ=>∃ (ps:List Str) (x:Option OV) (b0 b1 b2:Int),as=ps.map .str/\ps.length=i/\(∀ y∈ps,y∈ns)/\WellB b1 b2 (503+i)/\ρ=[x,some (.fz (.int z)),some (.fz (.int k)),some (bA b0 b1 b2),some (.fl (ns.map .str)),some (bf rows),none,none,none,none,none,none,none,none,none,none,none,none,none,none])
  ⟨[],none,b0,b1,b2,rfl,rfl,(λ _ h=>nomatch h),hb4.mono (by nofun),rfl⟩ ?_ ?_
 ·rintro i d as ρ R hd ⟨ps,x,b0,b1,b2,rfl,hpl,hps,hb5,rfl⟩ kk;obtain⟨hi,rfl⟩:=bH hd;ext;refine cU ?_;ext;rw[abK];refine bK _ hb5 (by nofun) (by nofun) (by nofun) λ r6 b0 b1 b2 r60 r61 hb6=>?_;ext;refine jS r60 (by rw[abK];exact r61) λ d hd=>?_;obtain⟨y,hy,rfl⟩:=abR.mp hd;refine⟨by rw[abK];nofun,kk _ _ ⟨ps++[y],_,b0,b1,b2,by rw[aaf];rfl,by rw[aag,hpl];rfl,λ v hv=>?_,hb6.mono (by nofun),rfl⟩⟩;rcases abL.mp hv with h|h
  ·exact hps v h
  ·rw[abN.mp h];exact hy
 rintro as ρ ⟨ps,x,b0,b1,b2,rfl,hpl,hps,hb5,rfl⟩;rw[ck] at hpl hb5;have hp1:1<=ps.length/\ps.length<=8:=by nofun
 ext;refine FJ _ hb5 (by nofun) (λ r hr=>(L.sub r hr).2) (by nofun) λ t b0 b1 b2 htl ht hb7=>?_;ext;refine⟨by nofun,?_⟩;ext;refine bK _ hb7 (by nofun) (by nofun) (by nofun) λ pl b0 b1 b2 pl0 pl1 hb8=>?_;obtain⟨p,rfl⟩:=aba pl0;have hp:p<=t.length:=by nofun
 ext;refine⟨aaq _,?_⟩;ext;refine⟨⟨by nofun,by nofun⟩,?_⟩;ext
 refine bQ (λ i ρ=>∃ (ys:List Str) (x9:Option OV) (b0 b1 b2:Int),ys.length=i/\i<=3/\ys.Nodup/\(∀ y∈ys,cH y/\y∉ns)/\WellB b1 b2 (600+13*i)/\ρ=[some (.fz (.int z)),some (.fz (.int k)),some (bA b0 b1 b2),some (.fl (ns.map .str)),some (bf rows),some (.fz (.lst (ps.map .str))),some (.fz (.str t)),some (.fz (.int p)),some (.fl (ys.map .str)),x9,none,none,none,none,none,none,none,none,none])
  ⟨[],none,b0,b1,b2,rfl,by nofun,aaB,(λ _ h=>nomatch h),hb8.mono (by nofun),rfl⟩ ?_ ?_
 ·rintro i d ρ R hd ⟨ys,x9,b0,b1,b2,hyl,hi3,hnd,hys,hb9,rfl⟩ kk;obtain⟨hi,rfl⟩:=bH hd;have eS:ns.map D.str++ys.map D.str=(ns++ys).map D.str:=by rw[aaf]
  have hyn:∀ v∈ns++ys,cH v:=λ v hv=>(abL.mp hv).elim (L.nm v) λ h=>(hys v h).1;ext;refine⟨rfl,?_⟩;ext;refine⟨by rw[abK,abK];nofun,?_⟩;rw[eS];ext;refine jn _ (.inl rfl) hb9 (by nofun) hyn (by rw[aag];nofun) λ y b0 b1 b2 hy hyn2 hb10=>?_;ext;refine⟨by rw[abK];nofun,?_⟩;refine kk _ ⟨ys++[y],some (.fz (.int (0+(i:Int)))),b0,b1,b2,by rw[aag,hyl];rfl,by nofun,KS.nodup_snoc hnd λ h=>hyn2 (aai _ h),λ v hv=>?_,hb10.mono (by nofun),by rw[show (ys++[y]).map D.str=ys.map D.str++[D.str y] from aaf];rfl⟩;rcases abL.mp hv with h|h
  ·exact hys v h
  ·rw[abN.mp h];exact⟨hy,λ h=>hyn2 (aam _ h)⟩
 rintro ρ ⟨ys,x9,b0,b1,b2,hyl,_,hnd,hys,hb9,rfl⟩
 obtain⟨y0,y1,y2,rfl⟩:∃ y0 y1 y2,ys=[y0,y1,y2]:=by
  match ys,hyl with
  |[a,b,c],_=>exact ⟨a,b,c,rfl⟩
 obtain⟨x0,xr,hpx⟩:∃ x0 xr,ps=x0::xr:=by
  cases ps with
  |nil=>simp at hp1
  |cons a b=>exact ⟨a,b,rfl⟩
 have hx0:x0∈ns:=hps x0 (by rw[hpx];exact aab ..);have hp0:ps[0]?=some x0:=by rw[hpx];rfl
 obtain⟨h0n,h0x⟩:=hys y0 (by simp);obtain⟨h1n,h1x⟩:=hys y1 (by simp);obtain⟨h2n,h2x⟩:=hys y2 (by simp);have hy01:y0≠y1:=λ e=>by rw[e] at hnd;simp at hnd
 have hy02:y0≠y2:=λ e=>by rw[e] at hnd;simp at hnd
 have hrk:∀ v∈ns,v≠y0/\v≠y1/\v≠y2:=λ v hv=>⟨λ e=>h0x (e ▸ hv),λ e=>h1x (e ▸ hv),λ e=>h2x (e ▸ hv)⟩
 have hrn:∀ v,v∉ns->v∉rows.map (·.1):=λ v hv h=>by
  obtain⟨r,hr,e⟩:=abR.mp h;exact hv (e ▸ (L.sub r hr).1)
 -- the book
 obtain⟨hnd',hlf,hG,hRe⟩:=KF (ext:=lY ps x0 y0 y1 y2) (pool:=ns++[y0]) (rank:=λ x=>if x=y0 then 1 else if x=y1∨x=y2 then 2 else 0) L hnd (λ r hr=>by
  have hr':r=(y0,("row" : Str),ps)∨r=(y1,("again" : Str),[y0])∨r=(y2,("again" : Str),[x0]):=(by exists hr);rcases hr' with rfl|rfl|rfl
  ·exact⟨h0n,h0x,.inr (.inr (.inr ⟨.inl rfl,hp1.1,hp1.2,λ v hv=>aam _ (hps v hv)⟩))⟩
  ·exact⟨h1n,h1x,.inr (.inr (.inl ⟨.inl rfl,rfl,λ v hv=>aai _ hv⟩))⟩
  ·exact⟨h2n,h2x,.inr (.inr (.inl ⟨.inl rfl,rfl,λ v hv=>aam _ (by rw[abN.mp hv];exact hx0)⟩))⟩) (λ x hx=>aam _ hx) (λ v hv=>(abL.mp hv).elim (L.nm v) λ h=>by rw[abN.mp h];exact h0n) (by rw[aag];show ns.length+1<=_;nofun) (by show rows.length+3<=20;nofun) (λ r hr x hx=>by
  have hr':r=(y0,("row" : Str),ps)∨r=(y1,("again" : Str),[y0])∨r=(y2,("again" : Str),[x0]):=(by exists hr);have hlo:∀ v∈ns,(if v=y0 then 1 else if v=y1∨v=y2 then 2 else 0)=0:=λ v hv=>(if_neg (hrk v hv).1).trans (if_neg λ h=>h.elim (hrk v hv).2.1 (hrk v hv).2.2);rcases hr' with rfl|rfl|rfl
  ·have hx':x∈ps:=by
    have:bO "row" ps=ps:=if_neg (by decide +kernel);rw[← this];exact hx
   rw[hlo x (hps x hx')];show 0<(if y0=y0 then 1 else _);rw[if_pos rfl];decide
  ·rw[abN.mp (show x∈[y0] from hx)];show (if y0=y0 then 1 else _)<(if y1=y0 then 1 else if y1=y1∨y1=y2 then 2 else 0);rw[if_pos rfl,if_neg (abk hy01),if_pos (.inl rfl)];decide
  ·rw[abN.mp (show x∈[x0] from hx),hlo x0 hx0];show 0<(if y2=y0 then 1 else if y2=y1∨y2=y2 then 2 else 0);rw[if_neg (abk hy02),if_pos (.inr rfl)];decide)
 have hR0:fM (bg (rows++lY ps x0 y0 y1 y2)) y0=.comp "row" ps:=hRe (y0, "row", ps) (aab ..);have hR1:fM (bg (rows++lY ps x0 y0 y1 y2)) y1=.comp "again" [y0]:=hRe (y1, "again", [y0]) (aad _ (aab ..));have hR2:fM (bg (rows++lY ps x0 y0 y1 y2)) y2=.comp "again" [x0]:=hRe (y2, "again", [x0]) (aad _ (aad _ (aab ..)));have hRl:∀ x∈ns,fM (bg (rows++lY ps x0 y0 y1 y2)) x=.leaf (ce (rows++lY ps x0 y0 y1 y2) x):=λ x hx=>FL hnd' (hlf x hx);have hB:=mQ hG;have A:∀ y∈[y0,y1,y2],AskR (bg (rows++lY ps x0 y0 y1 y2)) y t p:=λ y h=>⟨hB,(hys y h).1,ht,by nofun,hp⟩;have eq0:atI (ps.map D.str) 0=some (.str x0):=cF (j:=0) (by rw[List.getElem?_map,hp0];rfl);have er1:=fI (w := "row") (rest:=ps) (hrn y0 h0x);have er2:=fI (rows:=rows++[exR y0 "row" ps]) (y:=y1) (w := "again") (rest:=[y0]) (by rw[aaf];exact λ h=>(abL.mp h).elim (hrn y1 h1x) λ h=>hy01 (abN.mp h).symm)
 have er3:=fI (rows:=rows++[exR y0 "row" ps]++[exR y1 "again" [y0]]) (y:=y2) (w := "again") (rest:=[x0]) (by
  rw[aaf,aaf];intro h;rcases abL.mp h with h|h
  ·rcases abL.mp h with h|h
   ·exact hrn y2 h2x h
   ·exact hy02 (abN.mp h).symm
  ·rw[show y2=y1 from abN.mp h] at hnd;simp at hnd)
 have e3:rows++[exR y0 "row" ps]++[exR y1 "again" [y0]]++[exR y2 "again" [x0]]=rows++lY ps x0 y0 y1 y2:=by rw[aas,aas];rfl
 rw[e3] at er3;ext;refine⟨lez 1,?_⟩;ext;refine⟨(λ z=>nomatch z),by rw[abK];show 1+ps.length<=_;nofun,?_⟩;ext;refine⟨rfl,?_⟩;ext;refine⟨by rw[abK,abK];nofun,?_⟩;rw[show OV.fd (fL ((rows.map (·.1)).map Sum.inr) (rows.map λ r=>aK r.2.1 r.2.2) (.inr y0) (.tup ([D.str "row"]++ps.map D.str))).1 (fL ((rows.map (·.1)).map Sum.inr) (rows.map λ r=>aK r.2.1 r.2.2) (.inr y0) (.tup ([D.str "row"]++ps.map D.str))).2=bf (rows++[exR y0 "row" ps]) from er1.symm];ext;refine⟨lez 2,?_⟩;ext;refine⟨rfl,?_⟩;ext;refine⟨by rw[abK,abK,aag];show rows.length+1<_;nofun,?_⟩;rw[show OV.fd (fL (((rows++[exR y0 "row" ps]).map (·.1)).map Sum.inr) ((rows++[exR y0 "row" ps]).map λ r=>aK r.2.1 r.2.2) (.inr y1) (.tup [D.str "again", D.str y0])).1 (fL (((rows++[exR y0 "row" ps]).map (·.1)).map Sum.inr) ((rows++[exR y0 "row" ps]).map λ r=>aK r.2.1 r.2.2) (.inr y1) (.tup [D.str "again", D.str y0])).2=bf (rows++[exR y0 "row" ps]++[exR y1 "again" [y0]]) from er2.symm];ext;rw[eq0];ext;refine⟨lez 2,?_⟩;ext;refine⟨rfl,?_⟩;ext;refine⟨by rw[abK,abK,aag,aag];show rows.length+1+1<_;nofun,?_⟩;rw[show OV.fd (fL (((rows++[exR y0 "row" ps]++[exR y1 "again" [y0]]).map (·.1)).map Sum.inr) ((rows++[exR y0 "row" ps]++[exR y1 "again" [y0]]).map λ r=>aK r.2.1 r.2.2) (.inr y2) (.tup [D.str "again", D.str x0])).1 (fL (((rows++[exR y0 "row" ps]++[exR y1 "again" [y0]]).map (·.1)).map Sum.inr) ((rows++[exR y0 "row" ps]++[exR y1 "again" [y0]]).map λ r=>aK r.2.1 r.2.2) (.inr y2) (.tup [D.str "again", D.str x0])).2=bf (rows++lY ps x0 y0 y1 y2) from er3.symm];have ha:∀ v∈ns,(fM (bg (rows++lY ps x0 y0 y1 y2))) v=.leaf (ce (rows++lY ps x0 y0 y1 y2) v):=hRl;have pt1:A9 (fM (bg (rows++lY ps x0 y0 y1 y2))) t (rows++lY ps x0 y0 y1 y2) ps y0:=KG hR0 (λ x hx=>hRl x (hps x hx)) (by rw[hpx];exact λ z=>nomatch z) hp1.2;have pt2:A9 (fM (bg (rows++lY ps x0 y0 y1 y2))) t (rows++lY ps x0 y0 y1 y2) [x0] x0:=FU (hRl x0 hx0);generalize rows++lY ps x0 y0 y1 y2=rw' at *;ext;refine lK hnd' hG.few ?_;ext;refine⟨lez 3,?_⟩;ext;rw[eq0];ext
 have ec:g0 (ps.map D.str) none (some 1)=[x0].map D.str:=by
  rw[show (1:Int)=((1:Nat):Int) from rfl,mh,hpx];rfl
 rw[ec];refine⟨lez 3,?_⟩;ext;refine⟨lez 2,?_⟩;ext;refine bQ (λ i ρ=>∃ x11 x12 x13 x14 x15 x16 x17 x18:Option OV,ρ=[some (.fz (.int z)),some (.fz (.int k)),some (bA b0 b1 b2),some (.fl (ns.map .str)),some (bf rw'),some (.fz (.lst (ps.map .str))),some (.fz (.str t)),some (.fz (.int p)),some (.fl ([y0,y1,y2].map .str)),x9,some (.fz (gf (bg rw'))),x11,x12,x13,x14,x15,x16,x17,x18]) ⟨_,_,_,_,_,_,_,_,rfl⟩ ?_ ?_
 ·rintro i d ρ R' hd ⟨x11,x12,x13,x14,x15,x16,x17,x18,rfl⟩ kk
  obtain⟨root,pt,qs,rfl,hyy,hRy,hpt,hqs,hq0,hq8⟩:∃ (root pt:Str) (qs:List Str),d=.tup [.str root,.str pt,.lst (qs.map .str)]/\root∈[y0,y1,y2]/\fM (bg rw') root=.comp "again" [pt]/\A9 (fM (bg rw')) t rw' qs pt/\(∀ x∈qs,x∈ns)/\qs≠[]/\qs.length<=8:=by
   match i,hd with
   |0,hd=>cases hd;exact⟨y1,y0,ps,rfl,by simp,hR1,pt1,hps,by rw[hpx];exact(λ z=>nomatch z),hp1.2⟩
   |1,hd=>cases hd;exact⟨y2,x0,[x0],rfl,by simp,hR2,pt2,(λ v hv=>by rw[List.mem_singleton.mp hv];exact hx0),(λ z=>nomatch z),by show 1<=8;decide⟩
  ext;refine⟨rfl,?_⟩;ext;refine KC (fM (bg rw')) root (λ x hx=>hlf x (hqs x hx)) hq0 hq8 (by nofun) hp hpt hRy λ a far st ls acc f1 f2 hsn hsl hpa hpf hln hm hac hal=>?_
  have hset:c6 ls=iU (root::pt::acc):=eQ ((aT _).nodup_iff.mpr hln) (λ v=>by
   rw[(aT _).mem_iff,hm,abQ,abQ]) (cq _)
  have hzl:(root::pt::acc).length<=1002:=by rw[abO,abO];nofun
  have hz2:(iU (root::pt::acc)).length<=10:=by
   rw[← hset,(aT ls).length_eq];refine aau (aaz hln (l₂:=root::pt::qs) λ v hv=>?_) (by rw[abO,abO];nofun);rw[hm] at hv;rw[abQ,abQ];exact hv.imp_right λ h=>h.imp_right (hac v)
  have eS:[D.str root]++(pt::acc).map D.str=(root::pt::acc).map D.str:=rfl;ext;refine⟨rfl,?_⟩;ext;refine⟨lez 1,?_⟩;ext;refine⟨by rw[abK,abO];show 1+(acc.length+1)<=_;nofun,?_⟩;rw[eS];generalize (root::pt::acc)=zz at hzl hset hz2;ext;refine ip ⟨⟨by have h20:1100<=scanBound:=(by decide);nofun,by nofun⟩,?_⟩;rw[← hset];ext;refine⟨lez 4,?_⟩;ext;refine aB ?_;ext;refine qu (f:=t.length+20) (A root hyy) (by nofun) (by nofun) f1 λ a1 b1=>?_;rw[f2,oP (by rw[List.nil_append];exact hsn),List.nil_append];ext;refine FN (ln:=some (a - p)) (st:=st) (by nofun) ?_;ext;refine cY ?_;exact kk _ ⟨_,_,_,_,_,_,_,_,rfl⟩
 rintro ρ ⟨x11,x12,x13,x14,x15,x16,x17,x18,rfl⟩;ext;refine lK hnd' hG.few ?_;ext;refine⟨vk,?_⟩;ext;show P (.fz (.bl (dEq _ _))) _;rw[oM];exact q
theorem FW{z:Int}(hk:k<=100)(h:P (.fz (.bl true)) [.fz (.int z),.fz (.int k)]):b4 [.fz (.int z),.fz (.int k)] P:=by
 unfold b4;exact⟨z,k,rfl,hk,h⟩
@[irreducible] def mR:Ct:=λ os P=>∃ ns:List Int,os=[.fz (.lst (ns.map .int))]/\ns.length<=63/\P (.fz (.bl true)) os
abbrev KI:Stmt:=top 66
abbrev Nd:FS:=
  (ao (pN (eB (aa (fCB Ls (aa (fC (.int 1)) (aa (fCB NH (aa (fC (.int 16)) (aa (fCB eX (aa (ab 0) ag)) ag))) ag))) ag)) (ac 1)
   (fIf (kQ (eR (am b4 (aa (fFz (am bn (aa (fFz (ab 0)) (aa (fFz (ab 1)) ag)))) (aa (fFz (ab 1)) ag)))))
   (bE (fC (.bl false)))
   bc))
  (bE (fC (.bl true))))
theorem Nf:Lh mR 1 []:=by delta mR
theorem Ng:Hh mR Nd [] 2:=by
 intro os P h;unfold mR at h;obtain⟨ns,rfl,hl,q⟩:=h;ext;rw[abK];refine⟨⟨?_,?_⟩,?_⟩
 ·split <;> split <;> nofun
 ·split <;> split <;> nofun
 ext;refine bQ (λ i ρ=>∃ x1:Option OV,ρ=[some (.fz (.lst (ns.map .int))),x1]) ⟨none,rfl⟩ ?_ ?_
 ·rintro i d ρ R hd ⟨x1,rfl⟩ kk;obtain⟨hi,rfl⟩:=bH hd;have hi':i<=40:=by split at hi <;> split at hi <;> nofun
  ext;refine aB ?_;ext;rw[Int.zero_add];refine Fx λ c=>?_;ext;refine FW (by nofun) ?_;ext;refine cY ?_;exact kk _ ⟨_,rfl⟩
 ·rintro ρ ⟨x1,rfl⟩;ext;exact q
end KR
open PySem L2
local macro_rules|`(tactic|walk_at "f1") => `(tactic|(repeat' (first
  |(with_reducible first|exact NI (by decide)|apply Ib|apply Ic|apply Mn|apply sr|apply Ik|apply Iv|apply Iy|exact gf_n (by decide)|apply sq|apply IS|apply IV|apply IT|apply DN|apply DI|apply yj|apply yi|apply DM|apply IU|apply sK|apply DJ|apply xn|apply DK|apply DL|apply DX|apply xG|apply Mq|apply xM|apply Ms|exact MG (by decide)|apply Ml|apply Ie|apply Mm|apply Di|apply Dj|apply Mo|apply w8|apply Il|apply Im|apply Mr|apply IW|apply Mx|apply IZ|apply I0|apply xy|apply DP|apply xu|apply DZ|apply IX|apply IY|apply I9|apply jP|apply ME|apply Dm|apply Dn|apply Mt|apply Iw|apply Du|apply Ds|apply Ep|apply Dv|apply Dw|apply Iz|apply xi|apply xh|apply Dt|apply xk|apply Dy|apply xK|apply tf_B|apply Ig|apply Ih|apply Mp|apply Ii|apply Ij|exact gf_c (by decide) (by decide)|apply Ip|apply Do|apply w9|apply xc|apply Dq|apply Dr|apply xf|apply xg|apply MH|apply MI|apply MJ|apply DS|apply DR|apply my|apply xE|apply Dl)|(show ClsF _ _ _;assumption)|(with_reducible first|apply ED|apply yb|apply Ew|apply yc|apply yd|apply Ek|apply Eg|apply xO|apply Eh|apply Em|apply ye|apply tP|apply yf|apply xU|apply Es|apply Eu|apply xY|apply xZ|apply x2|apply EB|apply EC|apply ya|apply MF|apply EJ|apply yp|apply EM|exact MK rfl)|exact rfl
  |(with_reducible first|exact xA (by decide)|exact Mz (by decide))|(show Program;exact Zz.P (by assumption))|(show World;exact Zz.w (by assumption))|decide)))
local macro_rules|`(tactic|walk_at "f2") => `(tactic|(repeat' (first
  |(with_reducible first|exact Ap|exact Aq|apply Ao|apply wL|apply CO|apply CN|apply wa_c|apply Hy|apply IF)|exact rfl|exact Or.inl rfl|exact Or.inr rfl|exact Or.inr (Or.inl rfl)|assumption
  |(with_reducible first|apply Me|apply Hu|apply Hz)|((with_reducible apply MN);exact rfl)|(with_reducible first|apply D7|apply HI|apply HJ|apply Mi|apply HH|apply CP|apply HK|apply wN|apply CQ|apply wM|apply mj|apply Da|apply xJ)|exact Room.units (by assumption)|exact L6 (by assumption)|exact Room.gd (by assumption)|exact Room.mono (by assumption) (by decide)|exact fun _=>rfl|exact fun _ _=>rfl|exact nomarkB (by decide) (by decide)
  |(with_reducible first|apply Hv|apply xN|apply Mc|apply Ho|apply Ht|apply Hs|apply Hr|apply Mf|apply wC|apply wJ|apply Hw|apply Hx|apply wH|apply tf|apply CC|apply CD|apply Cz|apply HL|apply HM|apply xm|apply CS|apply yh|apply yg|apply DB|apply DC|apply DD|apply DE|apply DA|apply pR|apply CT|apply wO|apply CU|apply CV|apply CW|apply wQ|apply HP|apply IL|apply HS|apply HU|apply xx|apply C9|apply wY|apply xI|apply HQ|apply HR|apply IP|apply HX)|exact Or.inl ⟨_,rfl⟩|exact Or.inr ⟨_,rfl⟩
  |(with_reducible first|apply HA|apply CH|apply HB|apply HC|apply Mg|apply CI|apply CJ|apply CK|apply HD|apply CL|apply wK|apply HE)|exact PassesOwn.never
  |(with_reducible first|apply rQ|apply rR|apply CM|apply HF|apply HG|apply D3|apply CF|apply CG|apply D6|apply MM)|exact CompScope.of rfl rfl rfl|(intro C s H fp)|exact ML rfl
  |(with_reducible first|apply Cy|apply wG|exact PySem.F.plainAttrs_list|exact PySem.F.plainAttrs_str|exact PySem.F.slot_list_append|exact PySem.F.type_list_append|apply rS|exact PySem.F.slot_str_join|exact PySem.F.type_str_join|apply CY|exact PySem.F.slot_list_extend|exact PySem.F.type_list_extend|exact PySem.F.slot_list_reverse|exact PySem.F.type_list_reverse|exact PySem.F.slot_list_index|exact PySem.F.type_list_index|exact PySem.F.slot_list_remove|exact PySem.F.type_list_remove|exact PySem.F.slot_str_split|exact PySem.F.type_str_split|exact PySem.F.slot_str_partition|exact PySem.F.type_str_partition|exact PySem.F.slot_str_find|exact PySem.F.type_str_find|exact PySem.F.slot_str_upper|exact PySem.F.type_str_upper|apply Jj|apply Jk|apply Jl|apply Jm|apply Ex|apply MO|apply Jn)|exact ClsF.cl (by assumption)|exact ⟨_,rfl⟩|(with_reducible first|apply xV|apply Ey|apply rP|apply xX|apply D5|apply yo|exact aa7|exact PySem.F.slot_dict_update|exact PySem.F.type_dict_update|exact tS|exact PySem.F.slot_list_pop|exact PySem.F.type_list_pop|apply Jo|exact PySem.F.slot_list_clear|exact PySem.F.type_list_clear|apply Md|apply Ar|apply Hq|apply DH|apply DT|apply Ar|apply wt_w|apply xL|apply rP)|apply wI|apply CA|exact Aq|exact Ap|exact ⟨rfl,rfl,rfl,rfl⟩|decide|decide +kernel)))
local macro_rules|`(tactic|walk_at "bd") => `(tactic|(intro cdv A outer s H E T nd hr;cases T;apply Exists.intro;apply And.intro;(focus walk_at "f1");(focus ((conv => (arg 2;whnf));walk_at "f2"))))
local macro_rules|`(tactic|walk_at "bn") => `(tactic|(first|exact λ _ _ _ _ _ _ us hl => (match us,hl with|[_],_ => rfl)|exact λ _ _ _ _ _ _ us hl => (match us,hl with|[_,_],_ => rfl)|exact λ _ _ _ _ _ _ us hl => (match us,hl with|[_,_,_],_ => rfl)|exact λ _ _ _ _ _ _ us hl => (match us,hl with|[_,_,_,_],_ => rfl)|exact λ _ _ _ _ _ _ us hl => (match us,hl with|[_,_,_,_,_],_ => rfl)|exact λ _ _ _ _ _ _ us hl => (match us,hl with|[],_ => rfl)))
local macro_rules|`(tactic|walk_at "o") => `(tactic|((focus walk_at "bn");(focus exact⟨rfl,rfl,rfl,by decide +kernel,rfl,by decide +kernel,by decide +kernel⟩);walk_at "bd"))
local macro_rules|`(tactic|walk_at "ol") => `(tactic|((focus exact⟨rfl,rfl,rfl,by decide +kernel,rfl,by decide +kernel,by decide +kernel⟩);walk_at "bd"))
local macro_rules|`(tactic|walk_at "l") => `(tactic|(repeat (obtain⟨x,h⟩ := h)))
namespace KR
section
variable {Z:Zz} {f C:Addr} {fd:FuncData} (t:TopZ Z (Txt Z.K Z.mg)) (hC:ClsF Z.K 0 C)
include t hC
abbrev vm(Z:Zz)(C:Addr):Prop:=Js Z C "Asking" 1 ["self", "form", "name", "place"] aJ
abbrev js(Z:Zz)(C:Addr):Prop:=mG Z C "end" 1 ["self", "length"] ay
abbrev fK(Z:Zz)(C:Addr):Prop:=mG Z C "wanted" 1 ["self"] aE
abbrev Bb(Z:Zz)(C:Addr):Prop:=mG Z C "take_in_row" 2 ["self", "length"] ar
abbrev oQ(Z:Zz)(C:Addr):Prop:=mG Z C "take_in_first" 2 ["self", "length"] ak
abbrev oR(Z:Zz)(C:Addr):Prop:=mG Z C "take_in_again" 2 ["self", "length"] al
abbrev mS(Z:Zz)(C:Addr):Prop:=mG Z C "take" 3 ["self", "length"] aY
theorem FX(D:DfM Z.K C "__init__" "Asking.__init__" tU f fd)(a:PySem.W.nsIn Z.K mainGlobals "Asking" = some (some (.ref C)))(mk:PySem.W.makesIn Z.K C=true)(kc:PySem.W.keepIn Z.K (.ref C)=true):vm Z C:=by
 refine EE t D a mk kc (jW ["self", "form", "name", "place"] t D.fn EQ ER ?_ ?_) ?_
 rotate_right
 (focus walk_at "bn")
 walk_at "ol"
theorem KJ(D:DfM Z.K C "end" "Asking.end" AG f fd):js Z C:=by
 refine fZ D (jW ["self", "length"] t D.fn Jv Jw ?_ ?_) ?_
 rotate_right
 (focus walk_at "bn")
 walk_at "ol"
theorem vn(D:DfM Z.K C "wanted" "Asking.wanted" lm f fd):fK Z C:=by
 refine fZ D (jW ["self"] t D.fn t4 t5 ?_ ?_) ?_
 rotate_right
 (focus walk_at "bn")
 walk_at "ol"
theorem KL(D:DfM Z.K C "take_in_row" "Asking.take_in_row" AI f fd)(_:js Z C):Bb Z C:=by
 refine fZ D (jW ["self", "length"] t D.fn Jz JA ?_ ?_) ?_
 rotate_right
 (focus walk_at "bn")
 walk_at "ol"
theorem zS(D:DfM Z.K C "take_in_first" "Asking.take_in_first" n5 f fd)(_:js Z C):oQ Z C:=by
 refine fZ D (jW ["self", "length"] t D.fn yy yz ?_ ?_) ?_
 rotate_right
 (focus walk_at "bn")
 walk_at "ol"
theorem zT(D:DfM Z.K C "take_in_again" "Asking.take_in_again" n6 f fd)(_:js Z C):oR Z C:=by
 refine fZ D (jW ["self", "length"] t D.fn yB yD ?_ ?_) ?_
 rotate_right
 (focus walk_at "bn")
 walk_at "ol"
theorem FY(D:DfM Z.K C "take" "Asking.take" t0 f fd)(_:fK Z C)(_:js Z C)(_:Bb Z C)(_:oQ Z C)(_:oR Z C):mS Z C:=by
 refine fZ D (jW ["self", "length", "word"] t D.fn E3 E4 ?_ ?_) ?_
 rotate_right
 (focus walk_at "bn")
 walk_at "ol"
abbrev oS(Z:Zz):Prop:=cP Z "length_alone" 1 ["form", "text", "place"] aZ
theorem zU(D:Df Z.K "length_alone" nZ f fd):oS Z:=by
 refine ax ["form", "text", "place"] t D yu yv ?_ ?_ ?_;walk_at "o"
abbrev ke(Z:Zz):Prop:=cP Z "parts_of" 1 ["form"] bi
theorem FZ(D:Df Z.K "parts_of" tW f fd):ke Z:=by
 refine ax ["form"] t D EV EW ?_ ?_ ?_;walk_at "o"
abbrev mT(Z:Zz):Prop:=cP Z "begun" 3 ["rules", "text", "name", "place"] cW
theorem F0(D:Df Z.K "begun" tY f fd)(_:vm Z C)(_:js Z C)(_:ke Z)(_:oS Z):mT Z:=by
 refine ax ["rules", "text", "name", "place", "form", "asking"] t D EY EZ ?_ ?_ ?_;walk_at "o"
abbrev vo(Z:Zz):Prop:=cP Z "found" 1 ["asking", "kept"] dS
theorem F6(D:Df Z.K "found" uc f fd):vo Z:=by
 refine ax ["asking", "kept", "farthest", "leans", "step", "length", "reach", "leaned"] t D E8 E9 ?_ ?_ ?_;walk_at "o"
abbrev Bc(Z:Zz):Prop:=cP Z "make" 4 ["rules", "text", "kept", "name", "place"] gv
theorem KM(D:Df Z.K "make" AN f fd)(_:fK Z C)(_:mS Z C)(_:mT Z)(_:vo Z):Bc Z:=by
 refine ax ["rules", "text", "kept", "name", "place", "new", "under_way", "asking", "wanted"] t D JF JG ?_ ?_ ?_;walk_at "o"
abbrev gI(Z:Zz):Prop:=cP Z "is_name" 1 ["thing"] bJ
theorem zV(D:Df Z.K "is_name" oe f fd):gI Z:=by
 refine ax ["thing"] t D yM yN ?_ ?_ ?_;walk_at "o"
abbrev oT(Z:Zz):Prop:=cP Z "is_sign" 1 ["sign"] cu
theorem zW(D:Df Z.K "is_sign" og f fd):oT Z:=by
 refine ax ["sign"] t D yQ yR ?_ ?_ ?_;walk_at "o"
abbrev kg(Z:Zz):Prop:=cP Z "is_text" 2 ["thing"] cb
theorem zX(D:Df Z.K "is_text" oh f fd)(_:oT Z):kg Z:=by
 refine ax ["thing"] t D yT yU ?_ ?_ ?_;walk_at "o"
abbrev oU(Z:Zz):Prop:=cP Z "are_rising_signs" 3 ["thing"] aA
theorem zY(D:Df Z.K "are_rising_signs" oj f fd)(_:kg Z):oU Z:=by
 refine ax ["thing"] t D yY yZ ?_ ?_ ?_;walk_at "o"
abbrev oV(Z:Zz):Prop:=cP Z "is_form" 4 ["thing"] cv
theorem zZ(D:Df Z.K "is_form" om f fd)(_:oU Z)(_:gI Z):oV Z:=by
 refine ax ["thing", "word"] t D y6 y8 ?_ ?_ ?_;walk_at "o"
abbrev oW(Z:Zz):Prop:=cP Z "is_rule" 5 ["thing"] cw
theorem Aa(D:Df Z.K "is_rule" oo f fd)(_:gI Z)(_:oV Z):oW Z:=by
 refine ax ["thing"] t D zb zc ?_ ?_ ?_;walk_at "o"
abbrev vp(Z:Zz):Prop:=cP Z "names_rise" 1 ["rows"] bu
theorem F7(D:Df Z.K "names_rise" uC f fd):vp Z:=by
 refine ax ["rows"] t D Ff Fg ?_ ?_ ?_;walk_at "o"
abbrev oX(Z:Zz):Prop:=cP Z "is_book" 6 ["thing"] cx
theorem Ab(D:Df Z.K "is_book" oq f fd)(_:oW Z)(_:vp Z):oX Z:=by
 refine ax ["thing"] t D zf zg ?_ ?_ ?_;walk_at "o"
abbrev KN(Z:Zz):Prop:=cP Z "may_be_empty" 2 ["form", "empty"] a7
theorem Nh(D:Df Z.K "may_be_empty" JM f fd)(_:ke Z):KN Z:=by
 refine ax ["form", "empty"] t D MV MW ?_ ?_ ?_;walk_at "o"
abbrev oY(Z:Zz):Prop:=cP Z "empty_names" 3 ["book"] bm
theorem Ac(D:Df Z.K "empty_names" ox f fd)(_:KN Z):oY Z:=by
 refine ax ["book", "empty", "grows", "name", "form"] t D zj zk ?_ ?_ ?_;walk_at "o"
abbrev Bd(Z:Zz):Prop:=cP Z "begins_of_row" 1 ["parts", "empty"] aQ
theorem KO(D:Df Z.K "begins_of_row" AS f fd):Bd Z:=by
 refine ax ["parts", "empty", "begun", "part"] t D JP JQ ?_ ?_ ?_;walk_at "o"
abbrev vq(Z:Zz):Prop:=cP Z "begins_of_form" 2 ["form", "empty"] aN
theorem F8(D:Df Z.K "begins_of_form" uH f fd)(_:ke Z)(_:Bd Z):vq Z:=by
 refine ax ["form", "empty"] t D Fk Fl ?_ ?_ ?_;walk_at "o"
abbrev vt(Z:Zz):Prop:=cP Z "steps_of" 4 ["book"] bV
theorem F9(D:Df Z.K "steps_of" uI f fd)(_:oY Z)(_:vq Z):vt Z:=by
 refine ax ["book", "empty", "steps", "name", "form"] t D Fo Fp ?_ ?_ ?_;walk_at "o"
abbrev oZ(Z:Zz):Prop:=cP Z "steps_within" 1 ["steps", "name", "left"] a8
theorem Ad(D:Df Z.K "steps_within" oC f fd):oZ Z:=by
 refine ax ["steps", "name", "left"] t D zr zt ?_ ?_ ?_;walk_at "o"
abbrev lR(Z:Zz):Prop:=cP Z "endless_rules" 5 ["steps"] aS
theorem vv(D:Df Z.K "endless_rules" lG f fd)(_:oZ Z):lR Z:=by
 refine ax ["steps", "left", "shrinks", "ended", "name"] t D uN uO ?_ ?_ ?_;walk_at "o"
abbrev Be(Z:Zz):Prop:=cP Z "loop" 6 ["book"] gw
theorem KP(D:Df Z.K "loop" AT f fd)(_:vt Z)(_:lR Z):Be Z:=by
 refine ax ["book", "steps", "left", "walked", "name"] t D JT JU ?_ ?_ ?_;walk_at "o"
abbrev Bf(Z:Zz):Prop:=cP Z "asked_anew" 4 ["rules", "text", "kept", "name", "place"] bt
theorem KQ(D:Df Z.K "asked_anew" AO f fd)(_:fK Z C)(_:mS Z C)(_:mT Z):Bf Z:=by
 refine ax ["rules", "text", "kept", "name", "place", "asking"] t D JI JJ ?_ ?_ ?_;walk_at "o"
abbrev lS(Z:Zz):Prop:=cP Z "asked_of" 5 ["rules", "text", "kept", "name", "place"] bS
theorem vx(D:Df Z.K "asked_of" ly f fd)(_:Bf Z):lS Z:=by
 refine ax ["rules", "text", "kept", "name", "place", "asked", "step"] t D ug uk ?_ ?_ ?_;walk_at "o"
abbrev lT(Z:Zz):Prop:=cP Z "is_whole" 1 ["thing"] bT
theorem vy(D:Df Z.K "is_whole" lz f fd):lT Z:=by
 refine ax ["thing"] t D um uo ?_ ?_ ?_;walk_at "o"
abbrev lU(Z:Zz):Prop:=cP Z "is_place" 2 ["text", "thing"] bU
theorem vz(D:Df Z.K "is_place" lA f fd)(_:lT Z):lU Z:=by
 refine ax ["text", "thing"] t D ur ut ?_ ?_ ?_;walk_at "o"
abbrev KU(Z:Zz):Prop:=cP Z "refuse_wrong_book" 7 ["book"] av
theorem Ni(D:Df Z.K "refuse_wrong_book" JV f fd)(_:oX Z)(_:Be Z):KU Z:=by
 refine ax ["book"] t D MY MZ ?_ ?_ ?_;walk_at "o"
abbrev NN(Z:Zz):Prop:=cP Z "refuse_wrong" 8 ["book", "name", "text", "place"] a9
theorem o_rw(D:Df Z.K "refuse_wrong" NM f fd)(_:KU Z)(_:gI Z)(_:kg Z)(_:lU Z):NN Z:=by
 refine ax ["book", "name", "text", "place"] t D l_rw h_rw ?_ ?_ ?_;walk_at "o"
abbrev vA(Z:Zz):Prop:=cP Z "made_alone" 9 ["book", "name", "text", "place"] bv
theorem Ga(D:Df Z.K "made_alone" uR f fd)(_:NN Z)(_:Bc Z):vA Z:=by
 refine ax ["book", "name", "text", "place", "kept"] t D Fu Fv ?_ ?_ ?_;walk_at "o"
abbrev lV(Z:Zz):Prop:=cP Z "reading" 10 ["book", "name", "text", "place"] cy
theorem vB(D:Df Z.K "reading" lI f fd)(_:vA Z)(_:lS Z):lV Z:=by
 refine ax ["book", "name", "text", "place", "kept", "length", "reach", "leans"] t D uT uU ?_ ?_ ?_;walk_at "o"
abbrev Bg(Z:Zz):Prop:=cP Z "_law_cell_at" 1 ["script", "k"] bn
theorem KW(D:Df Z.K "_law_cell_at" AU f fd):Bg Z:=by
 refine ax ["script", "k"] t D J0 J1 ?_ ?_ ?_;walk_at "o"
abbrev vC(Z:Zz):Prop:=cP Z "_law_stir" 1 ["seed", "turn"] bM
theorem KY(D:Df Z.K "_law_stir" AV f fd):vC Z:=by
 refine ax ["seed", "turn", "number"] t D J3 Ka ?_ ?_ ?_;walk_at "o"
abbrev Bh(Z:Zz):Prop:=cP Z "_law_well" 2 ["cell", "k"] bW
theorem KZ(D:Df Z.K "_law_well" AW f fd)(_:vC Z):Bh Z:=by
 refine ax ["cell", "k", "seed"] t D Kc Kd ?_ ?_ ?_;walk_at "o"
abbrev iI(Z:Zz):Prop:=cP Z "_law_draw" 2 ["well", "many"] ai
theorem K0(D:Df Z.K "_law_draw" AX f fd)(_:vC Z):iI Z:=by
 refine ax ["well", "many", "taken"] t D Kf Kg ?_ ?_ ?_;walk_at "o"
abbrev iJ(Z:Zz):Prop:=cP Z "_law_new_name" 3 ["well", "names"] aP
theorem vD(D:Df Z.K "_law_new_name" lJ f fd)(_:iI Z):iJ Z:=by
 refine ax ["well", "names", "letters", "way", "letter", "name", "old", "at", "some"] t D uY va ?_ ?_ ?_;walk_at "o"
abbrev vE(Z:Zz):Prop:=cP Z "_law_sign" 3 ["well"] bN
theorem K1(D:Df Z.K "_law_sign" AY f fd)(_:iI Z):vE Z:=by
 refine ax ["well", "signs"] t D Kj Kk ?_ ?_ ?_;walk_at "o"
abbrev vF(Z:Zz):Prop:=cP Z "_law_signs" 4 ["well"] bB
theorem Gb(D:Df Z.K "_law_signs" uW f fd)(_:iI Z)(_:vE Z):vF Z:=by
 refine ax ["well", "many"] t D FB FC ?_ ?_ ?_;walk_at "o"
abbrev Bi(Z:Zz):Prop:=cP Z "_law_text" 4 ["well", "rules", "most"] bX
theorem K3(D:Df Z.K "_law_text" A6 f fd)(_:iI Z)(_:vE Z):Bi Z:=by
 refine ax ["well", "rules", "most", "own", "signs", "k", "sign"] t D Km Kn ?_ ?_ ?_;walk_at "o"
abbrev o0(Z:Zz):Prop:=cP Z "_law_listed" 1 ["rules"] bo
theorem Ae(D:Df Z.K "_law_listed" oJ f fd):o0 Z:=by
 refine ax ["rules"] t D zG zH ?_ ?_ ?_;walk_at "o"
abbrev Bj(Z:Zz):Prop:=cP Z "_law_told" 1 ["found_v", "due"] bY
theorem K4(D:Df Z.K "_law_told" A7 f fd):Bj Z:=by
 refine ax ["found_v", "due", "numbers"] t D Kq Kr ?_ ?_ ?_;walk_at "o"
abbrev o4(Z:Zz):Prop:=cP Z "_law_leaves" 5 ["well", "many"] bw
theorem Af(D:Df Z.K "_law_leaves" oN f fd)(_:iJ Z)(_:vF Z)(_:iI Z):o4 Z:=by
 refine ax ["well", "many", "names", "rules", "j", "name", "form"] t D zM zN ?_ ?_ ?_;walk_at "o"
abbrev Bk(Z:Zz):Prop:=cP Z "_law_leaf" 1 ["rules", "text", "name", "place"] bZ
theorem K5(D:Df Z.K "_law_leaf" A8 f fd):Bk Z:=by
 refine ax ["rules", "text", "name", "place", "form"] t D Kv Kw ?_ ?_ ?_;walk_at "o"
abbrev K6(Z:Zz):Prop:=cP Z "_law_row" 2 ["rules", "text", "parts", "place"] cz
theorem Nj(D:Df Z.K "_law_row" Kz f fd)(_:Bk Z):K6 Z:=by
 refine ax ["rules", "text", "parts", "place", "at", "used", "part", "step"] t D M8 M9 ?_ ?_ ?_;walk_at "o"
abbrev K8(Z:Zz):Prop:=cP Z "_law_due" 3 ["rules", "text", "parts", "part", "place"] cA
theorem Nk(D:Df Z.K "_law_due" KB f fd)(_:K6 Z):K8 Z:=by
 refine ax ["rules", "text", "parts", "part", "place", "at", "far", "asked", "leans", "going", "step", "last", "used"] t D Nb Nc ?_ ?_ ?_;walk_at "o"
abbrev Bl(Z:Zz):Prop:=cP Z "_law_good" 11 ["cell", "k"] b4
theorem K9(D:Df Z.K "_law_good" Ba f fd)(_:Bh Z)(_:iI Z)(_:iJ Z)(_:o4 Z)(_:K8 Z)(_:Bi Z)(_:o0 Z)(_:lV Z)(_:Bj Z):Bl Z:=by
 refine ax ["cell", "k", "well", "names", "rules", "parts", "text", "place", "three", "j", "book", "root", "part", "row", "length", "reach", "asked", "leans", "due"] t D KE KH ?_ ?_ ?_;walk_at "o"
theorem o_law(D:Df Z.K "law" KI f fd)(_:Bg Z)(_:Bl Z):FnOk Z.P Z.w Z.K Z.mg Z.base CX0 12 f fd ["script"] (spM Z.K mR):=by
 refine jW ["script", "k"] t D.fn Nf Ng ?_ ?_;walk_at "ol"
end
end KR
open PySem L2
namespace KR
def Ag(K:Frag):Sp:=λ vs H Q _=>∃ (a:Addr) (ns:List Int),vs=[.ref a]/\SqL K H a (ns.map V.int)/\ns.length<=63/\∀ H',Q (.bl true) H'
variable{q:Program}{loose:List Str}{XP:(Str->Option Value)->Heap->Prop}
theorem La{K:Frag}(vs:List V)(H:Hp)(Q:VK)(E:XK)(h:Ag K vs H Q E):spM K mR vs H Q E:=by
 obtain⟨a,ns,rfl,hS,hl,q⟩:=h;refine⟨H,λ _=>none,[.fz (.lst (ns.map .int))],[],λ o _=>o=.fz (.bl true),Same.refl H,SameN.none,λ _ _ _=>rfl,.cons (.fz (.lst hS (Dens.ints ns))) .nil,aaB,(λ _ z=>nomatch z),?_,λ o os' v F' H' C' B e _ _ _ _ _ ow _ _=>?_⟩
 ·unfold mR;exact⟨ns,rfl,hl,rfl⟩
 ·subst e
  cases ow with
  |fz d=>rw [d.bl_eq];exact q H'
theorem all_mk{l:PySem.W.OpenLaw}{w:World}{K:Frag}{h:Heap}{mg:Str->Option Value}{fa f0 f1 f2 f3 f4 f5 f6 f7 f8 f9 f10 f11 f12 f13 f14 f15 f16 f17 f18 f19 f20 f21 f22 f23 f24 f25 f26 f27 f28 f29 f30 f31 f32 f33 f34 f35 f36 f37 f38 f39 f40 f41 f42 f43 f44:Addr}{u0 u1 u2 u3 u4 u5 u6 u7 u8 u9 u10 u11 u12 u13 u14 u15 u16 u17 u18 u19 u20 u21 u22 u23 u24 u25 u26 u27 u28 u29 u30 u31 u32 u33 u34 u35 u36 u37 u38 u39 u40 u41 u42 u43 u44:FuncData}{C fi fm0 fm1 fm2 fm3 fm4 fm5:Addr}{ui um0 um1 um2 um3 um4 um5:FuncData}(X:K.In h)(G:h.Ns mainGlobals mg)(hfa:mg "law" = some (.ref fa))
  (d0:Df K "length_alone" nZ f0 u0)
  (d1:Df K "parts_of" tW f1 u1)
  (d2:Df K "begun" tY f2 u2)
  (d3:Df K "found" uc f3 u3)
  (d4:Df K "make" AN f4 u4)
  (d5:Df K "is_name" oe f5 u5)
  (d6:Df K "is_sign" og f6 u6)
  (d7:Df K "is_text" oh f7 u7)
  (d8:Df K "are_rising_signs" oj f8 u8)
  (d9:Df K "is_form" om f9 u9)
  (d10:Df K "is_rule" oo f10 u10)
  (d11:Df K "names_rise" uC f11 u11)
  (d12:Df K "is_book" oq f12 u12)
  (d13:Df K "may_be_empty" JM f13 u13)
  (d14:Df K "empty_names" ox f14 u14)
  (d15:Df K "begins_of_row" AS f15 u15)
  (d16:Df K "begins_of_form" uH f16 u16)
  (d17:Df K "steps_of" uI f17 u17)
  (d18:Df K "steps_within" oC f18 u18)
  (d19:Df K "endless_rules" lG f19 u19)
  (d20:Df K "loop" AT f20 u20)
  (d21:Df K "asked_anew" AO f21 u21)
  (d22:Df K "asked_of" ly f22 u22)
  (d23:Df K "is_whole" lz f23 u23)
  (d24:Df K "is_place" lA f24 u24)
  (d25:Df K "refuse_wrong_book" JV f25 u25)
  (d26:Df K "refuse_wrong" NM f26 u26)
  (d27:Df K "made_alone" uR f27 u27)
  (d28:Df K "reading" lI f28 u28)
  (d29:Df K "_law_cell_at" AU f29 u29)
  (d30:Df K "_law_stir" AV f30 u30)
  (d31:Df K "_law_well" AW f31 u31)
  (d32:Df K "_law_draw" AX f32 u32)
  (d33:Df K "_law_new_name" lJ f33 u33)
  (d34:Df K "_law_sign" AY f34 u34)
  (d35:Df K "_law_signs" uW f35 u35)
  (d36:Df K "_law_text" A6 f36 u36)
  (d37:Df K "_law_listed" oJ f37 u37)
  (d38:Df K "_law_told" A7 f38 u38)
  (d39:Df K "_law_leaves" oN f39 u39)
  (d40:Df K "_law_leaf" A8 f40 u40)
  (d41:Df K "_law_row" Kz f41 u41)
  (d42:Df K "_law_due" KB f42 u42)
  (d43:Df K "_law_good" Ba f43 u43)
  (d44:Df K "law" KI f44 u44)
  (z0:PySem.W.nsIn K mainGlobals "len" = some none)
  (z1:PySem.W.nsIn K mainGlobals "max" = some none)
  (z2:PySem.W.nsIn K mainGlobals "min" = some none)
  (z3:PySem.W.nsIn K mainGlobals "isinstance" = some none)
  (z4:PySem.W.nsIn K mainGlobals "all" = some none)
  (z5:PySem.W.nsIn K mainGlobals "any" = some none)
  (z6:PySem.W.nsIn K mainGlobals "sorted" = some none)
  (z7:PySem.W.nsIn K mainGlobals "range" = some none)
  (z8:PySem.W.nsIn K mainGlobals "str" = some none)
  (z9:PySem.W.nsIn K mainGlobals "bool" = some none)
  (z10:PySem.W.nsIn K mainGlobals "int" = some none)
  (z11:PySem.W.nsIn K mainGlobals "list" = some none)
  (z12:PySem.W.nsIn K mainGlobals "tuple" = some none)
  (z13:PySem.W.nsIn K mainGlobals "dict" = some none)
  (z14:PySem.W.nsIn K mainGlobals "set" = some none)
  (z15:PySem.W.nsIn K mainGlobals "ord" = some none)
  (z16:PySem.W.nsIn K mainGlobals "ValueError" = some none) {tk0:Tok}
  (gl0:PySem.W.nsIn K mainGlobals "LETTERS" = some (some (.str "abcdefghijklmnopqrstuvwxyz" tk0))) {tk1:Tok}
  (gl1:PySem.W.nsIn K mainGlobals "MOST_LETTERS" = some (some (.int 8 tk1))) {tk2:Tok}
  (gl2:PySem.W.nsIn K mainGlobals "MOST_SIGNS" = some (some (.int 40 tk2))) {tk3:Tok}
  (gl3:PySem.W.nsIn K mainGlobals "MOST_PARTS" = some (some (.int 8 tk3))) {tk4:Tok}
  (gl4:PySem.W.nsIn K mainGlobals "BARRED_SIGN" = some (some (.int 37 tk4))) {ta0:Addr} {odt0:Option Addr} {nt0:Nat} {slt0:Array (Option Value)} {tt0_0 tt0_1:Tok}
  (ga0:PySem.W.nsIn K mainGlobals "WORDS_ALONE" = some (some (.ref ta0)))
  (gt0:K.lookup ta0=some ⟨.type "tuple", odt0,.seq #[.str "none" tt0_0,.str "any" tt0_1] nt0,slt0⟩) {ta1:Addr} {odt1:Option Addr} {nt1:Nat} {slt1:Array (Option Value)} {tt1_0 tt1_1 tt1_2:Tok}
  (ga1:PySem.W.nsIn K mainGlobals "WORDS_WITH_ONE" = some (some (.ref ta1)))
  (gt1:K.lookup ta1=some ⟨.type "tuple", odt1,.seq #[.str "again" tt1_0,.str "ahead" tt1_1,.str "not" tt1_2] nt1,slt1⟩) {ta2:Addr} {odt2:Option Addr} {nt2:Nat} {slt2:Array (Option Value)} {tt2_0 tt2_1:Tok}
  (ga2:PySem.W.nsIn K mainGlobals "WORDS_WITH_SOME" = some (some (.ref ta2)))
  (gt2:K.lookup ta2=some ⟨.type "tuple", odt2,.seq #[.str "row" tt2_0,.str "first" tt2_1] nt2,slt2⟩) {ta3:Addr} {odt3:Option Addr} {nt3:Nat} {slt3:Array (Option Value)} {tt3_0 tt3_1 tt3_2 tt3_3:Tok}
  (ga3:PySem.W.nsIn K mainGlobals "WORDS_EVER_EMPTY" = some (some (.ref ta3)))
  (gt3:K.lookup ta3=some ⟨.type "tuple", odt3,.seq #[.str "none" tt3_0,.str "again" tt3_1,.str "ahead" tt3_2,.str "not" tt3_3] nt3,slt3⟩)
  (cN:PySem.W.nsIn K mainGlobals "Asking" = some (some (.ref C)))
  (mi:DfM K C "__init__" "Asking.__init__" tU fi ui)
  (mm0:DfM K C "end" "Asking.end" AG fm0 um0)
  (mm1:DfM K C "wanted" "Asking.wanted" lm fm1 um1)
  (mm2:DfM K C "take_in_row" "Asking.take_in_row" AI fm2 um2)
  (mm3:DfM K C "take_in_first" "Asking.take_in_first" n5 fm3 um3)
  (mm4:DfM K C "take_in_again" "Asking.take_in_again" n6 fm4 um4)
  (mm5:DfM K C "take" "Asking.take" t0 fm5 um5)
  (cM:PySem.W.makesIn K C=true)
  (cK:PySem.W.keepIn K (.ref C)=true)
  (pg:PySem.W.plainGet K C Str.empty=true)
  (hd:PySem.W.hasDictIn K C=true)
  (po:PySem.W.plainOver K C=true)
  (sa:PySem.W.findIn K (.ref C) "__setattr__" = some (some (.builtin "object.__setattr__")))
  (na0:PySem.W.findIn K (.ref C) "form" = some none)
  (na1:PySem.W.findIn K (.ref C) "name" = some none)
  (na2:PySem.W.findIn K (.ref C) "place" = some none)
  (na3:PySem.W.findIn K (.ref C) "at" = some none)
  (na4:PySem.W.findIn K (.ref C) "turn" = some none)
  (na5:PySem.W.findIn K (.ref C) "steps" = some none)
  (na6:PySem.W.findIn K (.ref C) "done" = some none)
  (na7:PySem.W.findIn K (.ref C) "length" = some none)
  : ∃ fd:FuncData,(∀ (s:Shared) (v:Value),BindsTo s fd ⟨[v],[]⟩ [("script", v)])/\∀ base:Heap,K.In base->base.Ns mainGlobals mg->FnOk l.prog w K mg base CX0 12 fa fd ["script"] (Ag K):=by
 have e:=hfa.symm.trans (aaQ X G d44.ns);cases e;have T:Txt K mg:=⟨aar X G z0,aar X G z1,aar X G z2,aar X G z3,aar X G z4,aar X G z5,aar X G z6,aar X G z7,aar X G z8,aar X G z9,aar X G z10,aar X G z11,aar X G z12,aar X G z13,aar X G z14,aar X G z15,aar X G z16,⟨_,aaQ X G gl0,⟨_,rfl⟩⟩,⟨_,aaQ X G gl1,⟨_,rfl⟩⟩,⟨_,aaQ X G gl2,⟨_,rfl⟩⟩,⟨_,aaQ X G gl3,⟨_,rfl⟩⟩,⟨_,aaQ X G gl4,⟨_,rfl⟩⟩,⟨ta0,aaQ X G ga0,λ _=>.inr ⟨_,_,_,gt0,rfl,rfl,(by show 2<=sizeLine;decide),(.cons ⟨_,rfl⟩ (.cons ⟨_,rfl⟩ Paired.nil))⟩⟩,⟨ta1,aaQ X G ga1,λ _=>.inr ⟨_,_,_,gt1,rfl,rfl,(by show 3<=sizeLine;decide),(.cons ⟨_,rfl⟩ (.cons ⟨_,rfl⟩ (.cons ⟨_,rfl⟩ Paired.nil)))⟩⟩,⟨ta2,aaQ X G ga2,λ _=>.inr ⟨_,_,_,gt2,rfl,rfl,(by show 2<=sizeLine;decide),(.cons ⟨_,rfl⟩ (.cons ⟨_,rfl⟩ Paired.nil))⟩⟩,⟨ta3,aaQ X G ga3,λ _=>.inr ⟨_,_,_,gt3,rfl,rfl,(by show 4<=sizeLine;decide),(.cons ⟨_,rfl⟩ (.cons ⟨_,rfl⟩ (.cons ⟨_,rfl⟩ (.cons ⟨_,rfl⟩ Paired.nil))))⟩⟩⟩;refine⟨u44,?_,λ base _ _=>?_⟩
 ·obtain⟨oc,od,kV,doc,pm,an,cdv,ct,osl,rfl,lk,hcd⟩:=d44.fn.ex;exact λ s v=>.of_eq rfl
 have t:TopZ ⟨l.prog,w,K,mg,base,h⟩ (Txt K mg):=⟨X,G,T⟩;have hC:ClsF K 0 C:=Jr cN pg hd po sa (ab0.mpr ⟨na0,ab0.mpr ⟨na1,ab0.mpr ⟨na2,ab0.mpr ⟨na3,ab0.mpr ⟨na4,ab0.mpr ⟨na5,ab0.mpr ⟨na6,ab0.mpr ⟨na7,λ _ z=>nomatch z⟩⟩⟩⟩⟩⟩⟩⟩);have A_ainit:=FX t hC mi cN cM cK;have A_aend:=KJ t hC mm0;have A_awanted:=vn t hC mm1;have A_arow:=KL t hC mm2 A_aend;have A_afirst:=zS t hC mm3 A_aend;have A_aagain:=zT t hC mm4 A_aend;have A_atake:=FY t hC mm5 A_awanted A_aend A_arow A_afirst A_aagain;have O_lalone:=zU t hC d0;have O_parts:=FZ t hC d1;have O_begun:=F0 t hC d2 A_ainit A_aend O_parts O_lalone;have O_found:=F6 t hC d3;have O_make:=KM t hC d4 A_awanted A_atake O_begun O_found;have O_isname:=zV t hC d5;have O_issign:=zW t hC d6;have O_istext:=zX t hC d7 O_issign;have O_rising:=zY t hC d8 O_istext;have O_isform:=zZ t hC d9 O_rising O_isname;have O_isrule:=Aa t hC d10 O_isname O_isform;have O_nrise:=F7 t hC d11;have O_isbook:=Ab t hC d12 O_isrule O_nrise;have O_may:=Nh t hC d13 O_parts;have O_enames:=Ac t hC d14 O_may;have O_brow:=KO t hC d15;have O_bform:=F8 t hC d16 O_parts O_brow;have O_steps:=F9 t hC d17 O_enames O_bform;have O_within:=Ad t hC d18;have O_endless:=vv t hC d19 O_within;have O_loop:=KP t hC d20 O_steps O_endless;have O_anew:=KQ t hC d21 A_awanted A_atake O_begun;have O_askedof:=vx t hC d22 O_anew;have O_iswhole:=vy t hC d23;have O_isplace:=vz t hC d24 O_iswhole;have O_rwb:=Ni t hC d25 O_isbook O_loop;have O_rw:=o_rw t hC d26 O_rwb O_isname O_istext O_isplace;have O_madea:=Ga t hC d27 O_rw O_make;have O_reading:=vB t hC d28 O_madea O_askedof;have O_cell:=KW t hC d29;have O_stir:=KY t hC d30;have O_well:=KZ t hC d31 O_stir;have O_draw:=K0 t hC d32 O_stir;have O_newname:=vD t hC d33 O_draw;have O_sign:=K1 t hC d34 O_draw;have O_signs:=Gb t hC d35 O_draw O_sign;have O_text:=K3 t hC d36 O_draw O_sign;have O_listed:=Ae t hC d37;have O_told:=K4 t hC d38;have O_leaves:=Af t hC d39 O_newname O_signs O_draw;have O_leaf:=K5 t hC d40;have O_row:=Nj t hC d41 O_leaf;have O_due:=Nk t hC d42 O_row;have O_good:=K9 t hC d43 O_well O_draw O_newname O_leaves O_due O_text O_listed O_reading O_told;exact(o_law t hC d44 O_cell O_good).imp La
theorem walk{l:PySem.W.OpenLaw}{YP:World->Heap->Prop}{d:DefRec}{K:Params->Frag}(hn:l.most=some 63)(hdf:d.params.defaults=[])
  (hY:∀ (w:World) (h:Heap),YP w h->(K w.params).In h)
  (F:∀ (w:World) (mg:Str->Option Value) (fa:Addr) (h:Heap),(K w.params).In h->h.Ns mainGlobals mg->mg d.name=some (.ref fa) ->
   ∃ fd:FuncData,(∀ (s:Shared) (u:Value),BindsTo s fd ⟨[u],[]⟩ [("script", u)])/\∀ base:Heap,(K w.params).In base->base.Ns mainGlobals mg->FnOk l.prog w (K w.params) mg base CX0 12 fa fd ["script"] (Ag (K w.params))) :
  PySem.W.WalkO q loose XP YP l.row.toRowW d [] (λ f vs=>PySem.call f vs):=
 L2.walk_of (n:=63) (k:=12) (x := "script") (CX:=λ _=>CX0) (sp:=λ w=>Ag (K w.params)) hn (by decide) hdf ⟨rfl,by decide,by decide,rfl⟩ hY F (λ _ _ a ns hl _ hS=>⟨a,ns,rfl,hS,hl,λ _=>rfl⟩) λ _ _ _ _ _ z=>z
theorem walkX{r:PySem.W.RowW}{d:DefRec}{kwd:List (Str×Expr)}{run:Value->List Value->Sem Value}{K:Params->Frag}{as:List Addr}{n t:Nat}(e:∀ P,as=(K P).map (·.1))(W:PySem.W.WalkO q loose XP (λ w h=>(K w.params).In h) r d kwd run) :
  PySem.W.WalkX q loose XP (PySem.W.X.obsZ as) (PySem.W.X.valZ K n t) r d kwd run:=by
 intro w s₀ s₁ mg mb G y a o pm cd doc dV kV ho hd hcd hD hmg hg args vals as' L hpre hlay hrd hwl hlo;exact W w s₀ s₁ mg mb G (PySem.W.InK.keeps w _ _ (PySem.W.X.z_facts e y).2.1 L.keeps) a o pm cd doc dV kV ho hd hcd hD hmg hg args vals as' hpre hlay hrd hwl hlo
end KR
open PySem PySem.W PyProof.Rows
local macro_rules|`(tactic|walk_at "df") => `(tactic|(refine' L2.df_mk ?a ?l ?c ?k;(case a => k_is);(case l => k_is);(case c => k_is);(case k => k_is)))
local macro_rules|`(tactic|walk_at "dm") => `(tactic|(refine' L2.dfm_mk ?a ?i ?l ?c ?k;(case a => k_is);(case i => k_is);(case l => k_is);(case c => k_is);(case k => k_is)))
namespace PySem.W.Fast
def tw5664332121463500594:=0
def tw16351716746549205529:=0
def tw16274501125342255194:=0
def tw7793091923258835105:=0
def tw14995646735694939942:=0
def tw10828425821533618490:=0
def tw8490112607546480689:=0
def tw12737778070864778878:=0
def tw3596833475907212622:=0
def tw12820994210138035962:=0
def tw4375191140413559530:=0
def tw16262512557404259929:=0
def tw14956819747805143151:=0
def tw15780493001575194943:=0
def tw1533393910736249852:=0
def tw5781296988714607421:=0
def tw2870473559424895552:=0
def tw13545322142227430891:=0
def tw15647305590681895071:=0
def tw16575988854036909850:=0
def tw2241528381645602999:=0
def tw7321625788311933044:=0
def tw10692213804226300750:=0
def tw15108304969450054568:=0
def tw6146081823589258316:=0
def tw12816892315632296876:=0
def tw16904921927771135710:=0
def tw17207246945305865502:=0
def tw4659731671524182676:=0
def tw9491204128991029280:=0
def tw7637678692923478417:=0
def tw13242665019234300623:=0
def tw11769015718169033961:=0
def tw15027792379081421126:=0
def tw13431244994877009914:=0
def tw8482818844863608563:=0
def tw11301374855441554180:=0
def tw6921548894572192035:=0
def tw18329541556772070974:=0
def tw6142274381951587167:=0
def tw12665916563253013994:=0
def tw10092405383825601560:=0
def tw6222376501529154613:=0
def tw17913117890580510900:=0
def tw5690291487963781637:=0
def tw4596343527165571505:=0
def tw3191754294799677096:=0
def tw11248022571772562342:=0
def tw13482656541111554677:=0
def tw1733950631029686148:=0
def tw15684670149922954441:=0
def tw12999967543861466610:=0
def tw2600176378624852159:=0
def tw11497204410803455331:=0
def tw3818868563253241164:=0
def tw353538349447772980:=0
def tw3721667663040211778:=0
def tw17196718990873747366:=0
def tw13646047162928705712:=0
def tw17330579660378279326:=0
def tw11885156152136807715:=0
def tw2278996226907431266:=0
def tw6146432557069570632:=0
def tw4103443055986121162:=0
def tw1321336904316848290:=0
def tw6281546265145703811:=0
def tw18425233252224167097:=0
def tw2400008957808462203:=0
def tw6412630014545687053:=0
def tw12862672420974350285:=0
def tw4114439186681467036:=0
def tw7339905372816422667:=0
def tw12816052088665438707:=0
def tw18445084357005137368:=0
def tw10403631082269746502:=0
def tw15089585661751518501:=0
def tw12851491739613290598:=0
def tw16362102883459861864:=0
def tw6458905622583119777:=0
def tw4414775709006031339:=0
def tw17359104537116615272:=0
def tw4591680138850555159:=0
def tw1910639677490183684:=0
def tw4312255881831980064:=0
def tw15747446009882083000:=0
def tw16337655798392501999:=0
def tw10148444427715628456:=0
def tw14541233052211579639:=0
def tw1525082560149586055:=0
def tw13797018064920696125:=0
def tw6420667238961678069:=0
def tw5766752236323297219:=0
def tw12827560495776944208:=0
def tw10018135158642793204:=0
def tw10018452334811920985:=0
def tw9239991330498381029:=0
def tw11133391380954283799:=0
def tw4601160329509723252:=0
def tw11503160081875334540:=0
def tw14888232420309826245:=0
def tw4919501020899445912:=0
def tw1655639758409370318:=0
def tw9822670993066961386:=0
def tw5051971908354734934:=0
def tw7962892109027023388:=0
def tw14817158414498298943:=0
def tw16309510878278286419:=0
def tw2609995002969272727:=0
def tw936590315667080357:=0
def tw13076981949446657728:=0
def tw4063598034114206008:=0
def tw2595617786094097286:=0
def tw7748678975555423412:=0
def tw4156361487553234229:=0
def tw18082934738380996452:=0
def tw5687376438069986668:=0
def tw8660688928750062670:=0
def tw8186603570997490020:=0
def tw10519463410800528736:=0
def tw6271000545431958489:=0
def tw260272688026540373:=0
def tw16395112987821863359:=0
def tw1907849682991267171:=0
def tw3044620422933671336:=0
def tw2338925577358026619:=0
def tw7159102256336512695:=0
def tw14418630763093144205:=0
def tw2829035522104685841:=0
def tw16503826356701672539:=0
def tw15439205247436067565:=0
end PySem.W.Fast
set_option maxRecDepth 100000 in
set_option maxHeartbeats 0 in
theorem PySem.Challenge.cw_keptreading_k13_again_and_again_holds : PySem.Challenge.rw_keptreading_k13_again_and_again.Holds := by
  w_on; o_law; z_head; (case hw=>w_witness2)
  k_fill
  refine KR.walkX (λ _=>rfl) (KR.walk (l:=PySem.Challenge.rw_keptreading_k13_again_and_again) rfl rfl (λ w h Y=>Y) ?F)
  case F =>
    intro w mg fa h KX G hmg
    refine' KR.all_mk KX G hmg ?d0 ?d1 ?d2 ?d3 ?d4 ?d5 ?d6 ?d7 ?d8 ?d9 ?d10 ?d11 ?d12 ?d13 ?d14 ?d15 ?d16 ?d17 ?d18 ?d19 ?d20 ?d21 ?d22 ?d23 ?d24 ?d25 ?d26 ?d27 ?d28 ?d29 ?d30 ?d31 ?d32 ?d33 ?d34 ?d35 ?d36 ?d37 ?d38 ?d39 ?d40 ?d41 ?d42 ?d43 ?d44 ?z0 ?z1 ?z2 ?z3 ?z4 ?z5 ?z6 ?z7 ?z8 ?z9 ?z10 ?z11 ?z12 ?z13 ?z14 ?z15 ?z16 ?gl0 ?gl1 ?gl2 ?gl3 ?gl4 ?ga0 ?gt0 ?ga1 ?gt1 ?ga2 ?gt2 ?ga3 ?gt3 ?cN ?mi ?mm0 ?mm1 ?mm2 ?mm3 ?mm4 ?mm5 ?cM ?cK ?pg ?hd ?po ?sa ?na0 ?na1 ?na2 ?na3 ?na4 ?na5 ?na6 ?na7
    (case d0=>walk_at "df"); (case d1=>walk_at "df"); (case d2=>walk_at "df"); (case d3=>walk_at "df"); (case d4=>walk_at "df"); (case d5=>walk_at "df")
    (case d6=>walk_at "df"); (case d7=>walk_at "df"); (case d8=>walk_at "df"); (case d9=>walk_at "df"); (case d10=>walk_at "df"); (case d11=>walk_at "df")
    (case d12=>walk_at "df"); (case d13=>walk_at "df"); (case d14=>walk_at "df"); (case d15=>walk_at "df"); (case d16=>walk_at "df"); (case d17=>walk_at "df")
    (case d18=>walk_at "df"); (case d19=>walk_at "df"); (case d20=>walk_at "df"); (case d21=>walk_at "df"); (case d22=>walk_at "df"); (case d23=>walk_at "df")
    (case d24=>walk_at "df"); (case d25=>walk_at "df"); (case d26=>walk_at "df"); (case d27=>walk_at "df"); (case d28=>walk_at "df"); (case d29=>walk_at "df")
    (case d30=>walk_at "df"); (case d31=>walk_at "df"); (case d32=>walk_at "df"); (case d33=>walk_at "df"); (case d34=>walk_at "df"); (case d35=>walk_at "df")
    (case d36=>walk_at "df"); (case d37=>walk_at "df"); (case d38=>walk_at "df"); (case d39=>walk_at "df"); (case d40=>walk_at "df"); (case d41=>walk_at "df")
    (case d42=>walk_at "df"); (case d43=>walk_at "df"); (case d44=>walk_at "df"); (case z0=>k_is); (case z1=>k_is); (case z2=>k_is)
    (case z3=>k_is); (case z4=>k_is); (case z5=>k_is); (case z6=>k_is); (case z7=>k_is); (case z8=>k_is)
    (case z9=>k_is); (case z10=>k_is); (case z11=>k_is); (case z12=>k_is); (case z13=>k_is); (case z14=>k_is)
    (case z15=>k_is); (case z16=>k_is); (case gl0=>k_is); (case gl1=>k_is); (case gl2=>k_is); (case gl3=>k_is)
    (case gl4=>k_is); (case ga0=>k_is); (case gt0=>k_is); (case ga1=>k_is); (case gt1=>k_is); (case ga2=>k_is)
    (case gt2=>k_is); (case ga3=>k_is); (case gt3=>k_is); (case cN=>k_is); (case mi=>walk_at "dm"); (case mm0=>walk_at "dm")
    (case mm1=>walk_at "dm"); (case mm2=>walk_at "dm"); (case mm3=>walk_at "dm"); (case mm4=>walk_at "dm"); (case mm5=>walk_at "dm"); (case cM=>k_is)
    (case cK=>k_is); (case pg=>k_is); (case hd=>k_is); (case po=>k_is); (case sa=>k_is); (case na0=>k_is)
    (case na1=>k_is); (case na2=>k_is); (case na3=>k_is); (case na4=>k_is); (case na5=>k_is); (case na6=>k_is)
    (case na7=>k_is)
