import PyProof.Rows.All
import Wide.All
import OpenK.AllK
import Wide.FinOn
import Lean
import PyProof.EqAt
import PyProof.EqKinds
import PyProof.TupleCall
import PySem.Challenge.RW_keptreading_k16_long_texts
set_option genSizeOf false
set_option genSizeOfSpec false
set_option genInjectivity false
set_option Elab.async false
set_option linter.all false
set_option maxRecDepth 100000
open PySem.W (Frag)
noncomputable section
local macro_rules|`(tactic|nofun) => `(tactic|(first|lia|omega))
local macro_rules|`(tactic|exists $h:term) => `(tactic|(first|exact List.mem_singleton.mp $h|simpa using $h))
local macro_rules|`(tactic|ext) => `(tactic|(conv => whnf))
set_option compiler.extract_closed false
def abD:=@List.length_map
def abE:=@List.mem_append
def abF:=@List.mem_singleton
def abG:=@List.map_cons
def abH:=@List.length_append
def abI:=@List.mem_cons
def abJ:=@List.mem_map
def abK:=@Bool.false_ne_true
def abL:=@List.nodup_cons
def abM:=@List.length_cons
def abN:=@List.size_toArray
def abO:=@Array.length_toList
def abP:=@List.nodup_append
def abQ:=@List.mem_filter
def abR:=@Bool.and_eq_true
def abS:=@List.nodup_nil
def abT:=@List.length_range
def abU:=@Bool.and_eq_true_iff
def abV:=@Option.isSome_iff_exists
def abW:=@List.forall_mem_cons
def abX:=@Bool.eq_false_iff
def abY:=@List.all_eq_true
def abZ:=@List.pairwise_iff_getElem
def ab0:=@List.mem_range
def ab1:=@List.zip_cons_cons
def ab2:=@List.not_lt
def ab3:=@Nat.lt_trans
def ab4:=@Nat.le_of_lt
def ab5:=@List.any_map
def aaa:=@PySem.wpAny_bind
def aab:=@List.mem_cons_self
def aac:=@Nat.le_refl
def aad:=@List.map_append
def aae:=@List.mem_cons_of_mem
def aaf:=@PySem.wpAny_pure
def aag:=@PySem.Heap.lt_size
def aah:=@List.length_take
def aai:=@List.take_of_length_le
def aaj:=@Option.some.inj
def aak:=@Nat.ne_of_lt
def aal:=@List.mem_append_right
def aam:=@List.append_nil
def aan:=@Nat.zero_le
def aao:=@Nat.lt_of_lt_of_le
def aap:=@List.take_succ
def aaq:=@Option.map_eq_some_iff
def aar:=@List.append_assoc
def aas:=@Nat.le_trans
def aat:=@List.map_map
def aau:=@PySem.W.mg_none_of
def aav:=@List.mem_append_left
def aaw:=@PySem.W.kia_one
def aax:=@List.Nodup.length_le_of_subset
def aay:=@List.map_congr_left
def aaz:=@Nat.lt_succ_self
def aaA:=@PySem.wpAny_call_entry
def aaB:=@List.length_drop
def aaC:=@List.eq_nil_of_length_eq_zero
def aaD:=@List.drop_eq_getElem_cons
def aaE:=@List.Perm.refl
def aaF:=@List.lookup_cons
def aaG:=@Nat.le_succ
def aaH:=@PySem.Around.under_plainId
def aaI:=@List.filter_append
def aaJ:=@PySem.wpAny_truthy_bool
def aaK:=@PySem.wpAny_newObj_type
def aaL:=@Nat.lt_succ_of_lt
def aaM:=@PySem.wpAny_holding
def aaN:=@Nat.one_mul
def aaO:=@Nat.lt_irrefl
def aaP:=@List.length_set
def aaQ:=@List.all_cons
def aaR:=@List.getElem_mem
def aaS:=@PySem.mem_of_lookup
def aaT:=@Bool.not_eq_true'
def aaU:=@PySem.W.mg_of
def aaV:=@List.length_replicate
def aaW:=@List.length_filter_le
def aaX:=@List.Perm.append_left
def aaY:=@Int.eq_ofNat_of_zero_le
def aaZ:=@List.take_sublist
def aa0:=@List.any_eq_true
def aa1:=@PySem.Heap.size_push
def aa2:=@PyProof.Rows.slot_tuple_getitem
def aa3:=@Int.zero_add
def aa4:=@PySem.Paired.length
def aa5:=@List.Perm.append_right
def aa6:=@PySem.wpAny_setField_rec
def aa7:=@PySem.F.slot_dict_keyiterator_next
def aa8:=@PySem.wpAny_passesOwn
def aa9:=@Sum.inr.inj
def aba:=@List.range_succ
def abb:=@List.perm_append_comm
def abd:=@List.length_singleton
def abe:=@PySem.wpAny_setState_of
def abf:=@List.foldl_append
def abg:=@List.mem_of_mem_take
def abh:=@Array.toArray_toList
def abi:=@PyProof.Rows.F.plain_set_update_loop
def abj:=@List.drop_zero
def abk:=@PySem.wpAny_askSetting
def abl:=@PySem.wpAny_setEntries_of
def abm:=@List.length_reverse
def abn:=@List.getElem_of_mem
def abo:=@List.filterMap_cons
def abp:=@PySem.wpAny_mono
def abq:=@PySem.wpAny_getItem_str_slice
def abr:=@Nat.not_lt_zero
def abt:=@Nat.add_sub_cancel_left
def abu:=@Bool.eq_iff_iff
def abv:=@PySem.Calls.callWith_builtin
def abw:=@PySem.W.kitx_dict
def abx:=@List.set_set
def aby:=@List.drop_length
def abz:=@PySem.wpAny_attempt
def abA:=@List.any_cons
def abB:=@PySem.wpAny_rule
def abC:=@PyProof.Rows.callWith_type1
namespace L2
theorem aF(_:True:=by first|exact .inl rfl|exact .inr rfl|assumption):True:=trivial
theorem aD(_:True:=by decide):True:=trivial
theorem aI(_:True:=by intro _;rfl):True:=trivial
theorem aR(_:True:=by rfl):True:=trivial
end L2
namespace L2
open PySem PySem.Spec PyProof.Rows
variable{a b it dx C:Addr}{u:Value}{P prog:Program}{w:World}{h h' base:Heap}{α:Type}{x name m qual:Str}{e c tg l:Expr}{pins:List (Addr×Obj)}{s s':Shared}{t' i j k n:Nat}{ch fp:List Addr}{N ps:List Str}{A:Around}{E Q:Value->Shared->Prop}{pos pos' p apos:Pos}{op op':CmpOp}{es:List Expr}{g:Int->Int->Int}{body:List Stmt}{f:Value->Value->Sem Value}{us:List Value}{mA mg:Str->Option Value}{pl:Sem Bool}{kw:List (Str×Value)}{fd:FuncData}{outer:List Env}{scope:Scope}
abbrev Key:=Sum Int Str
def jT:Key->Value->Bool
 |.inl k,v=>Value.isInt k v
 |.inr x,v=>Value.isStrOf x v
def keyH(w:World):Key->Int
 |.inl k=>hashInt k
 |.inr x=>hashStr w x
theorem aN:∀{k:Key} {v:Value},jT k v=true->(∃i t,k=Sum.inl i/\v=Value.int i t)∨(∃x t,k=Sum.inr x/\v=Value.str x t)
 | .inl i,v,h=>by
  obtain⟨t,e⟩:=Value.isInt_shape (k:=i) (v:=v) h;exact .inl ⟨i,t,rfl,e⟩
 | .inr x,v,h=>by
  obtain⟨t,e⟩:=Value.isStrOf_shape (x:=x) (v:=v) h;exact .inr ⟨x,t,rfl,e⟩
theorem re(i:Int)(t:Tok):jT (.inl i) (.int i t)=true:=by simp[jT,Value.isInt]
theorem kW(x:Str)(t:Tok):jT (.inr x) (.str x t)=true:=by simp[jT,Value.isStrOf]
theorem Ge(a b:Int):decide ((Sum.inl a:Key)=Sum.inl b)=(a==b):=by
 by_cases e:a=b
 ·subst e;simp
 ·have h:¬(Sum.inl a:Key)=Sum.inl b:=λq=>e (Sum.inl.inj q);rw[decide_eq_false h];exact(beq_eq_false_iff_ne.mpr e).symm
theorem Gf(a b:Str):decide ((Sum.inr a:Key)=Sum.inr b)=decide (a=b):=by
 by_cases e:a=b
 ·subst e;simp
 ·have h:¬(Sum.inr a:Key)=Sum.inr b:=λq=>e (aa9 q);rw[decide_eq_false h,decide_eq_false e]
theorem Gg(a:Int)(b:Str):decide ((Sum.inl a:Key)=Sum.inr b)=false:=decide_eq_false (λq=>nomatch q)
theorem Gh(a:Str)(b:Int):decide ((Sum.inr a:Key)=Sum.inl b)=false:=decide_eq_false (λq=>nomatch q)
def ay(prog:Program)(w:World):PySem.KeyKind prog w Key where
 is:=jT
 hash:=keyH w
 inj:=λv a b ha hb=>by
  rcases aN ha with ⟨i,t,rfl,rfl⟩|⟨x,t,rfl,rfl⟩
  ·rcases aN hb with ⟨j,u,rfl,e⟩|⟨y,u,rfl,e⟩
   ·injection e with e1 _;rw[e1]
   ·exact nomatch e
  ·rcases aN hb with ⟨j,u,rfl,e⟩|⟨y,u,rfl,e⟩
   ·exact nomatch e
   ·injection e with e1 _;rw[e1]
 byValue:=λk v h=>by
  rcases aN h with ⟨i,t,rfl,rfl⟩|⟨x,t,rfl,rfl⟩ <;> rfl
 pyHash:=λhv h=>by
  rcases aN hv with ⟨i,t,rfl,rfl⟩|⟨x,t,rfl,rfl⟩
  ·exact wpAny_pyHash_int h
  ·exact wpAny_pyHash_str h
 eqBool:=λhu hv h=>by
  rcases aN hu with ⟨i,t,rfl,rfl⟩|⟨x,t,rfl,rfl⟩
  ·rcases aN hv with ⟨j,u,rfl,rfl⟩|⟨y,u,rfl,rfl⟩
   ·rw[Ge] at h;exact wpAny_eqBool_int h
   ·rw[Gg] at h;exact SeqAt.EqAt.int_str i t y u _ _ _ _ h
  ·rcases aN hv with ⟨j,u,rfl,rfl⟩|⟨y,u,rfl,rfl⟩
   ·rw[Gh] at h;exact SeqAt.EqAt.str_int x t j u _ _ _ _ h
   ·rw[Gf] at h;exact wpAny_eqBool_str h
 «strs»:=λk x t v h=>by
  rcases aN h with ⟨i,u,rfl,e⟩|⟨y,u,rfl,e⟩
  ·exact nomatch e
  ·injection e with e1 _
   subst e1
   cases v <;> rfl
theorem mH(prog:Program)(w:World)(i:Int)(t:Tok):(ay prog w).is (.inl i) (.int i t)=true:=re i t
theorem mI(prog:Program)(w:World)(x:Str)(t:Tok):(ay prog w).is (.inr x) (.str x t)=true:=kW x t
inductive V where
 |non|bl (b:Bool)|int (i:Int)|str (x:Str)|byt (b:Array UInt8)|flt (b:UInt64)|ref (a:Addr)|ty (n:String)
 deriving DecidableEq
variable{v y:V}{xs vs:List V}
def RelV:V->Value->Prop
 |.non,u=>u=Value.none
 |.bl b,u=>u=Value.bool b
 |.int i,u=>∃t,u=Value.int i t
 |.str x,u=>∃t,u=Value.str x t
 |.byt b,u=>∃t,u=Value.bytes b t
 |.flt b,u=>∃t,u=Value.float b t
 |.ref a,u=>u=Value.ref a
 |.ty n,u=>u=Value.type n
abbrev Vals:List V->List Value->Prop:=Paired RelV
theorem Vals.length{xs:List V}{us:List Value}(r:Vals xs us):xs.length=us.length:=aa4 r
theorem Vals.get:∀{xs:List V} {us:List Value} {i:Nat} {x:V},Vals xs us->xs[i]?=some x->∃u,us[i]?=some u/\RelV x u
 |_,_,_,_,.nil,e=>by simp at e
 |_,_,0,_,.cons r _,e=>by simp at e;subst e;exact⟨_,rfl,r⟩
 | _,_,i+1,x,.cons _ t,e=>by
  obtain⟨u,h1,h2⟩:=Vals.get (i:=i) (x:=x) t (by exists e);exact⟨u,(by exists h1),h2⟩
theorem Vals.set{x:V}{u:Value}(r:RelV x u):∀{xs:List V} {us:List Value} (i:Nat),Vals xs us->Vals (xs.set i x) (us.set i u)
 |_,_,_,.nil=>.nil
 |_,_,0,.cons _ t=>.cons r t
 |_,_,i+1,.cons q t=>.cons q (Vals.set r i t)
theorem Vals.append:∀{xs ys:List V} {us ws:List Value},Vals xs us->Vals ys ws->Vals (xs++ys) (us++ws)
 |_,_,_,_,.nil,s=>s
 |_,_,_,_,.cons r t,s=>.cons r (Vals.append t s)
theorem Vals.take:∀{xs:List V} {us:List Value} (n:Nat),Vals xs us->Vals (xs.take n) (us.take n)
 |_,_,0,_=>.nil
 |_,_,_+1,.nil=>.nil
 |_,_,n+1,.cons r t=>.cons r (Vals.take n t)
theorem Vals.drop:∀{xs:List V} {us:List Value} (n:Nat),Vals xs us->Vals (xs.drop n) (us.drop n)
 |_,_,0,r=>r
 |_,_,_+1,.nil=>.nil
 |_,_,n+1,.cons _ t=>Vals.drop n t
def RelO:Option V->Option Value->Prop
 |some v,some u=>RelV v u
 |none,none=>True
 |_,_=>False
def KV{κ:Type}:List (κ×V)->List (κ×Value)->Prop:=Paired λ(p:κ×V) (q:κ×Value)=>p.1=q.1/\RelV p.2 q.2
def kV:Key->V
 |.inl i=>.int i
 |.inr x=>.str x
inductive HO where
 |lst (xs:List V)
 |tup (xs:List V)
 |dK (kvs:List (Key×V))|dT (kvs:List (List Key×V))
 |set (S:Int->Bool) (n:Nat)
 |ins (C dx:Addr) (fs:List (Str×V))
 |own (x:Addr)
 |xd (fs:List (Str×V))
 |met (f x:Addr)
 |rng (lo hi:Int)
 |frz (o:Obj) (u:HO)
 |tbl (ps:Array Value)
 |ext (φ:Heap->Prop)
variable{o:HO}
abbrev Hp:=Addr->Option HO
variable{H H':Hp}{R:V->V->Hp->Prop}
def upd(H:Hp)(a:Addr)(o:HO):Hp:=λb=>if b=a then some o else H b
theorem af :upd H a o a=some o:=by unfold upd;rw[if_pos rfl]
theorem aj(h:b≠a):upd H a o b=H b:=by unfold upd;rw[if_neg h]
theorem Lc{u:HO}(h:H a=some o)(h':H b=some u)(d:o≠u):a≠b:=by
 intro e;subst e;rw[h] at h';exact d (aaj h')
theorem cx(h:H a=some o)(h':H b=none):a≠b:=by
 intro e;subst e;rw[h] at h';cases h'
section
variable (P:Program) (w:World)
def ObjOk(H:Hp)(h:Heap)(a:Addr):HO->Prop
 |.lst xs=>xs.length<=sizeLine/\∃(its:List Value) (n:Nat),Vals xs its/\h.get? a=some { cls:=.type "list", data:=.seq its.toArray n }
 |.tup xs=>xs.length<=sizeLine/\∃its:List Value,Vals xs its/\IsTup h a its.toArray
 |.dK kvs=>kvs.length<=sizeLine/\(a==sysModules)=false/\∃vs,KV kvs vs/\h.DictOf (ay P w) a vs
 | .dT kvs=>kvs.length<=sizeLine/\(a==sysModules)=false/\∃xs:List (List Key×Addr×Value),
   Paired (λ(p:List Key×V) (q:List Key×Addr×Value)=>p.1=q.1/\H q.2.1=some (.tup (p.1.map kV))/\RelV p.2 q.2.2) kvs xs /\
   ∃o es ep,h.get? a=some o/\o.ExactDict/\o.data=.dict es ep/\es.toList=xs.map (entryOfKey (tupleKind (ay P w)))/\(xs.map (·.1)).Nodup
 |.set S n=>h.SetOf (intKind P w) a S n
 | .ins C dx fs=>H dx=some (.own a)/\fs.length<=1000/\dx≠a/\h.get? a=some (PySem.W.instObj C dx) /\
   ∃mA,h.Ns1 dx mA/\(∀f,RelO (fs.lookup f) (mA f))/\PySem.Within mA (fs.map (·.1))
 |.own _=>∃o,h.get? a=some o
 |.xd fs=>∃mA,h.Ns1 a mA/\∀f,RelO (fs.lookup f) (mA f)
 |.rng lo hi=>∃t u v,h.get? a=some { cls:=.type "range", data:=.fields #[.int lo t,.int hi u,.int 1 v] }
 |.frz o u=>h.get? a=some o/\ObjOk H h a u
 |.tbl ps=>h.get? a=some { cls:=.none,data:=.fields ps }
 |.met f x=>h.get? a=some (PySem.W.methodObj (.ref f) (.ref x))
 |.ext b=>b h/\(∃o,h.get? a=some o)/\∀h1 h2:Heap,b h1->(∀o,h1.get? a=some o->h2.get? a=some o)->b h2
def HOk(H:Hp)(h:Heap):Prop:=∀a o,H a=some o->ObjOk P w H h a o
end
theorem ObjOk.lt(x:ObjOk P w H h a o):a<h.objs.size:=by
 cases o with
 |lst xs=>obtain⟨_,_,_,_,e⟩:=x;exact aag e
 |tup xs=>obtain⟨_,_,_,p⟩:=x;exact p.lt
 |dK kvs=>obtain⟨_,_,_,_,o,_,_,e,_⟩:=x;exact aag e
 |dT kvs=>obtain⟨_,_,_,_,o,_,_,e,_⟩:=x;exact aag e
 |set S n=>obtain⟨o,_,_,_,e,_⟩:=x;exact aag e
 |ins C dx fs=>obtain⟨_,_,_,e,_⟩:=x;exact aag e
 |own y=>obtain⟨_,e⟩:=x;exact aag e
 |xd fs=>obtain⟨_,⟨_,_,_,e,_⟩,_⟩:=x;exact aag e
 |rng lo hi=>obtain⟨_,_,_,e⟩:=x;exact aag e
 |frz ob u=>obtain⟨e,_⟩:=x;exact aag e
 |tbl ps=>exact aag (show h.get? a=some _ from x)
 |met f y=>exact aag (show h.get? a=some _ from x)
 |ext b=>obtain⟨_,⟨_,e⟩,_⟩:=x;exact aag e
theorem Paired.mapP{β:Type}{F G:α->β->Prop}{d:List α}{c:List β}(h:Paired F d c)(f:∀a b,F a b->G a b):Paired G d c:=by
 induction h with
 |nil=>exact .nil
 |cons r t e=>exact .cons (f _ _ r) e
theorem ObjOk.stay(x:ObjOk P w H h a o)(k:∀b u,(b=a∨H b=some (.own a))->h.get? b=some u->h'.get? b=some u)
  (j:∀b,H b=some (.own a)->H' b=some (.own a)) (i:∀b xs,H b=some (.tup xs)->H' b=some (.tup xs)):ObjOk P w H' h' a o:=by
 induction o with
 |lst xs=>obtain⟨z,its,n,r,e⟩:=x;exact⟨z,its,n,r,k _ _ (.inl rfl) e⟩
 |tup xs=>obtain⟨z,its,r,ob,e,c⟩:=x;exact⟨z,its,r,ob,k _ _ (.inl rfl) e,c⟩
 |dK kvs=>obtain⟨z,y,vs,r,ob,es,ep,e,c⟩:=x;exact⟨z,y,vs,r,ob,es,ep,k _ _ (.inl rfl) e,c⟩
 | dT kvs=>
  obtain⟨z,y,xs,r,ob,es,ep,e,c⟩:=x;exact⟨z,y,xs,Paired.mapP r λp q z=>⟨z.1,i _ _ z.2.1,z.2.2⟩,ob,es,ep,k _ _ (.inl rfl) e,c⟩
 |set S n=>obtain⟨ob,es,ep,t,e,c⟩:=x;exact⟨ob,es,ep,t,k _ _ (.inl rfl) e,c⟩
 | ins C dx fs=>
  obtain⟨d,z,ne,e,mA,⟨od,es,ep,l,c⟩,r⟩:=x;exact⟨j _ d,z,ne,k _ _ (.inl rfl) e,mA,⟨od,es,ep,k _ _ (.inr d) l,c⟩,r⟩
 |own y=>obtain⟨ob,e⟩:=x;exact⟨ob,k _ _ (.inl rfl) e⟩
 |xd fs=>obtain⟨mA,⟨od,es,ep,e,c⟩,r⟩:=x;exact⟨mA,⟨od,es,ep,k _ _ (.inl rfl) e,c⟩,r⟩
 |rng lo hi=>obtain⟨t,u,v,e⟩:=x;exact⟨t,u,v,k _ _ (.inl rfl) e⟩
 |frz ob u g=>obtain⟨e,q⟩:=x;exact⟨k _ _ (.inl rfl) e,g q⟩
 | tbl ps=>
  have e:h.get? a=some { cls:=.none,data:=.fields ps }:=x;show h'.get? a=some { cls:=.none,data:=.fields ps };exact k a _ (.inl rfl) e
 | met f y=>
  have e:h.get? a=some (PySem.W.methodObj (.ref f) (.ref y)):=x;show h'.get? a=some (PySem.W.methodObj (.ref f) (.ref y));exact k a _ (.inl rfl) e
 |ext m=>obtain⟨p,⟨o,e⟩,st⟩:=x;exact⟨st _ _ p λo q=>k _ _ (.inl rfl) q,⟨o,k _ _ (.inl rfl) e⟩,st⟩
theorem HOk.lt(x:HOk P w H h)(e:H a=some o):a<h.objs.size:=(x a o e).lt
theorem HOk.fresh(x:HOk P w H h)(e:h.objs.size<=a):H a=none:=by
 cases q:H a with
 |none=>rfl
 |some u=>exact absurd (aao (x.lt q) e) (aaO _)
theorem HOk.kept(x:HOk P w H h)(k:∀b u,h.get? b=some u->h'.get? b=some u):HOk P w H h':=λa o e=>
 (x a o e).stay (λb u _ q=>k b u q) (λ_ q=>q) λ_ _ q=>q
theorem HOk.laid(x:HOk P w H h)(k:∀b u,h.get? b=some u->h'.get? b=some u)(g:h.objs.size<=a)(new:ObjOk P w (upd H a o) h' a o):HOk P w (upd H a o) h':=λb u e=>by
 have d:=x.fresh g;by_cases f:b=a
 ·subst f;rw[af] at e;cases e;exact new
 ·rw[aj f] at e;exact(x b u e).stay (λc v _ q=>k c v q) (λc q=>by rw[aj (cx q d)];exact q) λc xs q=>by rw[aj (cx q d)];exact q
def Rd(H:Hp)(a:Addr)(u:HO):Prop:=H a=some u∨∃o,H a=some (.frz o u)
theorem Rd.ok{u:HO}(r:Rd H a u)(x:HOk P w H h):ObjOk P w H h a u:=by
 rcases r with r|⟨o,r⟩
 ·exact x a u r
 ·obtain⟨_,q⟩:=x a _ r;exact q
def Mut:Option HO->Prop
 |some (.lst _)=>True
 |some (.dK _)=>True
 |some (.dT _)=>True
 |some (.set _ _)=>True
 |some (.ins _ _ _)=>True
 |some (.ext _)=>True
 |_=>False
section
variable     {x e:Addr} {o':HO}
theorem HOk.write(ok:HOk P w H h)(g:Mut (H x))(n:e=x∨H e=some (.own x))(k:∀b u,b≠e->h.get? b=some u->h'.get? b=some u)(l:∃u,h'.get? e=some u)
  (new:ObjOk P w (upd H x o') h' x o'):HOk P w (upd H x o') h':=λb u q=>by
 have d:∀c y,H c=some (.own y)->c≠x:=λc y r z=>by subst z;rw[r] at g;exact g
 have f:∀c xs,H c=some (.tup xs)->c≠x:=λc xs r z=>by subst z;rw[r] at g;exact g
 by_cases j:b=x
 ·subst j;rw[af] at q;cases q;exact new
 ·rw[aj j] at q;by_cases a:b=e
  ·have m:H b=some (.own x):=by
    rcases n with z|z
    ·exact absurd (a.trans z) j
    ·rw[a];exact z
   rw[q] at m;cases m;obtain⟨v,o⟩:=l;exact⟨v,by rw[a];exact o⟩
  ·refine(ok b u q).stay (λc v i r=>k c v ?_ r) (λc r=>by rw[aj (d c b r)];exact r) λc xs r=>by rw[aj (f c xs r)];exact r
   rcases i with rfl|i
   ·exact a
   ·rintro rfl;rcases n with z|z
    ·exact d c b i z
    ·rw[i] at z;cases z;exact j rfl
end
structure Un(fs ex:List Addr)(H H':Hp)(h h':Heap):Prop where
 keep:∀b o,h.get? b=some o->H b=none->b∉fs->b∉ex->h'.get? b=some o
 slot:∀b o,h.get? b=some o->H b=none->b∈fs->b∉ex->∃sl,h'.get? b=some { o with slots:=sl }
 free:∀b o,h.get? b=some o->H b=none->b∉ex->H' b=none
 there:∀b o,h.get? b=some o->b∉ex->∃o',h'.get? b=some o'
 tups:∀b xs,H b=some (.tup xs)->H' b=some (.tup xs)
 frzs:∀b o u,H b=some (.frz o u)->H' b=some (.frz o u)
 tbls:∀b ps,H b=some (.tbl ps)->∃more,H' b=some (.tbl (ps++more))
section
variable {fs fs' ex ex':List Addr} {H1 H2:Hp} {h1 h2:Heap} {x e:Addr} 
theorem Un.any(u:Un fs ex H H1 h h1){ob:Obj}(q:h.get? b=some ob)(n:H b=none)(hx:b∉ex):∃sl,h1.get? b=some { ob with slots:=sl }:=by
 by_cases a:b∈fs
 ·exact u.slot b ob q n a hx
 ·exact⟨ob.slots,u.keep b ob q n a hx⟩
theorem Un.kept(k:∀b u,h.get? b=some u->h'.get? b=some u):Un fs ex H H h h':=
 ⟨λb ob q _ _ _=>k b ob q,λb ob q _ _ _=>⟨ob.slots,k b ob q⟩,λ_ _ _ n _=>n,λb ob q _=>⟨ob,k b ob q⟩,λ_ _ q=>q,λ_ _ _ q=>q,λ_ ps q=>⟨#[],by rw[q];simp⟩⟩
theorem Un.refl:Un fs ex H H h h:=Un.kept λ_ _ q=>q
theorem Un.laid(k:∀b u,h.get? b=some u->h'.get? b=some u)(hp:h.objs.size<=a)(hn:H a=none):Un fs ex H (upd H a o) h h' where
 keep:=λb u q _ _ _=>k b u q
 slot:=λb u q _ _ _=>⟨u.slots,k b u q⟩
 free:=λb u q n _=>by rw[aj (aak (aao (aag q) hp))];exact n
 there:=λb u q _=>⟨u,k b u q⟩
 tups:=λb xs q=>by rw[aj (cx q hn)];exact q
 frzs:=λb u xs q=>by rw[aj (cx q hn)];exact q
 tbls:=λb ps q=>⟨#[],by rw[aj (cx q hn),q];simp⟩
theorem Un.write(c:Mut (H x))(j:e=x∨H e=some (.own x))(k:∀b u,b≠e->h.get? b=some u->h'.get? b=some u)(f:∃u,h'.get? e=some u):Un fs ex H (upd H x o) h h':=by
 have g:∀b,H b=none->b≠x:=λb n z=>by subst z;rw[n] at c;exact c
 have i:∀b,H b=none->b≠e:=λb n z=>by
  subst z;rcases j with r|r
  ·exact g b n r
  ·rw[n] at r;cases r
 have d:∀b u,H b=some u->¬Mut (some u)->b≠x:=λb u q nm z=>by subst z;rw[q] at c;exact nm c
 refine⟨λb u q n _ _=>k b u (i b n) q,λb u q n _ _=>⟨u.slots,k b u (i b n) q⟩,λb u q n _=>by rw[aj (g b n)];exact n,λb u q _=>?_,
  λb xs q=>by rw[aj (d b _ q λz=>z)];exact q,λb u xs q=>by rw[aj (d b _ q λz=>z)];exact q,λb ps q=>⟨#[],by rw[aj (d b _ q λz=>z),q];simp⟩⟩
 by_cases a:b=e
 ·subst a;exact f
 ·exact⟨u,k b u a q⟩
end
def trk(h:Heap)(H:Hp):List Addr:=(List.range h.objs.size).filter λa=>(H a).isSome
def wa(h:Heap)(H:Hp):Heap:=PySem.W.hideAll h (trk h H)
theorem rf(h:Heap)(H:Hp):(wa h H).objs.size=h.objs.size:=PySem.W.hideAll_size _ _
theorem wb{o:Obj}(e:h.get? b=some o)(n:H b=none):(wa h H).get? b=some o:=
 PySem.W.hideAll_get _ e λa=>by
  have q:(H b).isSome=true:=(abQ.mp a).2;rw[n] at q;simp at q
theorem Bn{o:Obj}(e:(wa h H).get? b=some o):h.get? b=some o/\H b=none:=by
 have a:h.get? b=some o:=PySem.W.of_hideAll (trk h H) e;refine⟨a,?_⟩
 cases q:H b with
 |none=>rfl
 | some x=>
  have c:b∈trk h H:=abQ.mpr ⟨ab0.mpr (aag a),by simp[q]⟩;have z:(wa h H).get? b=none:=PySem.W.hideAll_none (trk h H) c;rw[z] at e;cases e
def Bo(g h:Heap)(L:Addr):List (Addr×Obj):=(List.range h.objs.size).filterMap λa=>if a=L∨(g.get? a).isSome=true then none else (h.get? a).map λo=>(a,o)
def rest(g h:Heap)(L d:Addr):List (Addr×Obj):=(Bo g h L).filter λp=>decide (p.1≠d)
structure Mod(K:Frag)(mg:Str->Option Value)(base:Heap):Prop where
 kin:K.In base
 glob:base.Ns mainGlobals mg
 blt:∃mb,base.Ns builtinsNs mb/\∀x:Str,x ≠ "__name__" -> mb x=bootBuiltins x
 nolimit:base.NoLimit
structure Cx where
 prog:Program
 w:World
 K:Frag
 mg:Str->Option Value
 base:Heap
 A:Around
 N:List Str
 s₀:Shared
 H₀:Hp
 env:Env
 outer:List Env
 stack:List Env
 ex:List Addr
 fn:Str->Bool
 calm:Bool
 pn:List (Addr×Obj)
 xe:Value->Shared->Prop
variable{X:Cx}
def frs(l:List Env):List Addr:=l.filterMap (·.frame)
abbrev Cx.fs(X:Cx):List Addr:=frs X.outer
def Vis(a:Scope)(x:Str):Prop:=a.names.lookup x=some .local∨a.names.lookup x=some .cell∨a.names.lookup x=some .free
def Loc(a:Scope)(x:Str):Prop:=a.names.lookup x=some .local∨a.names.lookup x=some .cell
def Look(env:Env)(h:Heap)(m:Str->Option Value)(x:Str)(u:Value):Prop:=
 (env.kindOf x=some .local/\m x=some u)∨((env.kindOf x=some .cell∨env.kindOf x=some .free)/\∃c,env.cells.lookup x=some c/\h.IsCell c (some u))
structure Cx.Ok(X:Cx):Prop where
 mod:Mod X.K X.mg X.base
 kind:X.env.scope.kind=.function
 glob:X.env.globals=mainGlobals
 blt:X.env.builtins=builtinsNs
 above:X.s₀.heap.objs.size<=X.env.locals
 inj:∀x y c,X.env.cells.lookup x=some c->X.env.cells.lookup y=some c->x=y
 has:∀x,(X.env.kindOf x=some .cell∨X.env.kindOf x=some .free)->∃c,X.env.cells.lookup x=some c
 cab:∀x c,X.fn x=true->X.env.cells.lookup x=some c->X.s₀.heap.objs.size<=c
 hd:X.calm=true->X.A.handled=none
 frames:X.A.frames=some X.stack
 stk:X.stack=X.outer∨(X.stack=X.env::X.outer/\X.env.frame=some X.env.locals)
 exf:∀b∈X.ex,b≠X.env.locals/\∀x c,X.env.cells.lookup x=some c->c≠b
 bs:∀b o,X.base.get? b=some o->X.s₀.heap.get? b=some o/\X.H₀ b=none
 bsz:X.base.objs.size<=X.s₀.heap.objs.size
 noex:∀b o,X.base.get? b=some o->b∉X.ex
 exfs:∀b∈X.ex,b∉X.fs
 funs:X.s₀.heap.FunFrames X.base X.outer
 frf:∀b∈X.fs,X.H₀ b=none
structure Inv(X:Cx)(pins:List (Addr×Obj))(σ:List (Option V))(H:Hp)(s:Shared):Prop where
 ok:X.Ok
 os:s.os=X.s₀.os
 bare:AllBare s.gens
 base:Un X.fs X.ex X.H₀ H X.s₀.heap s.heap
 loc:∃m,s.heap.Ns X.env.locals m/\∀(i:Nat) (x:Str) (v:V),X.N[i]?=some x->σ[i]?=some (some v)->Vis X.env.scope x->∃u,RelV v u/\Look X.env s.heap m x u
 cell:∀x c,X.env.cells.lookup x=some c->∃v,s.heap.IsCell c v
 free:H X.env.locals=none
 freeC:∀x c,X.env.cells.lookup x=some c->H c=none
 pin:∀p∈X.pn++pins,s.heap.get? p.1=some p.2/\H p.1=none/\p.1≠X.env.locals/\p.1∉X.fs/\∀v,p.2.data≠.cell v
 hok:HOk X.prog X.w H s.heap
 len:σ.length=X.N.length
section
variable   {σ:List (Option V)}   
theorem Cx.Ok.nofr(ok:X.Ok){o:Obj}(e:X.base.get? b=some o):b∉X.fs:=λa=>by
 have:=(ok.funs.mem a).1;rw[e] at this;cases this
theorem Inv.bs(I:Inv X pins σ H s):∀b o,X.base.get? b=some o->s.heap.get? b=some o/\H b=none:=λb o e=>
 ⟨I.base.keep b o (I.ok.bs b o e).1 (I.ok.bs b o e).2 (I.ok.nofr e) (I.ok.noex b o e),I.base.free b o (I.ok.bs b o e).1 (I.ok.bs b o e).2 (I.ok.noex b o e)⟩
theorem Inv.bk(I:Inv X pins σ H s):∀b o,X.base.get? b=some o->s.heap.get? b=some o:=λb o e=>(I.bs b o e).1
theorem Inv.mod(I:Inv X pins σ H s):Mod X.K X.mg X.base:=I.ok.mod
theorem Inv.kIn(I:Inv X pins σ H s):X.K.In s.heap:=I.ok.mod.kin.keeps I.bk
theorem Inv.lt(I:Inv X pins σ H s):X.env.locals<s.heap.objs.size:=let ⟨_,a,_⟩:=I.loc;a.lt
theorem Inv.sz(I:Inv X pins σ H s):X.s₀.heap.objs.size<=s.heap.objs.size:=aas I.ok.above (ab4 I.lt)
theorem Inv.nofs(I:Inv X pins σ H s)(h:s.heap.objs.size<=a):a∉X.fs:=λc=>by
 obtain⟨_,o,b,_⟩:=I.ok.funs.mem c;exact absurd (aao (aag b) (aas I.sz h)) (aaO _)
theorem Inv.cne(I:Inv X pins σ H s):∀x c,X.env.cells.lookup x=some c->c≠X.env.locals:=λx c e z=>by
 obtain⟨v,o,d,hd⟩:=I.cell x c e;obtain⟨m,⟨o',es,ep,a,b,_⟩,_⟩:=I.loc;rw[z,a] at d;cases d;rw[b] at hd;cases hd
theorem Inv.funs(I:Inv X pins σ H s):s.heap.FunFrames X.base X.outer:=by
 have all:∀(l:List Env),(∀b∈frs l,b∈X.fs)->X.s₀.heap.FunFrames X.base l->s.heap.FunFrames X.base l:=by
  intro l
  induction l with
  |nil=>intro _ _;trivial
  | cons env r f=>
   intro hs j;obtain⟨k,⟨L,o,a,i,g,hd⟩,hr⟩:=j;have d:L∈X.fs:=hs L (by unfold frs;rw[abo,a];exact aab);obtain⟨sl,e⟩:=I.base.slot L o g (I.ok.frf L d) d λz=>I.ok.exfs L z d;exact⟨k,⟨L,_,a,i,e,hd⟩,f (λb c=>hs b (by unfold frs;rw[abo,a];exact aae _ c)) hr⟩
 exact all X.outer (λ_ c=>c) I.ok.funs
theorem Inv.stack(I:Inv X pins σ H s):s.heap.FunFrames X.base X.stack:=by
 rcases I.ok.stk with e|⟨e,b⟩
 ·rw[e];exact I.funs
 ·rw[e];obtain⟨m,a,_⟩:=I.loc;refine .cons (by rw[I.ok.kind];decide) b a ?_ I.funs;exact Heap.get?_none_of_le (aas I.ok.bsz I.ok.above)
theorem Inv.stkSub(I:Inv X pins σ H s):∀b∈frs X.stack,b∈X.env.locals::X.fs:=λb a=>by
 rcases I.ok.stk with e|⟨e,c⟩
 ·rw[e] at a;exact aae _ a
 ·rw[e] at a;unfold frs at a;rw[abo,c] at a;exact a
theorem Inv.stkFree(I:Inv X pins σ H s):∀b∈frs X.stack,H b=none:=λb a=>by
 rcases abI.mp (I.stkSub b a) with e|a
 ·rw[e];exact I.free
 ·obtain⟨_,o,c,_⟩:=I.ok.funs.mem a;exact I.base.free b o c (I.ok.frf b a) λz=>I.ok.exfs b z a
theorem Inv.step{g':Array GenState}{t':Nat}{d':Drawn}{ch:List Addr}(I:Inv X pins σ H s)
  (g:∀b∈ch,(b∈X.ex∨X.s₀.heap.objs.size<=b)/\b≠X.env.locals/\(∀x c,X.env.cells.lookup x=some c->c≠b)/\∀p∈X.pn++pins,p.1≠b)
  (keep:∀b o,b≠X.env.locals->b∉X.fs->b∉ch->s.heap.get? b=some o->H b=none->h'.get? b=some o)
  (slot:∀b o,b≠X.env.locals->b∈X.fs->b∉ch->s.heap.get? b=some o->H b=none->∃sl,h'.get? b=some { o with slots:=sl }) (free:∀b o,b∉ch->s.heap.get? b=some o->H b=none->H' b=none)
  (there:∀b o,b∉ch->s.heap.get? b=some o->∃o',h'.get? b=some o')
  (tups:∀b xs,H b=some (.tup xs)->H' b=some (.tup xs)) (frzs:∀b o u,H b=some (.frz o u)->H' b=some (.frz o u)) (tbls:∀b ps,H b=some (.tbl ps)->∃more,H' b=some (.tbl (ps++more)))
  (ns:∀m,s.heap.Ns X.env.locals m->h'.Ns X.env.locals m) (hok:HOk X.prog X.w H' h') (M:AllBare g') :
  Inv X pins σ H' { s with heap:=h',gens:=g',drawn:=d',toks:=t' }:=by
 have B:∀b o,X.s₀.heap.get? b=some o->b≠X.env.locals:=λb o e=>aak (aao (aag e) I.ok.above)
 have t:∀b o,X.s₀.heap.get? b=some o->b∉X.ex->b∉ch:=λb o e a y=>by
  rcases (g b y).1 with z|z
  ·exact a z
  ·exact absurd (aao (aag e) z) (aaO _)
 have j:∀x c,X.env.cells.lookup x=some c->∀v,s.heap.IsCell c v->h'.IsCell c v:=λx c e v ⟨o,A,hd⟩=>by
  have f:c∉ch:=λz=>(g c z).2.2.1 x c e rfl;by_cases G:c∈X.fs
  ·obtain⟨sl,q⟩:=slot c o (I.cne x c e) G f A (I.freeC x c e);exact⟨_,q,hd⟩
  ·exact⟨o,keep c o (I.cne x c e) G f A (I.freeC x c e),hd⟩
 refine⟨I.ok,I.os,M,⟨λb o e n y a=>?_,λb o e n y a=>?_,λb o e n a=>?_,λb o e a=>?_,λb xs e=>tups b xs (I.base.tups b xs e),λb o xs e=>frzs b o xs (I.base.frzs b o xs e),λb ps e=>?_⟩,?_,λx c e=>?_,?_,λx c e=>?_,λp F=>?_,hok,I.len⟩
 ·exact keep b o (B b o e) y (t b o e a) (I.base.keep b o e n y a) (I.base.free b o e n a)
 ·obtain⟨sl,w⟩:=I.base.slot b o e n y a;obtain⟨D,C⟩:=slot b _ (B b o e) y (t b o e a) w (I.base.free b o e n a);exact⟨D,C⟩
 ·obtain⟨o',w⟩:=I.base.there b o e a;exact free b o' (t b o e a) w (I.base.free b o e n a)
 ·obtain⟨o',w⟩:=I.base.there b o e a;exact there b o' (t b o e a) w
 ·obtain⟨J,w⟩:=I.base.tbls b ps e;obtain⟨m2,C⟩:=tbls b _ w;exact⟨J++m2,by rw[C,Array.append_assoc]⟩
 ·obtain⟨m,K,L⟩:=I.loc;refine⟨m,ns m K,λi x v w C N=>?_⟩;obtain⟨u,r,l⟩:=L i x v w C N;refine⟨u,r,?_⟩;rcases l with l|⟨k,c,e,z⟩
  ·exact .inl l
  ·exact .inr ⟨k,c,e,j x c e _ z⟩
 ·obtain⟨v,z⟩:=I.cell x c e;exact⟨v,j x c e v z⟩
 ·obtain⟨m,⟨o,_,_,A,_⟩,_⟩:=I.loc;exact free _ o (λz=>(g _ z).2.1 rfl) A I.free
 ·obtain⟨v,o,A,hd⟩:=I.cell x c e;exact free c o (λz=>(g c z).2.2.1 x c e rfl) A (I.freeC x c e)
 ·obtain⟨e,n,ne,E,d⟩:=I.pin p F;have f:p.1∉ch:=λz=>(g p.1 z).2.2.2 p F rfl;exact⟨keep p.1 p.2 ne E f e n,free p.1 p.2 f e n,ne,E,d⟩
theorem Inv.un(I:Inv X pins σ H s)(u:Un X.fs [] H H' s.heap h')(hok:HOk X.prog X.w H' h'):Inv X pins σ H' { s with heap:=h',toks:=t' }:=by
 obtain⟨m,⟨o,es,ep,g,r⟩,_⟩:=id I.loc;obtain⟨sl,j⟩:=u.any g I.free (by simp)
 exact I.step (g':=s.gens) (d':=s.drawn) (ch:=[]) (λ_ z=>nomatch z) (λb o _ c _ e n=>u.keep b o e n c (by simp)) (λb o _ c _ e n=>u.slot b o e n c (by simp)) (λb o _ e n=>u.free b o e n (by simp)) (λb o _ e=>u.there b o e (by simp)) u.tups u.frzs u.tbls (λk i=>by
  obtain⟨o',d,f,a,r'⟩:=i;rw[g] at a;cases a;exact⟨_,d,f,j,r'⟩) hok I.bare
theorem Inv.call{g':Array GenState}{d':Drawn}(I:Inv X pins σ H s)(u:Un (frs X.stack) ch H H' s.heap h')(hok:HOk X.prog X.w H' h')(q:AllBare g')
  (f:∀b∈ch,(b∈X.ex∨X.s₀.heap.objs.size<=b)/\b≠X.env.locals/\(∀x c,X.env.cells.lookup x=some c->c≠b)/\∀p∈X.pn++pins,p.1≠b) :
  Inv X pins σ H' { s with heap:=h',gens:=g',drawn:=d',toks:=t' }:=by
 obtain⟨m,⟨o,es,ep,k,r⟩,_⟩:=id I.loc;obtain⟨sl,g⟩:=u.any k I.free λz=>(f _ z).2.1 rfl
 exact I.step (ch:=ch) f (λb o g t a e n=>u.keep b o e n (λz=>(abI.mp (I.stkSub b z)).elim g t) a) (λb o _ _ a e n=>u.any e n a) (λb o a e n=>u.free b o e n a) (λb o a e=>u.there b o e a) u.tups u.frzs u.tbls (λv l=>by
  obtain⟨o',i,j,d,r'⟩:=l;rw[k] at d;cases d;exact⟨_,i,j,g,r'⟩) hok q
theorem Inv.turned(I:Inv X pins σ H s)(k:∀b o,b≠it->s.heap.get? b=some o->h'.get? b=some o)(i:H it=none)(f:it≠X.env.locals)
  (h1:it∈X.ex∨X.s₀.heap.objs.size<=it) (h2:∀x c,X.env.cells.lookup x=some c->c≠it) (t:∀p∈X.pn++pins,p.1≠it):Inv X pins σ H { s with heap:=h',toks:=t' }:=by
 have d:∀b u,H b=some u->b≠it:=λb u e z=>by rw[z,i] at e;cases e
 refine I.step (g':=s.gens) (d':=s.drawn) (ch:=[it]) (λb l=>?_) (λb o _ _ a e _=>k b o (λz=>a (by simp[z])) e) (λb o _ _ a e _=>⟨o.slots,k b o (λz=>a (by simp[z])) e⟩) (λ_ _ _ _ n=>n)
  (λb o a e=>⟨o,k b o (λz=>a (by simp[z])) e⟩) (λ_ _ e=>e) (λ_ _ _ e=>e) (λb ps e=>⟨#[],by rw[e];simp⟩) (λm j=>?_) (λb u e=>?_) I.bare
 ·have e:b=it:=(by exists l);subst e;exact⟨h1,f,h2,t⟩
 ·obtain⟨o,es,ep,g,r⟩:=j;exact⟨o,es,ep,k _ o (Ne.symm f) g,r⟩
 ·refine(I.hok b u e).stay (λc v a q=>k c v ?_ q) (λ_ q=>q) λ_ _ q=>q;rcases a with z|z
  ·rw[z];exact d b u e
  ·exact d c _ z
theorem Inv.tok(I:Inv X pins σ H s)(t:Nat):Inv X pins σ H { s with toks:=t }:=I.un (h':=s.heap) (t':=t) Un.refl I.hok
theorem Inv.kept(I:Inv X pins σ H s)(k:∀b u,s.heap.get? b=some u->h'.get? b=some u):Inv X pins σ H { s with heap:=h',toks:=t' }:=I.un (Un.kept k) (I.hok.kept k)
theorem Inv.laid(I:Inv X pins σ H s)(k:∀b u,s.heap.get? b=some u->h'.get? b=some u)(c:s.heap.objs.size<=a)(new:ObjOk X.prog X.w (upd H a o) h' a o) :
  Inv X pins σ (upd H a o) { s with heap:=h',toks:=t' }:=I.un (Un.laid k c (I.hok.fresh c)) (I.hok.laid k c new)
theorem Inv.write{x e:Addr}(I:Inv X pins σ H s)(c:Mut (H x))(d:e=x∨H e=some (.own x))(k:∀b u,b≠e->s.heap.get? b=some u->h'.get? b=some u)(a:∃u,h'.get? e=some u)
  (new:ObjOk X.prog X.w (upd H x o) h' x o):Inv X pins σ (upd H x o) { s with heap:=h',toks:=t' }:=I.un (Un.write c d k a) (I.hok.write c d k a new)
theorem Inv.pins_of{a:List (Addr×Obj)}(I:Inv X pins σ H s)(h:∀p∈a,s.heap.get? p.1=some p.2/\H p.1=none/\p.1≠X.env.locals/\p.1∉X.fs/\∀v,p.2.data≠.cell v):Inv X a σ H s:=
 ⟨I.ok,I.os,I.bare,I.base,I.loc,I.cell,I.free,I.freeC,λp b=>(abE.mp b).elim (λz=>I.pin p (aav _ z)) (h p),I.hok,I.len⟩
theorem nE(c:N.Nodup)(a:N[i]?=some x)(b:N[j]?=some x):i=j:=by
 obtain⟨h1,e⟩:=List.getElem?_eq_some_iff.mp a;obtain⟨h2,d⟩:=List.getElem?_eq_some_iff.mp b;exact(List.getElem_inj c).mp (e.trans d.symm)
theorem kX{M:Model}{Q:Unit->Shared->Prop}(I:Inv X pins σ H s)(hN:X.N.Nodup)(hi:X.N[i]?=some x)(hx:Loc X.env.scope x)(r:RelV v u)
  (h:∀s',Inv X pins (σ.set i (some v)) H s'->(∃a,Heap.SameBut a s.heap s'.heap/\(a=X.env.locals∨X.env.cells.lookup x=some a))->Q () s') (hf:autoParam (X.fn x=true∨X.env.scope.names.lookup x=some .local) L2.aF._auto_1):wpAny M A (storeName X.env x u) Q E s:=by
 obtain⟨m,Y,hl⟩:=id I.loc;have L:(X.env.scope.kind==.class || (X.env.scope.kind==.module&&X.env.locals != X.env.globals))=false:=by rw[I.ok.kind];rfl
 have C:i<σ.length:=by rw[I.len];exact(List.getElem?_eq_some_iff.mp hi).1
 have cne:=I.cne
 have f:∀{a:Addr} {h':Heap},(∃o,s.heap.get? a=some o/\H a=none)->Heap.SameBut a s.heap h'->HOk X.prog X.w H h':=fun {a h'} ha hs b ob e=>by
  obtain⟨_,_,t⟩:=ha;refine(I.hok b ob e).stay (λc P l q=>(hs.2 c ?_).trans q) (λ_ q=>q) λ_ _ q=>q;rintro rfl;rcases l with rfl|l
  ·rw[t] at e;cases e
  ·rw[t] at l;cases l
 rcases hx with B|B
 ·refine wpAny_storeName_local B Y (λh' W hs=>?_) L;obtain⟨oL,_,_,V,_⟩:=id Y;refine h _ ⟨I.ok,I.os,I.bare,⟨λb o e n G hx=>?_,λb o e n G hx=>?_,I.base.free,λb o e hx=>?_,I.base.tups,I.base.frzs,I.base.tbls⟩,⟨_,W,λj y R g w Z=>?_⟩,λy c e=>?_,I.free,I.freeC,λp U=>?_,f ⟨oL,V,I.free⟩ hs,by simpa using I.len⟩ ⟨_,hs,.inl rfl⟩
  ·exact(hs.2 b (aak (aao (aag e) I.ok.above))).trans (I.base.keep b o e n G hx)
  ·obtain⟨sl,g⟩:=I.base.slot b o e n G hx;exact⟨sl,(hs.2 b (aak (aao (aag e) I.ok.above))).trans g⟩
  ·obtain⟨o',g⟩:=I.base.there b o e hx;exact⟨o',(hs.2 b (aak (aao (aag e) I.ok.above))).trans g⟩
  ·by_cases D:j=i
   ·subst D;rw[hi] at g;cases g;rw[List.getElem?_set_self C] at w;cases w;exact⟨u,r,.inl ⟨B,by simp⟩⟩
   ·rw[List.getElem?_set_ne (Ne.symm D)] at w;obtain⟨S,r',q⟩:=hl j y R g w Z;refine⟨S,r',?_⟩;rcases q with ⟨k,e⟩|⟨k,c,e,z⟩
    ·refine .inl ⟨k,?_⟩;have:y≠x:=λe=>D (nE hN g (e ▸ hi));simp[this,e]
    ·exact .inr ⟨k,c,e,z.sameBut hs (cne y c e)⟩
  ·obtain⟨P,z⟩:=I.cell y c e;exact⟨P,z.sameBut hs (cne y c e)⟩
  ·obtain⟨e,n,ne,T,d⟩:=I.pin p U;exact⟨(hs.2 p.1 ne).trans e,n,ne,T,d⟩
 ·have F:X.fn x=true:=by
   rcases hf with z|z
   ·exact z
   ·rw[z] at B;cases B
  obtain⟨c,l⟩:=I.ok.has x (.inl B);obtain⟨P,z⟩:=I.cell x c l;refine wpAny_storeName_cell I.ok.kind B l z (λh' O hs=>?_);obtain⟨oc,K,J⟩:=id z;refine h { s with heap:=h' } ⟨I.ok,I.os,I.bare,⟨λb o e n G hx=>?_,λb o e n G hx=>?_,I.base.free,λb o e hx=>?_,I.base.tups,I.base.frzs,I.base.tbls⟩,⟨m,Y.sameBut hs (Ne.symm (cne x c l)),λj y R g w Z=>?_⟩,λy c' e=>?_,I.free,I.freeC,λp U=>?_,f ⟨oc,K,I.freeC x c l⟩ hs,by simpa using I.len⟩ ⟨c,hs,.inr l⟩
  ·exact(hs.2 b (aak (aao (aag e) (I.ok.cab x c F l)))).trans (I.base.keep b o e n G hx)
  ·obtain⟨sl,g⟩:=I.base.slot b o e n G hx;exact⟨sl,(hs.2 b (aak (aao (aag e) (I.ok.cab x c F l)))).trans g⟩
  ·obtain⟨o',g⟩:=I.base.there b o e hx;exact⟨o',(hs.2 b (aak (aao (aag e) (I.ok.cab x c F l)))).trans g⟩
  ·by_cases D:j=i
   ·subst D;rw[hi] at g;cases g;rw[List.getElem?_set_self C] at w;cases w;exact⟨u,r,.inr ⟨.inl B,c,l,O⟩⟩
   ·rw[List.getElem?_set_ne (Ne.symm D)] at w;obtain⟨S,r',q⟩:=hl j y R g w Z;refine⟨S,r',?_⟩;rcases q with q|⟨k,c',e,z'⟩
    ·exact .inl q
    ·refine .inr ⟨k,c',e,z'.sameBut hs ?_⟩;rintro rfl;exact D (nE hN g (I.ok.inj _ _ _ e l ▸ hi))
  ·by_cases N:c'=c
   ·subst N;exact⟨_,O⟩
   ·obtain⟨w2,z2⟩:=I.cell y c' e;exact⟨w2,z2.sameBut hs N⟩
  ·obtain⟨e,n,ne,T,d⟩:=I.pin p U;refine⟨(hs.2 p.1 ?_).trans e,n,ne,T,d⟩;intro q;rw[q,K] at e;have q':oc=p.2:=aaj e;exact d P (by rw[← q'];exact J)
theorem nF{M:Model}{Q:Unit->Shared->Prop}(I:Inv X pins σ H s)(b:X.N.Nodup)(hi:X.N[i]?=some x)(hx:Loc X.env.scope x)(r:RelV v u)
  (h:∀s',Inv X pins (σ.set i (some v)) H s'->Q () s') (a:autoParam (X.fn x=true∨X.env.scope.names.lookup x=some .local) L2.aF._auto_1):wpAny M A (storeName X.env x u) Q E s:=
 kX I b hi hx r (λs' c _=>h s' c) a
theorem Inv.call'(I:Inv X pins σ H s)(d:s'.os=s.os)(u:Un (frs X.stack) ch H H' s.heap s'.heap)(hok:HOk X.prog X.w H' s'.heap)(f:AllBare s'.gens)
  (a:∀b∈ch,(b∈X.ex∨X.s₀.heap.objs.size<=b)/\b≠X.env.locals/\(∀x c,X.env.cells.lookup x=some c->c≠b)/\∀p∈X.pn++pins,p.1≠b):Inv X pins σ H' s':=by
 obtain⟨h',g',g,t',o'⟩:=s';have e:o'=s.os:=d;subst e;exact I.call (g':=g') (t':=t') (d':=g) u hok f a
end
abbrev XK:=Value->Option Addr->Hp->Prop
abbrev St:=List (Option V)
variable{σ:St}
abbrev VK:=V->Hp->Prop
abbrev TE:=St->Hp->VK->Prop
variable{ta tb te tl:TE}
abbrev TT:=St->Hp->(Bool->Hp->Prop)->Prop
variable{tc:TT}
abbrev TA:=St->Hp->(List V->Hp->Prop)->Prop
variable{t:TA}
structure Ends where
 nx:St->Hp->Prop
 rt:VK
 bk:St->Hp->Prop:=λ_ _=>False
 ct:St->Hp->Prop:=λ_ _=>False
abbrev TS:=Ends->St->Hp->Prop
def EP(X:Cx)(pins:List (Addr×Obj))(σ:St)(Q:VK)(u:Value)(s':Shared):Prop:=∃v H',Inv X pins σ H' s'/\RelV v u/\Q v H'
def TP(X:Cx)(pins:List (Addr×Obj))(σ:St)(Q:Bool->Hp->Prop)(b:Bool)(s':Shared):Prop:=∃H',Inv X pins σ H' s'/\Q b H'
def AP(X:Cx)(pins:List (Addr×Obj))(σ:St)(Q:List V->Hp->Prop)(us:List Value)(s':Shared):Prop:=∃vs H',Inv X pins σ H' s'/\Vals vs us/\Q vs H'
def SP(X:Cx)(pins:List (Addr×Obj))(D:Ends)(f:Flow)(s':Shared):Prop:=
 match f with
 |.next=>∃a H',Inv X pins a H' s'/\D.nx a H'
 |.brk=>∃a H',Inv X pins a H' s'/\D.bk a H'
 |.cont=>∃a H',Inv X pins a H' s'/\D.ct a H'
 |.ret u=>∃v a H',Inv X pins a H' s'/\RelV v u/\D.rt v H'
def PE(X:Cx)(e:Expr)(t:TE):Prop:=
 ∀(pins:List (Addr×Obj)) (s:Shared) (σ:St) (H:Hp) (Q:VK),Inv X pins σ H s->t σ H Q->wpAny (model X.prog X.w) X.A (eval e X.env) (EP X pins σ Q) X.xe s
def PT(X:Cx)(e:Expr)(t:TT):Prop:=
 ∀(pins:List (Addr×Obj)) (s:Shared) (σ:St) (H:Hp) (Q:Bool->Hp->Prop),Inv X pins σ H s->t σ H Q->wpAny (model X.prog X.w) X.A (isTrue e X.env (eval e X.env)) (TP X pins σ Q) X.xe s
def PW(X:Cx)(e:Expr)(t:TT):Prop:=
 ∀(whole:Sem Value) (pins:List (Addr×Obj)) (s:Shared) (σ:St) (H:Hp) (Q:Bool->Hp->Prop),Inv X pins σ H s->t σ H Q->wpAny (model X.prog X.w) X.A (isTrue e X.env whole) (TP X pins σ Q) X.xe s
theorem PW.pt{t:TT}(h:PW X e t):PT X e t:=h _
def PA(X:Cx)(es:List Expr)(t:TA):Prop:=
 ∀(pos:Pos) (pins:List (Addr×Obj)) (s:Shared) (σ:St) (H:Hp) (Q:List V->Hp->Prop),Inv X pins σ H s->t σ H Q->wpAny (model X.prog X.w) X.A (spliced (backTo pos (starEach es X.env))) (AP X pins σ Q) X.xe s
def PS(X:Cx)(st:Stmt)(t:TS):Prop:=
 ∀(pins:List (Addr×Obj)) (s:Shared) (σ:St) (H:Hp) (D:Ends),Inv X pins σ H s->t D σ H->wpAny (model X.prog X.w) X.A (exec st X.env) (SP X pins D) X.xe s
def PSs(X:Cx)(st:List Stmt)(t:TS):Prop:=
 ∀(pins:List (Addr×Obj)) (s:Shared) (σ:St) (H:Hp) (D:Ends),Inv X pins σ H s->t D σ H->wpAny (model X.prog X.w) X.A (execs st X.env) (SP X pins D) X.xe s
theorem thn{t:Sem α}{Q Q':α->Shared->Prop}{M:Model}(h:wpAny M A t Q E s)(b:∀a s,Q a s->Q' a s):wpAny M A t Q' E s:=abp h b λ_ _ x=>x
section
theorem bin{a b:Expr}(o:PE X a ta)(n:PE X b tb)(I:Inv X pins σ H s)(h:ta σ H λx H1=>tb σ H1 λy H2=>R x y H2)
   {Q:α->Shared->Prop} {f:Value->Value->Sem α}
  (m:∀v u e x y H2,Inv X pins σ H2 e->RelV x v->RelV y u->R x y H2->wpAny (model X.prog X.w) X.A (f v u) Q X.xe e) :
  wpAny (model X.prog X.w) X.A (eval a X.env) (λv d=>wpAny (model X.prog X.w) X.A (eval b X.env) (λu c=>wpAny (model X.prog X.w) X.A (f v u) Q X.xe c) X.xe d) X.xe s:=by
 refine thn (o pins s σ H _ I h) λv g z=>?_;obtain⟨x,H1,q,j,l⟩:=z;refine thn (n pins g σ H1 _ q l) λu e t=>?_;obtain⟨y,H2,p,i,k⟩:=t;exact m v u e x y H2 p j i k
def ei(i:Nat):TE:=λσ H Q=>∃v,σ[i]?=some (some v)/\Q v H
def tC(v:V):TE:=λ_ H Q=>Q v H
theorem Gi(o:X.N[i]?=some x)(g:Vis X.env.scope x)(hd:autoParam ((x==("__debug__" : Str))=false) L2.aD._auto_1)(d:autoParam ((x==("__classdict__" : Str))=false) L2.aD._auto_1):PE X (.Name x pos) (ei i):=by
 intro pins s σ H Q I h;obtain⟨v,e,h⟩:=h;obtain⟨m,j,n⟩:=I.loc;obtain⟨u,r,l⟩:=n i x v o e g;have fin:EP X pins σ Q u s:=⟨v,H,I,r,h⟩;rcases l with ⟨b,k⟩|⟨b,c,f,a⟩
 ·exact wpAny_Name (wpAny_loadName_local I.ok.kind b j k fin) hd
 ·rcases b with b|b
  ·exact wpAny_Name (wpAny_loadName_cell I.ok.kind b f a fin) hd
  ·exact wpAny_Name (wpAny_loadName_free I.ok.kind b f a fin d) hd
theorem Gj{i j pos}:PE X (.Constant (.int i) j pos) (tC (.int i)):=λ_ _ _ H _ I h=>wpAny_Constant_int ⟨.int i,H,I.tok _,⟨_,rfl⟩,h⟩
theorem Ld{b j pos}:PE X (.Constant (.bool b) j pos) (tC (.bl b)):=λ_ _ _ H _ I h=>Constant_bool ⟨.bl b,H,I,rfl,h⟩
theorem Gk{j pos}:PE X (.Constant .none j pos) (tC .non):=λ_ _ _ H _ I h=>Constant_none ⟨.non,H,I,rfl,h⟩
theorem Gm{x j pos}:PE X (.Constant (.str x) j pos) (tC (.str x)):=λ_ _ _ H _ I h=>Calls.Constant_str ⟨.str x,H,I.tok _,⟨_,rfl⟩,h⟩
def Gl(X:Cx)(x:Str):Prop:=X.env.kindOf x=some .globalImplicit
theorem mJ(I:Inv X pins σ H s)(b:Gl X x)(a:X.mg x=some u)(h:Q u s)
  (hd:autoParam ((x==("__debug__" : Str))=false) L2.aD._auto_1):wpAny (model X.prog X.w) X.A (eval (.Name x pos) X.env) Q E s:=
 Calls.Name_function_global I.ok.kind b (Calls.loadGlobal_global (by rw[I.ok.glob];exact I.mod.glob.keeps I.bk) a h) hd
theorem kY(I:Inv X pins σ H s)(d:Gl X x)(c:X.mg x=none)(a:bootBuiltins x=some u)(h:Q u s)
  (b:autoParam (x ≠ "__name__") L2.aD._auto_1) (hd:autoParam ((x==("__debug__" : Str))=false) L2.aD._auto_1):wpAny (model X.prog X.w) X.A (eval (.Name x pos) X.env) Q E s:=by
 obtain⟨e,h1,h2⟩:=I.mod.blt;exact Calls.Name_function_global I.ok.kind d (Calls.loadGlobal_builtin (by rw[I.ok.glob];exact I.mod.glob.keeps I.bk) c (by rw[I.ok.blt];exact h1.keeps I.bk) ((h2 x b).trans a) h) hd
theorem Bp(b:Gl X x)(a:X.mg x=some u)(r:RelV v u)(hd:autoParam ((x==("__debug__" : Str))=false) L2.aD._auto_1):PE X (.Name x pos) (tC v):=
 λ_ _ _ H _ I h=>mJ I b a ⟨v,H,I,r,h⟩ hd
theorem Bq(d:Gl X x)(c:X.mg x=none)(a:bootBuiltins x=some u)(r:RelV v u)(b:autoParam (x ≠ "__name__") L2.aD._auto_1)(hd:autoParam ((x==("__debug__" : Str))=false) L2.aD._auto_1):PE X (.Name x pos) (tC v):=
 λ_ _ _ H _ I h=>kY I d c a ⟨v,H,I,r,h⟩ b hd
variable {a b:Expr}  
def PC(X:Cx)(op:CmpOp)(a b:Expr)(t:TE):Prop:=
 ∀(pins:List (Addr×Obj)) (s:Shared) (σ:St) (H:Hp) (Q:VK),Inv X pins σ H s->t σ H Q ->
  wpAny (model X.prog X.w) X.A (eval a X.env) (λv d=>wpAny (model X.prog X.w) X.A (eval b X.env) (λu c=>wpAny (model X.prog X.w) X.A (compareOp op v u) (EP X pins σ Q) X.xe c) X.xe d) X.xe s
def tB(t:TE):TT:=λσ H Q=>t σ H λx H1=>∃c,x=.bl c/\Q c H1
theorem MT{t:TE}(h:PC X op a b t)(h1:behindInMarks op b=false:=by first|exact e _ (by decide) (by decide)|rfl):PT X (.Compare a [op] [b] pos) (tB t):=by
 intro pins s σ H Q I i;refine wpAny_isTrue_Compare1 (thn (h pins s σ H _ I i) λv m h1=>thn h1 λu l h2=>thn h2 λc k y=>?_) h1;obtain⟨x,H1,j,f,g⟩:=y;obtain⟨d,rfl,q⟩:=g;cases f;exact aaJ ⟨H1,j,q⟩
theorem Gn{t:TE}(h:PE X e t)(f:autoParam (∀whole,isTrue e X.env whole=(do let v ← whole;standAt e.pos;holding [v] (truthy v))) L2.aI._auto_1):PT X e (tB t):=by
 intro pins s σ H Q I c;refine isTrue_plain (thn (h pins s σ H _ I c) λv i y=>?_) (f _);obtain⟨x,H1,g,a,b⟩:=y;obtain⟨d,rfl,q⟩:=b;cases a;exact aaJ ⟨H1,g,q⟩
variable {tA tB':TT} {rest:List Expr}
def Le(t u:TT):TT:=λσ H Q=>t σ H λc H1=>if c=true then u σ H1 Q else Q false H1
def tOr(t u:TT):TT:=λσ H Q=>t σ H λc H1=>if c=true then Q true H1 else u σ H1 Q
def Lf(t:TT):TT:=λσ H Q=>t σ H λc H1=>Q (!c) H1
theorem Br(b:PT X a tA):PW X (.BoolOp .And [a] pos) tA:=by
 intro d pins s σ H Q I h;refine isTrue_and (thn (b pins s σ H Q I h) λc f e=>?_)
 cases c with
 |true=>exact isTrue_and_nil e
 |false=>exact e
theorem Go(b:PT X a tA):PW X (.BoolOp .Or [a] pos) tA:=by
 intro d pins s σ H Q I h;refine isTrue_or (thn (b pins s σ H Q I h) λc f e=>?_)
 cases c with
 |false=>exact isTrue_or_nil e
 |true=>exact e
theorem Gp(j:PT X a tA)(i:PW X (.BoolOp .And (b::rest) pos) tB'):PW X (.BoolOp .And (a::b::rest) pos) (Le tA tB'):=by
 intro f pins s σ H Q I h;refine isTrue_and (thn (j pins s σ H _ I h) λc g y=>?_);obtain⟨H1,e,d⟩:=y
 cases c with
 |true=>exact i f pins g σ H1 Q e d
 |false=>exact⟨H1,e,d⟩
theorem Lg(j:PT X a tA)(i:PW X (.BoolOp .Or (b::rest) pos) tB'):PW X (.BoolOp .Or (a::b::rest) pos) (tOr tA tB'):=by
 intro f pins s σ H Q I h;refine isTrue_or (thn (j pins s σ H _ I h) λc g y=>?_);obtain⟨H1,e,d⟩:=y
 cases c with
 |true=>exact⟨H1,e,d⟩
 |false=>exact i f pins g σ H1 Q e d
theorem Gq(b:PT X a tA):PT X (.UnaryOp .Not a pos) (Lf tA):=by
 intro pins s σ H Q I h;exact isTrue_not (b pins s σ H (λc H1=>Q (!c) H1) I h)
def Bs(ta tb:TE):TE:=λσ H Q=>ta σ H λx H1=>∃c,x=.bl c/\if c=true then tb σ H1 Q else Q (.bl false) H1
def Bt(ta:TE):TE:=λσ H Q=>ta σ H λx H1=>∃c,x=.bl c/\Q (.bl (!c)) H1
theorem Gr{op}{t:TE}(h:PE X a t):PE X (.BoolOp op [a] pos) t:=λpins s σ H Q I b=>BoolOp_one (h pins s σ H Q I b)
theorem Gs(j:PE X a ta)(i:PE X (.BoolOp .And (b::rest) pos) tb):PE X (.BoolOp .And (a::b::rest) pos) (Bs ta tb):=by
 intro pins s σ H Q I h;refine BoolOp_and (thn (j pins s σ H _ I h) λv f y=>?_);obtain⟨x,H1,e,g,d⟩:=y;obtain⟨c,rfl,d⟩:=d;cases g;refine aaJ ?_
 cases c with
 |true=>exact i pins f σ H1 Q e d
 |false=>exact⟨.bl false,H1,e,rfl,d⟩
theorem Gu(e:PE X a ta):PE X (.UnaryOp .Not a pos) (Bt ta):=by
 intro pins s σ H Q I h;refine UnaryOp_ (thn (e pins s σ H _ I h) λv g y=>?_);obtain⟨x,H1,f,d,b⟩:=y;obtain⟨c,rfl,b⟩:=b;cases d;exact not_of (aaJ ⟨.bl (!c),H1,f,rfl,b⟩)
def tIf(t:TT)(ta tb:TE):TE:=λσ H Q=>t σ H λc H1=>if c=true then ta σ H1 Q else tb σ H1 Q
theorem wc(i:PT X c tA)(k:PE X a ta)(j:PE X b tb):PE X (.IfExp c a b pos) (tIf tA ta tb):=by
 intro pins s σ H Q I h;refine wpAny_IfExp (thn (i pins s σ H _ I h) λd e y=>?_);obtain⟨H1,g,f⟩:=y
 cases d with
 |true=>exact k pins e σ H1 Q g f
 |false=>exact j pins e σ H1 Q g f
end
def SqL(K:Frag)(H:Hp)(a:Addr)(xs:List V):Prop:=
 Rd H a (.lst xs) ∨
  ∃(o:Obj) (its:Array Value) (n:Nat),K.lookup a=some o/\o.cls=.type "list" /\ o.dict=none/\o.data=.seq its n/\its.size<=sizeLine/\Vals xs its.toList
def SqT(K:Frag)(H:Hp)(a:Addr)(xs:List V):Prop:=
 Rd H a (.tup xs) ∨
  ∃(o:Obj) (its:Array Value) (n:Nat),K.lookup a=some o/\o.cls=.type "tuple" /\ o.data=.seq its n/\its.size<=sizeLine/\Vals xs its.toList
def absV:Value->Option V
 |.none=>some .non
 |.bool b=>some (.bl b)
 |.int i _=>some (.int i)
 |.str x _=>some (.str x)
 |.bytes b _=>some (.byt b)
 |.float b _=>some (.flt b)
 |.ref a=>some (.ref a)
 |.type n=>some (.ty n)
 |_=>none
theorem RelV.abs{x:V}(r:RelV x u):absV u=some x:=by
 cases x with
 |non=>cases r;rfl
 |bl _=>cases r;rfl
 |int _=>obtain⟨t,rfl⟩:=r;rfl
 |str _=>obtain⟨t,rfl⟩:=r;rfl
 |byt _=>obtain⟨t,rfl⟩:=r;rfl
 |flt _=>obtain⟨t,rfl⟩:=r;rfl
 |ref _=>cases r;rfl
 |ty _=>cases r;rfl
theorem RelV.inj{x y:V}{u:Value}(r:RelV x u)(q:RelV y u):x=y:=aaj (r.abs.symm.trans q.abs)
theorem Vals.inj{xs ys:List V}{us:List Value}(h:Vals xs us)(h':Vals ys us):xs=ys:=by
 induction h generalizing ys with
 |nil=>cases h';rfl
 |cons r t a=>cases h' with|cons r' t'=>rw[r.inj r',a t']
section
variable       {ys:List V}
theorem SqL.of{K:Frag}(h:H a=some (.lst xs)):SqL K H a xs:=.inl (.inl h)
theorem SqT.of{K:Frag}(h:H a=some (.tup xs)):SqT K H a xs:=.inl (.inl h)
theorem Inv.list(I:Inv X pins σ H s)(h:SqL X.K H a xs):∃its:List Value,Vals xs its/\PlainL s.heap a its.toArray/\xs.length<=sizeLine:=by
 rcases h with h|⟨o,its,n,b,c,hd,hs,d,r⟩
 ·obtain⟨z,its,n,r,e⟩:=h.ok I.hok;exact⟨its,r,⟨_,n,e,rfl,rfl,rfl⟩,z⟩
 ·refine⟨its.toList,r,⟨o,n,I.kIn a o b,c,hd,(by exists hs)⟩,?_⟩;have e:=r.length;simp only[Array.length_toList] at e;nofun
theorem Inv.tuple(I:Inv X pins σ H s)(h:SqT X.K H a xs):∃its:List Value,Vals xs its/\IsTup s.heap a its.toArray/\xs.length<=sizeLine:=by
 rcases h with h|⟨o,its,n,b,c,hs,d,r⟩
 ·obtain⟨z,its,r,p⟩:=h.ok I.hok;exact⟨its,r,p,z⟩
 ·refine⟨its.toList,r,⟨o,I.kIn a o b,c,n,(by exists hs)⟩,?_⟩;have e:=r.length;simp only[Array.length_toList] at e;nofun
theorem Inv.list_inj(I:Inv X pins σ H s)(h:SqL X.K H a xs)(h':SqL X.K H a ys):xs=ys:=by
 obtain⟨its,r,⟨o,n,e,_,_,d⟩,_⟩:=I.list h;obtain⟨its',r',⟨o',g,b,_,_,c⟩,_⟩:=I.list h';rw[e] at b;cases b;rw[d] at c;injection c with f _
 have:its=its':=by simpa using congrArg Array.toList f
 subst this;exact r.inj r'
theorem Inv.tuple_inj(I:Inv X pins σ H s)(h:SqT X.K H a xs)(h':SqT X.K H a ys):xs=ys:=by
 obtain⟨its,r,⟨o,e,_,n,d⟩,_⟩:=I.tuple h;obtain⟨its',r',⟨o',b,_,g,c⟩,_⟩:=I.tuple h';rw[e] at b;cases b;rw[d] at c;injection c with f _
 have:its=its':=by simpa using congrArg Array.toList f
 subst this;exact r.inj r'
end
abbrev Cx.wish(X:Cx)(E:Value->Shared->Prop):Cx:={ X with xe:=E }
abbrev Cx.nox(X:Cx):Cx:=X.wish λ_ _=>False
theorem Cx.Ok.wish(ok:X.Ok)(E:Value->Shared->Prop):(X.wish E).Ok:=
 ⟨ok.mod,ok.kind,ok.glob,ok.blt,ok.above,ok.inj,ok.has,ok.cab,ok.hd,ok.frames,ok.stk,ok.exf,ok.bs,ok.bsz,ok.noex,ok.exfs,ok.funs,ok.frf⟩
theorem Cx.Ok.unwish(ok:(X.wish E).Ok):X.Ok:=
 ⟨ok.mod,ok.kind,ok.glob,ok.blt,ok.above,ok.inj,ok.has,ok.cab,ok.hd,ok.frames,ok.stk,ok.exf,ok.bs,ok.bsz,ok.noex,ok.exfs,ok.funs,ok.frf⟩
theorem Inv.wish(I:Inv X pins σ H s)(E:Value->Shared->Prop):Inv (X.wish E) pins σ H s:=⟨I.ok.wish E,I.os,I.bare,I.base,I.loc,I.cell,I.free,I.freeC,I.pin,I.hok,I.len⟩
theorem Inv.unwish(I:Inv (X.wish E) pins σ H s):Inv X pins σ H s:=⟨I.ok.unwish,I.os,I.bare,I.base,I.loc,I.cell,I.free,I.freeC,I.pin,I.hok,I.len⟩
theorem SP.unwish{D:Ends}{f:Flow}(h:SP (X.wish E) pins D f s'):SP X pins D f s':=by
 cases f with
 |next=>obtain⟨a,H',I,q⟩:=h;exact⟨a,H',I.unwish,q⟩
 |brk=>obtain⟨a,H',I,q⟩:=h;exact⟨a,H',I.unwish,q⟩
 |cont=>obtain⟨a,H',I,q⟩:=h;exact⟨a,H',I.unwish,q⟩
 |ret u=>obtain⟨v,a,H',I,r,q⟩:=h;exact⟨v,a,H',I.unwish,r,q⟩
theorem PSs.nox{st:List Stmt}{t:TS}(h:PSs X.nox st t):PSs X st t:=λpins s σ H D I a=>
 abp (h pins s σ H D (I.wish _) a) (λ_ _ q=>q.unwish) λ_ _ z=>False.elim z
section
variable  {st:Stmt} {rest:List Stmt} {t u:TS}   
def Bu:TS:=λD σ H=>D.nx σ H
def Li(t u:TS):TS:=λD σ H=>t { D with nx:=u D } σ H
theorem Bv:PSs X [] Bu:=λ_ _ σ H _ I h=>wpAny_execs_nil ⟨σ,H,I,h⟩
theorem we(h1:PS X st t)(h2:PSs X rest u):PSs X (st::rest) (Li t u):=by
 intro pins s σ H D I h;refine wpAny_execs_cons (thn (h1 pins s σ H { D with nx:=u D } I h) λf b q=>?_)
 cases f with
 | next=>
  obtain⟨a,H',c,q⟩:=q;exact h2 pins b a H' D c q
 |ret v=>exact q
 |brk=>exact q
 |cont=>exact q
theorem Bw(h1:PS X st t):PSs X [st] t:=by
 intro pins s σ H D I h;refine wpAny_execs_cons (thn (h1 pins s σ H D I h) λf a q=>?_)
 cases f with
 |next=>exact wpAny_execs_nil q
 |ret v=>exact q
 |brk=>exact q
 |cont=>exact q
def rh:TS:=λD σ H=>D.bk σ H
def Bx:TS:=λD σ H=>D.ct σ H
theorem wf:PS X (.Break pos) rh:=λ_ _ σ H _ I h=>wpAny_Break ⟨σ,H,I,h⟩
theorem mK:PS X (.Continue pos) Bx:=λ_ _ σ H _ I h=>wpAny_Continue ⟨σ,H,I,h⟩
theorem Inv.quiet(I:Inv X pins σ H s):interactive X.env=false:=by simp[interactive,I.ok.kind]
def wg(te:TE):TS:=λD σ H=>te σ H λ_ H1=>D.nx σ H1
theorem By(b:PE X e te)(hs:autoParam (swapsWith e none pos.line X.env=pure false) L2.aR._auto_1):PS X (.Expr e pos) (wg te):=by
 intro pins s σ H D I h;exact wpAny_Expr_any (thn (b pins s σ H _ I h) λv d ⟨x,H1,c,f,a⟩=>⟨σ,H1,c,a⟩) I.quiet hs
def Lj(te:TE):TS:=λD σ H=>te σ H D.rt
theorem Gv(c:PE X e te):PS X (.Return (some e) pos) (Lj te):=by
 intro pins s σ H D I h;exact wpAny_Return_some (thn (c pins s σ H _ I h) λv f ⟨x,H1,d,a,b⟩=>⟨x,σ,H1,d,a,b⟩)
def Bz:TS:=λD _ H=>D.rt .non H
theorem BB:PS X (.Return none pos) Bz:=λ_ _ σ H _ I h=>wpAny_Return_none ⟨.non,σ,H,I,rfl,h⟩
def Lk(c:TT)(t u:TS):TS:=λD σ H=>c σ H λb H1=>if b=true then t D σ H1 else u D σ H1
theorem Ll{a b:List Stmt}(i:PT X c tc)(k:PSs X a t)(j:PSs X b u):PS X (.If c a b pos) (Lk tc t u):=by
 intro pins s σ H D I h;refine wpAny_If (thn (i pins s σ H _ I h) λd e y=>?_);obtain⟨H1,g,f⟩:=y
 cases d with
 |true=>exact k pins e σ H1 D g f
 |false=>exact j pins e σ H1 D g f
def rj:TS:=λ_ _ _=>False
theorem wj:PS X st rj:=λ_ _ _ _ _ _ h=>h.elim
end
abbrev TG:=V->St->Hp->(St->Hp->Prop)->Prop
abbrev TGs:=List V->St->Hp->(St->Hp->Prop)->Prop
def PG(X:Cx)(target:Expr)(t:TG):Prop:=
 ∀(pins:List (Addr×Obj)) (s:Shared) (σ:St) (H:Hp) (v:V) (u:Value) (Q:St->Hp->Prop),Inv X pins σ H s->RelV v u->t v σ H Q ->
  wpAny (model X.prog X.w) X.A (assign target X.env u) (λ_ s'=>∃a H',Inv X pins a H' s'/\Q a H') X.xe s
def PGs(X:Cx)(b:List Expr)(t:TGs):Prop:=
 ∀(pins:List (Addr×Obj)) (s:Shared) (σ:St) (H:Hp) (vs:List V) (us:List Value) (Q:St->Hp->Prop),Inv X pins σ H s->Vals vs us->t vs σ H Q ->
  wpAny (model X.prog X.w) X.A (assignInOrder ((assignEach b X.env).map (·.2)) us) (λ_ s'=>∃a H',Inv X pins a H' s'/\Q a H') X.xe s
abbrev Lm:=V->V->V->Hp->(Hp->Prop)->Prop
def MU(X:Cx)(t:Lm):Prop:=
 ∀(pins:List (Addr×Obj)) (s:Shared) (σ:St) (H:Hp) (o i v:V) (ov a u:Value) (Q:Hp->Prop),Inv X pins σ H s->RelV o ov->RelV i a->RelV v u->t o i v H Q ->
  wpAny (model X.prog X.w) X.A (setItem ov a u) (λ_ s'=>∃H',Inv X pins σ H' s'/\Q H') X.xe s
def fE(i:Nat):TG:=λv σ H Q=>Q (σ.set i (some v)) H
theorem BC(b:X.N.Nodup)(hi:X.N[i]?=some x)(hx:Loc X.env.scope x)(a:autoParam (X.fn x=true∨X.env.scope.names.lookup x=some .local) L2.aF._auto_1):PG X (.Name x pos) (fE i):=by
 intro pins s σ H v u Q I r h;exact wpAny_assign_Name (nF I b hi hx r (λs' c=>⟨_,H,c,h⟩) a)
def KJ:TGs:=λvs σ H Q=>vs=[]/\Q σ H
def rl(t:TG)(u:TGs):TGs:=λvs σ H Q=>∃v r,vs=v::r/\t v σ H λa H'=>u r a H' Q
theorem BD:PGs X [] KJ:=by
 intro pins s σ H vs us Q I r h;obtain⟨e,h⟩:=h;subst e;cases r;exact assignInOrder_nil ⟨σ,H,I,h⟩
theorem wl{t:TG}{u:TGs}(h1:PG X e t)(h2:PGs X es u)
  (hs:autoParam ((assignEach (e::es) X.env).map (·.2)=assign e X.env::(assignEach es X.env).map (·.2)) L2.aR._auto_1):PGs X (e::es) (rl t u):=by
 intro pins s σ H vs us Q I r h;obtain⟨v,i,f,h⟩:=h;subst f
 cases r with
 | cons r c=>
  rw[hs];refine assignInOrder_cons (thn (h1 pins s σ H _ _ _ I r h) λ_ b y=>?_);obtain⟨a,H1,g,d⟩:=y;exact h2 pins b a H1 _ _ Q g c d
def Gw(K:Frag)(n:Nat)(t:TGs):TG:=λv σ H Q=>∃a xs,v=.ref a/\SqT K H a xs/\xs.length=n/\t xs σ H Q
theorem Gx{t:TGs}(p:X.calm=true)(h:PGs X es t)
  (l:autoParam ((assignEach es X.env).length=n) L2.aR._auto_1) (d:autoParam ((assignEach es X.env).findIdx? (·.1)=none) L2.aR._auto_1):PG X (.Tuple es k pos) (Gw X.K n t):=by
 intro pins s σ H v u Q I r c;obtain⟨a,xs,q,j,m,c⟩:=c;subst q;cases r;obtain⟨its,f,i,x⟩:=I.tuple j;refine assign_Tuple_tuple (I.ok.hd p) i (by simp[l,← m,f.length]) d λh' g=>?_;have w:Inv X pins σ H { s with heap:=h' }:=I.kept (t':=s.toks) λb o e=>g b o (aak (aag e)) e;exact h pins _ σ H xs _ Q w (by exists f) c
def Ln(to a:TE)(t:Lm):TG:=λv σ H Q=>to σ H λo H1=>a σ H1 λi H2=>t o i v H2 λb=>Q σ b
theorem Gy{o i:Expr}{to b:TE}{t:Lm}(l:PE X o to)(hi:PE X i b)(hs:MU X t)
  (m:autoParam (∀v,assign (.Subscript o i pos) X.env v=(do
   let ov ← holding [v] (eval o X.env)
   let a ← holding [v,ov] (eval i X.env)
   standAt pos
   holding [v,ov,a] (setItem ov a v)
   release [v,ov,a] [])) L2.aI._auto_1):PG X (.Subscript o i pos) (Ln to b t):=by
 intro pins s σ H v u Q I r h;rw[m];refine aaa (aaM (thn (l pins s σ H _ I h) λov d A=>?_));obtain⟨x,H1,q,f,k⟩:=A;refine aaa (aaM (thn (hi pins d σ H1 _ q k) λa c B=>?_));obtain⟨y,H2,p,e,j⟩:=B;refine aaa (wpAny_standAt (aaa (aaM (thn (hs pins c σ H2 x y v ov a u _ p f e r j) λ_ z C=>?_))));obtain⟨w,n,g⟩:=C;exact wpAny_release ⟨σ,w,n,g⟩
def pM(te:TE)(g:TG):TS:=λD σ H=>te σ H λx H1=>g x σ H1 D.nx
theorem Gz{g:TG}(i:PE X e te)(f:PG X tg g)(hs:autoParam (swapsWithSole [tg] e pos.line X.env=pure false) L2.aR._auto_1)(d:autoParam (swappedStores [tg] e X.env=pure none) L2.aR._auto_1)
  (h1:autoParam ((assignEach [tg] X.env).map (·.2)=[assign tg X.env]) L2.aR._auto_1):PS X (.Assign [tg] e pos) (pM te g):=by
 intro pins s σ H D I h;refine wpAny_Assign_stores (thn (i pins s σ H _ I h) λv a y=>?_) hs d;obtain⟨x,H1,j,b,c⟩:=y;rw[h1];exact thn (f pins a σ H1 x v _ j b c) λ_ k q=>q
theorem GA(f:X.N.Nodup)(hi:X.N[i]?=some x)(hx:Loc X.env.scope x)(d:PE X e te)(hs:autoParam (swapsWith e (some (.Name x pos')) pos.line X.env=pure false) L2.aR._auto_1)(c:autoParam (X.fn x=true∨X.env.scope.names.lookup x=some .local) L2.aF._auto_1) :
  PS X (.Assign [.Name x pos'] e pos) (pM te (fE i)):=by
 intro pins s σ H D I h;refine wpAny_Assign_Name (thn (d pins s σ H _ I h) λv l z=>?_) hs;obtain⟨y,H1,j,a,b⟩:=z;exact nF j f hi hx a (λk g=>⟨_,H1,g,b⟩) c
def rm(c:TT)(tb:TS):TS:=λD σ H=>∃W:Nat->St->Hp->Prop,(∃m,W m σ H)/\∀m σ H,W m σ H ->
 c σ H λb H1=>if b=true then ∃N:St->Hp->Prop,(∀a H',N a H'->∃d,d<m/\W d a H')/\tb { D with nx:=N,ct:=N,bk:=D.nx } σ H1 else D.nx σ H1
theorem wm{tb:TS}(q:PassesOwn (model X.prog X.w) X.A X.env X.xe)(A:PT X c tc)(B:PSs X body tb):PS X (.While c body [] pos) (rm tc tb):=by
 intro pins s σ H D I h;obtain⟨W,⟨z,w⟩,g⟩:=h;refine wpAny_While (codeAny_whileLoop (λn s'=>∃e H',Inv X pins e H' s'/\W n e H') ?_ z ⟨σ,H,I,w⟩);rintro n y ⟨d,H1,C,u⟩;refine aa8 q (thn (A pins y d H1 _ C (g n d H1 u)) λb x F=>?_);obtain⟨H2,t,k⟩:=F
 cases b with
 | true=>
  obtain⟨N,r,k⟩:=k;rw[if_pos rfl];refine aa8 q (thn (B pins x d H2 _ t k) λf E j=>?_)
  cases f with
  | next=>
   obtain⟨a,i,p,n3⟩:=j;obtain⟨m,o,l⟩:=r a i n3;exact⟨m,o,a,i,p,l⟩
  | cont=>
   obtain⟨a,i,p,n3⟩:=j;obtain⟨m,o,l⟩:=r a i n3;exact⟨m,o,a,i,p,l⟩
  |brk=>exact j
  |ret v=>exact j
 | false=>
  rw[if_neg abK];exact wpAny_execs_nil ⟨d,H2,t,k⟩
structure It where
 go:Nat->Hp->Prop
 yld:Nat->Hp->V->Hp->Prop
 stop:Nat->Hp->Prop
def rn(X:Cx)(pins:List (Addr×Obj))(H:Hp)(b:Addr):Prop:=
 H b=none/\b≠X.env.locals/\b∉X.fs/\(b∈X.ex∨X.s₀.heap.objs.size<=b)/\(∀x c,X.env.cells.lookup x=some c->c≠b)/\∀p∈X.pn++pins,p.1≠b
theorem Inv.fpOk(I:Inv X pins σ H s)(a:s.heap.objs.size<=b)(f:H' b=none):rn X pins H' b:=by
 refine⟨f,Nat.ne_of_gt (aao I.lt a),I.nofs a,.inr (aas I.sz a),λx c e z=>?_,λp d z=>?_⟩
 ·obtain⟨v,q⟩:=I.cell x c e;exact absurd (aao q.lt (by rw[z];exact a)) (aaO _)
 ·exact absurd (aao (aag (I.pin p d).1) (by rw[z];exact a)) (aaO _)
structure Turn(P:Program)(w:World)(K:Frag)(tg:Expr)(J:It)(fp:List Addr)(it:Addr)(tn:Nat->Heap->Prop):Prop where
 mem:it∈fp
 obj:∀i h,tn i h->∀b∈fp,∃o,h.get? b=some o/\∀v,o.data≠.cell v
 keep:∀i h h',tn i h->(∀b∈fp,∀o,h.get? b=some o->h'.get? b=some o)->tn i h'
 item:∀(X:Cx),X.prog=P->X.w=w->X.K=K->X.calm=true->∀(i:Nat) (pins:List (Addr×Obj)) (s:Shared) (σ:St) (H:Hp) (E:Value->Shared->Prop),Inv X pins σ H s->(∀b∈fp,rn X pins H b)->tn i s.heap->J.go i H ->
  wpAny (model P w) X.A (pyNext (.ref it)) (λr s1=>∃u,r=some u /\
   wpAny (model P w) X.A (letOwnedTupleGo tg (.ref it) u) (λ_ s2=>∃x H',Inv X pins σ H' s2/\RelV x u/\J.yld i H x H'/\tn (i+1) s2.heap/\∀b∈fp,H' b=none) E s1) E s
 done:∀(X:Cx),X.prog=P->X.w=w->X.K=K->X.calm=true->∀(i:Nat) (pins:List (Addr×Obj)) (s:Shared) (σ:St) (H:Hp) (E:Value->Shared->Prop),Inv X pins σ H s->(∀b∈fp,rn X pins H b)->tn i s.heap->J.stop i H ->
  wpAny (model P w) X.A (pyNext (.ref it)) (λr s1=>r=none/\Inv X pins σ H s1) E s
 self:∀(A:Around) (i:Nat) (s:Shared) (Q:Value->Shared->Prop) (E:Value->Shared->Prop),tn i s.heap->Q (.ref it) s->wpAny (model P w) A (pyIter (.ref it)) Q E s
abbrev TI:=St->Hp->(It->Hp->Prop)->Prop
def PIE(X:Cx)(pins:List (Addr×Obj))(σ:St)(tg:Expr)(R:It->Hp->Prop)(a:Value)(c:Shared):Prop:=
 ∃(it:Addr) (fp:List Addr) (tn:Nat->Heap->Prop) (J:It) (H':Hp),a=.ref it/\Inv X pins σ H' c/\Turn X.prog X.w X.K tg J fp it tn/\tn 0 c.heap/\(∀b∈fp,rn X pins H' b)/\R J H'
def PI(X:Cx)(tg iter:Expr)(wi:TI):Prop:=
 ∀(pins:List (Addr×Obj)) (s:Shared) (σ:St) (H:Hp) (R:It->Hp->Prop),Inv X pins σ H s->wi σ H R ->
  wpAny (model X.prog X.w) X.A (eval iter X.env) (λv a=>wpAny (model X.prog X.w) X.A (pyIter v) (PIE X pins σ tg R) X.xe a) X.xe s
theorem kZ{M:Model}{o:Obj}{n:String}{vs:Array Value}{Q:Unit->Shared->Prop}(b:s.heap.get? it=some o)(d:o.cls=.type n)(hd:o.data=.fields vs)
    (c:["enumerate", "zip", "dict_itemiterator", "dict_reverseitemiterator", "odict_iterator", "itertools.zip_longest", "itertools.pairwise"].contains n=false) (a:Q () s):wpAny M A (letOwnedTupleGo tg (.ref it) u) Q E s:=by
  unfold letOwnedTupleGo
  cases tg <;> first
    |exact aaf a
    | (cases u <;> first
        |exact aaf a
        | (refine aaa (wpAny_load b ?_)
           rw[d,hd];show wpAny M A (if (["enumerate", "zip", "dict_itemiterator", "dict_reverseitemiterator", "odict_iterator", "itertools.zip_longest", "itertools.pairwise"].contains n&&vs[0]?==some (rawInt _))=true then _ else _) Q E s;rw[if_neg (by intro h;rw[c,Bool.false_and] at h;cases h)];exact aaf a))
def Itl(K:Frag)(a:Addr):It:=
 ⟨λi H=>∃xs x,SqL K H a xs/\xs[i]?=some x,λi H x H'=>H'=H/\∀xs,SqL K H a xs->xs[i]?=some x,λi H=>∃xs,SqL K H a xs/\xs.length<=i⟩
def Itt(K:Frag)(a:Addr):It:=
 ⟨λi H=>∃xs x,SqT K H a xs/\xs[i]?=some x,λi H x H'=>H'=H/\∀xs,SqT K H a xs->xs[i]?=some x,λi H=>∃xs,SqT K H a xs/\xs.length<=i⟩
def Itr(lo:Int)(n:Nat):It:=⟨λi _=>i<n,λi H x H'=>H'=H/\x=.int (lo+i),λi _=>n<=i⟩
theorem rp{K:Frag}(a it:Addr):Turn P w K tg (Itl K a) [it] it (λi h=>h.IsListIter it a i) where
 mem:=by simp
 obj:=λi h st b hb=>by
  have e:b=it:=(by exists hb);subst e;obtain⟨o,e,c,d⟩:=st;exact⟨o,e,λv z=>by rw[d] at z;cases z⟩
 keep:=λi h h' st k=>st.at λo e=>k it (by simp) o e
 item:=by
  intro X hP hw hK hc i pins s σ H E I hf st hg;subst hP hw hK;obtain⟨xs,x,hq,hx⟩:=hg;obtain⟨its,rv,p,hz⟩:=I.list hq;obtain⟨u,hu,ru⟩:=rv.get hx;obtain⟨f0,f1,f2,f3,f4,f5⟩:=hf it (by simp);refine wpAny_pyNext_list_item st p.isList (x:=u) (by exists hu) λh' st' sb=>?_;have I1:Inv X pins σ H { s with heap:=h' }:=I.turned (t':=s.toks) (λb o hb e=>(sb.2 b hb).trans e) f0 f1 f3 f4 f5;obtain⟨o,e,c,d⟩:=id st';exact⟨u,rfl,kZ (s:={ s with heap:=h' }) e c d (by decide) ⟨x,H,I1,ru,⟨rfl,λys hy=>by rw[I.list_inj hy hq];exact hx⟩,st',λb hb=>(hf b hb).1⟩⟩
 done:=by
  intro X hP hw hK hc i pins s σ H E I hf st hg;subst hP hw hK;obtain⟨xs,hq,hx⟩:=hg;obtain⟨its,rv,p,hz⟩:=I.list hq;obtain⟨f0,f1,f2,f3,f4,f5⟩:=hf it (by simp);have hl:=rv.length;exact wpAny_pyNext_list_end (I.ok.hd hc) st p.isList (by simp;nofun) λh' eb=>⟨rfl,I.turned (t':=s.toks) (λb o hb e=>eb b o hb e) f0 f1 f3 f4 f5⟩
 self:=λ_ _ _ _ _ st h=>wpAny_pyIter_listiter st h
theorem pN{K:Frag}(a it:Addr):Turn P w K tg (Itt K a) [it] it (λi h=>h.IsTupleIter it a i) where
 mem:=by simp
 obj:=λi h st b hb=>by
  have e:b=it:=(by exists hb);subst e;obtain⟨o,e,c,d⟩:=st;exact⟨o,e,λv z=>by rw[d] at z;cases z⟩
 keep:=λi h h' st k=>st.at λo e=>k it (by simp) o e
 item:=by
  intro X hP hw hK hc i pins s σ H E I hf st hg;subst hP hw hK;obtain⟨xs,x,hq,hx⟩:=hg;obtain⟨its,rv,p,hz⟩:=I.tuple hq;obtain⟨u,hu,ru⟩:=rv.get hx;obtain⟨f0,f1,f2,f3,f4,f5⟩:=hf it (by simp);refine wpAny_pyNext_tuple_item st (show s.heap.IsTuple a its.toArray from p) (x:=u) (by exists hu) λh' st' sb=>?_;have I1:Inv X pins σ H { s with heap:=h' }:=I.turned (t':=s.toks) (λb o hb e=>(sb.2 b hb).trans e) f0 f1 f3 f4 f5;obtain⟨o,e,c,d⟩:=id st';exact⟨u,rfl,kZ (s:={ s with heap:=h' }) e c d (by decide) ⟨x,H,I1,ru,⟨rfl,λys hy=>by rw[I.tuple_inj hy hq];exact hx⟩,st',λb hb=>(hf b hb).1⟩⟩
 done:=by
  intro X hP hw hK hc i pins s σ H E I hf st hg;subst hP hw hK;obtain⟨xs,hq,hx⟩:=hg;obtain⟨its,rv,p,hz⟩:=I.tuple hq;obtain⟨f0,f1,f2,f3,f4,f5⟩:=hf it (by simp);have hl:=rv.length;exact wpAny_pyNext_tuple_end (I.ok.hd hc) st (show s.heap.IsTuple a its.toArray from p) (by simp;nofun) λh' eb=>⟨rfl,I.turned (t':=s.toks) (λb o hb e=>eb b o hb e) f0 f1 f3 f4 f5⟩
 self:=λ_ _ _ _ _ st h=>wpAny_pyIter_tupleiter st h
theorem pO{K:Frag}(it:Addr)(lo:Int)(n:Nat):Turn P w K tg (Itr lo n) [it] it (λi h=>IsRangeIter h it (lo+(i:Nat)*1) ((n:Int) - (i:Nat)) 1) where
 mem:=by simp
 obj:=λi h st b hb=>by
  have e:b=it:=(by exists hb);subst e
  exact⟨_,st,λv z=>by
   have z':Data.fields _=Data.cell v:=z;cases z'⟩
 keep:=λi h h' st k=>k it (by simp) _ st
 item:=by
  intro X hP hw hK hc i pins s σ H E I hf st hg;subst hP hw hK;obtain⟨f0,f1,f2,f3,f4,f5⟩:=hf it (by simp);have W:=Walks.range (prog:=X.prog) (w:=X.w) (I.ok.hd hc) it lo 1 n;refine W.item i s _ _ hg st λv h' tk hv st' kk=>?_;obtain⟨t,rfl⟩:=hv;have I1:Inv X pins σ H { s with heap:=h',toks:=tk }:=I.turned (λb o hb e=>kk b o (by exists hb) e) f0 f1 f3 f4 f5;refine⟨_,rfl,kZ (s:={ s with heap:=h',toks:=tk }) (n := "range_iterator") st' rfl rfl (by decide) ⟨.int (lo+i),H,I1,⟨t,?_⟩,⟨rfl,rfl⟩,st',λb hb=>(hf b hb).1⟩⟩;rw[Int.mul_one]
 done:=by
  intro X hP hw hK hc i pins s σ H E I hf st hg;subst hP hw hK;obtain⟨f0,f1,f2,f3,f4,f5⟩:=hf it (by simp);exact wpAny_pyNext_range_end (I.ok.hd hc) st (by have:n<=i:=hg;nofun) λh' eb=>⟨rfl,I.turned (t':=s.toks) (λb o hb e=>eb b o hb e) f0 f1 f3 f4 f5⟩
 self:=λ_ _ _ _ _ st h=>wpAny_pyIter_rangeiter st h
def wn(K:Frag)(tl:TE):TI:=λσ H R=>tl σ H λx H1=>∃a,x=.ref a/\(∃xs,SqL K H1 a xs)/\R (Itl K a) H1
def KL(K:Frag)(tl:TE):TI:=λσ H R=>tl σ H λx H1=>∃a,x=.ref a/\(∃xs,SqT K H1 a xs)/\R (Itt K a) H1
theorem BF(j:PE X l tl):PI X tg l (wn X.K tl):=by
 intro pins s σ H R I h;refine thn (j pins s σ H _ I h) λv c y=>?_;obtain⟨x,H1,d,f,g⟩:=y;obtain⟨a,e,⟨xs,i⟩,q⟩:=g;subst e;cases f;obtain⟨its,m,p,n⟩:=d.list i;refine wpAny_pyIter_list p.isList ?_;refine⟨c.heap.objs.size,[c.heap.objs.size],_,_,H1,rfl,d.kept (t':=c.toks) λb o e=>Heap.get?_push_of_some _ e,rp a _,⟨_,Heap.get?_push_size _ rfl,rfl,rfl⟩,λb k=>?_,q⟩;have e:b=c.heap.objs.size:=(by exists k);subst e;exact d.fpOk (aac _) (d.hok.fresh (aac _))
theorem GB(j:PE X l tl):PI X tg l (KL X.K tl):=by
 intro pins s σ H R I h;refine thn (j pins s σ H _ I h) λv c y=>?_;obtain⟨x,H1,d,f,g⟩:=y;obtain⟨a,e,⟨xs,i⟩,q⟩:=g;subst e;cases f;obtain⟨its,m,p,n⟩:=d.tuple i;refine wpAny_pyIter_tuple (show c.heap.IsTuple a its.toArray from p) ?_;refine⟨c.heap.objs.size,[c.heap.objs.size],_,_,H1,rfl,d.kept (t':=c.toks) λb o e=>Heap.get?_push_of_some _ e,pN a _,⟨_,Heap.get?_push_size _ rfl,rfl,rfl⟩,λb k=>?_,q⟩;have e:b=c.heap.objs.size:=(by exists k);subst e;exact d.fpOk (aac _) (d.hok.fresh (aac _))
theorem nG{R:It->Hp->Prop}{lo hi:Int}{t u v:Tok}{tk:Nat}(I:Inv X pins σ H s)(h1:-(2 ^ 62)<=lo)(h2:lo<2 ^ 62)(f:-(2 ^ 62)<=hi)(d:hi<2 ^ 62)
  (q:R (Itr lo (hi - lo).toNat) H):wpAny (model X.prog X.w) X.A (pyIter (.ref s.heap.objs.size)) (PIE X pins σ tg R) E { s with heap:=s.heap.push { cls:=.type "range", data:=.fields #[.int lo t,.int hi u,.int 1 v] },toks:=tk }:=by
 refine wpAny_pyIter_range (IsRange.new ..) (small_one h1 h2 f d) ?_;have a:Inv X pins σ H { s with heap:=s.heap.push { cls:=.type "range", data:=.fields #[.int lo t,.int hi u,.int 1 v] },toks:=tk }:=I.kept λb o e=>Heap.get?_push_of_some _ e
 refine⟨(s.heap.push { cls:=.type "range", data:=.fields #[.int lo t,.int hi u,.int 1 v] }).objs.size,[(s.heap.push { cls:=.type "range", data:=.fields #[.int lo t,.int hi u,.int 1 v] }).objs.size],_,_,H,rfl,
  a.kept (t':=tk) λb o e=>Heap.get?_push_of_some _ e,pO _ lo (hi - lo).toNat,?_,λb c=>?_,q⟩
 ·have i:lo+((0:Nat):Int)*1=lo:=by simp
  have g:(((hi - lo).toNat:Nat):Int) - ((0:Nat):Int)=Builtin.Range.rangeSize lo hi 1:=by rw[rangeSize_one];split <;> nofun
  show IsRangeIter _ _ (lo+((0:Nat):Int)*1) ((((hi - lo).toNat:Nat):Int) - ((0:Nat):Int)) 1;rw[i,g];exact Heap.get?_push_size _ rfl
 ·have e:b=(s.heap.push { cls:=.type "range", data:=.fields #[.int lo t,.int hi u,.int 1 v] }).objs.size:=(by exists c);subst e;exact a.fpOk (aac _) (a.hok.fresh (aac _))
def BH(ta:TA):TI:=λσ H R=>ta σ H λvs H1=>∃j:Int,vs=[.int j]/\-(2 ^ 62)<=j/\j<2 ^ 62/\R (Itr 0 j.toNat) H1
def BJ(ta:TA):TI:=λσ H R=>ta σ H λvs H1=>∃i j:Int,vs=[.int i,.int j]/\(-(2 ^ 62)<=i/\i<2 ^ 62/\-(2 ^ 62)<=j/\j<2 ^ 62)/\R (Itr i (j - i).toNat) H1
theorem rq{a:Expr}{ta:TA}(i:Gl X "range")(g:X.mg "range" = none)(k:PA X [a] ta)(hs:autoParam (starEach [a] X.env=[(false,eval a X.env)]) L2.aR._auto_1):PI X tg (.Call (.Name "range" p) [a] [] pos) (BH ta):=by
 intro pins s σ H R I h;refine Call_ (kY I i g boot_range (abC (thn (k pos pins s σ H _ I h) λus m y=>?_) hs rfl));obtain⟨vs,H1,l,d,b⟩:=y;obtain⟨j,e,b,f,q⟩:=b;subst e
 cases d with
 | cons r c=>
  cases c;obtain⟨t,rfl⟩:=r;exact call_range_1 (nG l (by nofun) (by nofun) b f (by exists q))
theorem rA{a b:Expr}{ta:TA}(o:Gl X "range")(n:X.mg "range" = none)(u:PA X [a,b] ta)(hs:autoParam (starEach [a,b] X.env=[(false,eval a X.env),(false,eval b X.env)]) L2.aR._auto_1)(c:autoParam (starEach [b] X.env=[(false,eval b X.env)]) L2.aR._auto_1) :
  PI X tg (.Call (.Name "range" p) [a,b] [] pos) (BJ ta):=by
 intro pins s σ H R I h;refine Call_ (kY I o n boot_range (abC (thn (u pos pins s σ H _ I h) λus w y=>?_) (by rw[hs,c]) (by rw[c];rfl)));obtain⟨vs,H1,v,g,f⟩:=y;obtain⟨i,j,e,⟨f,m,l,k⟩,q⟩:=f;subst e
 cases g with
 | cons r d=>
  cases d with
  | cons r' d=>
   cases d;obtain⟨t,rfl⟩:=r;obtain⟨t',rfl⟩:=r';exact call_range_2 (nG v f m l k q)
def Lo(wi:TI)(g:TG)(tb:TS):TS:=λD σ H=>wi σ H λJ H1=>∃W:Nat->Nat->St->Hp->Prop,(∃m,W 0 m σ H1)/\∀i m σ H,W i m σ H ->
 (J.stop i H/\D.nx σ H)∨(J.go i H/\∃N:St->Hp->Prop,(∀a H',N a H'->∃c,c<m/\W (i+1) c a H')/\∀x H',J.yld i H x H'->g x σ H' λb H2=>tb { D with nx:=N,ct:=N,bk:=D.nx } b H2)
def jp(fp:List Addr)(h:Heap):List (Addr×Obj):=fp.filterMap λb=>(h.get? b).map λo=>(b,o)
theorem eW{o:Obj}(a:b∈fp)(e:h.get? b=some o):(b,o)∈jp fp h:=List.mem_filterMap.mpr ⟨b,a,by rw[e];rfl⟩
theorem rB{p:Addr×Obj}(a:p∈jp fp h):p.1∈fp/\h.get? p.1=some p.2:=by
 obtain⟨b,c,e⟩:=List.mem_filterMap.mp a
 cases q:h.get? b with
 |none=>rw[q] at e;cases e
 | some o=>
  rw[q] at e;have d:(b,o)=p:=aaj e;subst d;exact⟨c,q⟩
theorem Inv.pinned(I:Inv X pins σ H s)(i:∀b∈fp,rn X pins H b)(g:∀b∈fp,∃o,s.heap.get? b=some o/\∀v,o.data≠.cell v):Inv X (pins++jp fp s.heap) σ H s:=
 I.pins_of λp f=>(abE.mp f).elim (λz=>I.pin p (aal _ z)) λz=>by
  obtain⟨a,e⟩:=rB z;obtain⟨j,f1,f2,_⟩:=i p.1 a;obtain⟨o,c,d⟩:=g p.1 a;rw[e] at c;cases c;exact⟨e,j,f1,f2,d⟩
theorem Inv.unpinned{pl:List (Addr×Obj)}(I:Inv X (pins++pl) σ H s):Inv X pins σ H s:=I.pins_of λp a=>I.pin p (aal _ (aav _ a))
theorem GC{iter:Expr}{wi:TI}{g:TG}{tb:TS}(E:PassesOwn (model X.prog X.w) X.A X.env X.xe)(Z:X.calm=true)(hi:PI X tg iter wi)(hg:PG X tg g)(l:PSs X body tb)
  (hs:autoParam (∀x,foldedSetIterable iter X.env x=pure x) L2.aI._auto_1):PS X (.For tg iter body [] pos) (Lo wi g tb):=by
 intro pins s σ H D I h;refine wpAny_For (thn (hi pins s σ H _ I h) λv s1 h1=>thn h1 λitv s2 h2=>?_) hs;obtain⟨it,fp,tn,J,H2,e,I2,T,O,f2,W,⟨m0,w0⟩,z⟩:=h2;subst e
 -- S M true of L w B through L Y
 have k:∀{H':Hp},(∀b∈fp,H' b=none)->∀b∈fp,rn X pins H' b:=λhn b l=>⟨hn b l,(f2 b l).2⟩;refine codeAny_forLoop_any (λn s'=>∃i j H',Inv X pins j H' s'/\tn i s'.heap/\(∀b∈fp,H' b=none)/\W i n j H') ?_ m0 ⟨0,σ,H2,I2,O,λb l=>(f2 b l).1,w0⟩;rintro n V ⟨i,c,G,I3,A,F,w3⟩;rcases z i n c G w3 with ⟨stop,qn⟩|⟨go,N,hN,step⟩
 ·refine aa8 E (thn (T.done X rfl rfl rfl Z i pins V c G X.xe I3 (k F) A stop) λr s4 r=>?_);obtain⟨hr,I4⟩:=r;subst hr;exact wpAny_execs_nil ⟨c,G,I4,qn⟩
 ·refine aa8 E (thn (T.item X rfl rfl rfl Z i pins V c G X.xe I3 (k F) A go) λr s4 x0=>?_);obtain⟨u,hr,h4⟩:=x0;subst hr;refine aa8 E (thn h4 λ_ U x1=>?_);obtain⟨x,H5,I5,r5,y5,y,Q⟩:=x1;have R:=I5.pinned (k Q) (T.obj _ _ y);refine aa8 E (thn (hg _ U c H5 x u _ R r5 (step x H5 y5)) λ_ s6 x2=>?_);obtain⟨K,H6,I6,q6⟩:=x2;refine aa8 E (thn (l _ s6 K H6 _ I6 q6) λf P t=>?_)
  have again:∀{a:St} {q:Hp},Inv X (pins++jp fp U.heap) a q P->N a q->∃m,m<n/\∃i j H',Inv X pins j H' P/\tn i P.heap/\(∀b∈fp,H' b=none)/\W i m j H':=fun {a q} p C=>by
   obtain⟨m',hm,w7⟩:=hN a q C;refine⟨m',hm,i+1,a,q,p.unpinned,T.keep _ _ _ y λb l o e=>(p.pin (b,o) (aal _ (aal _ (eW l e)))).1,λb l=>?_,w7⟩;obtain⟨o,e,d⟩:=T.obj _ _ y b l;exact(p.pin (b,o) (aal _ (aal _ (eW l e)))).2.1
  cases f with
  |next=>obtain ⟨a,q,p,C⟩:=t;exact again p C
  |cont=>obtain ⟨a,q,p,C⟩:=t;exact again p C
  |brk=>obtain ⟨a,q,p,t⟩:=t;exact ⟨a,q,p.unpinned,t⟩
  |ret v=>obtain ⟨x7,a,q,p,r7,t⟩:=t;exact ⟨x7,a,q,p.unpinned,r7,t⟩
abbrev R2:=V->V->Hp->VK->Prop
variable{r r':R2}
def OpR(X:Cx)(f:Value->Value->Sem Value)(r:R2):Prop:=
 ∀(pins:List (Addr×Obj)) (s:Shared) (σ:St) (H:Hp) (x y:V) (v u:Value) (Q:VK),Inv X pins σ H s->RelV x v->RelV y u->r x y H Q ->
  wpAny (model X.prog X.w) X.A (f v u) (EP X pins σ Q) X.xe s
def UnR(X:Cx)(f:Value->Sem Value)(r:V->Hp->VK->Prop):Prop:=
 ∀(pins:List (Addr×Obj)) (s:Shared) (σ:St) (H:Hp) (x:V) (v:Value) (Q:VK),Inv X pins σ H s->RelV x v->r x H Q ->
  wpAny (model X.prog X.w) X.A (f v) (EP X pins σ Q) X.xe s
def CallR(X:Cx)(f:Value)(r:List V->Hp->VK->Prop):Prop:=
 ∀(pins:List (Addr×Obj)) (s:Shared) (σ:St) (H:Hp) (xs:List V) (us:List Value) (Q:VK),Inv X pins σ H s->Vals xs us->r xs H Q ->
  wpAny (model X.prog X.w) X.A (call f us) (EP X pins σ Q) X.xe s
def TruR(X:Cx)(r:V->Hp->(Bool->Hp->Prop)->Prop):Prop:=
 ∀(pins:List (Addr×Obj)) (s:Shared) (σ:St) (H:Hp) (x:V) (v:Value) (Q:Bool->Hp->Prop),Inv X pins σ H s->RelV x v->r x H Q ->
  wpAny (model X.prog X.w) X.A (truthy v) (TP X pins σ Q) X.xe s
def tOp(r:R2)(ta tb:TE):TE:=λσ H Q=>ta σ H λx H1=>tb σ H1 λy H2=>r x y H2 Q
def tUn(r:V->Hp->VK->Prop)(ta:TE):TE:=λσ H Q=>ta σ H λx H1=>r x H1 Q
def rI(C:Int->Int->Prop)(g:Int->Int->V):R2:=λx y H Q=>∃i j,x=.int i/\y=.int j/\C i j/\Q (g i j) H
def rI0(g:Int->Int->V):R2:=λx y H Q=>∃i j,x=.int i/\y=.int j/\Q (g i j) H
def rU(g:Int->V):V->Hp->VK->Prop:=λx H Q=>∃i,x=.int i/\Q (g i) H
section
variable  {a b:Expr} {tc:TE} 
theorem Lp(o:PE X a ta)(n:PE X b tb)(I:Inv X pins σ H s)
  (h:ta σ H λx H1=>tb σ H1 λy H2=>R x y H2)  
  (m:∀v u e x y H2,Inv X pins σ H2 e->RelV x v->RelV y u->R x y H2->wpAny (model X.prog X.w) X.A (f v u) Q X.xe e) :
  wpAny (model X.prog X.w) X.A (eval a X.env) (λv d=>wpAny (model X.prog X.w) X.A (eval b X.env) (λu c=>wpAny (model X.prog X.w) X.A (f v u) Q X.xe c) X.xe d) X.xe s:=by
 refine thn (o pins s σ H _ I h) λv g z=>?_;obtain⟨x,H1,q,j,l⟩:=z;refine thn (n pins g σ H1 _ q l) λu e t=>?_;obtain⟨y,H2,p,i,k⟩:=t;exact m v u e x y H2 p j i k
theorem Lq{op:Operator}(f:OpR X (binaryOp op) r)(i:PE X a ta)(g:PE X b tb):PE X (.BinOp a op b pos) (tOp r ta tb):=by
 intro pins s σ H Q I h;exact wpAny_BinOp (Lp i g I h λv u c x y H2 j e d q=>f pins c σ H2 x y v u Q j e d q)
theorem Lr{op:UnaryOp}{r:V->Hp->VK->Prop}(e:UnR X (unaryOp op) r)(f:PE X a ta):PE X (.UnaryOp op a pos) (tUn r ta):=by
 intro pins s σ H Q I h;exact UnaryOp_ (thn (f pins s σ H _ I h) λv b ⟨x,H1,g,c,d⟩=>e pins b σ H1 x v Q g c d)
theorem opI{C:Int->Int->Prop}
  (rule:∀(i j:Int) (t u:Tok) (s:Shared) (Q:Value->Shared->Prop) (E:Value->Shared->Prop),C i j->Q (.int (g i j) s.toks) { s with toks:=s.toks+1 }->wpAny (model X.prog X.w) X.A (f (.int i t) (.int j u)) Q E s) :
  OpR X f (rI C λi j=>.int (g i j)):=by
 intro pins s σ H x y v u Q I b a h;obtain⟨i,j,rfl,rfl,c,q⟩:=h;obtain⟨t,rfl⟩:=b;obtain⟨t',rfl⟩:=a;exact rule i j t t' s _ _ c ⟨.int (g i j),H,I.tok _,⟨_,rfl⟩,q⟩
theorem MV 
  (rule:∀(i j:Int) (t u:Tok) (s:Shared) (Q:Value->Shared->Prop) (E:Value->Shared->Prop),Q (.int (g i j) s.toks) { s with toks:=s.toks+1 }->wpAny (model X.prog X.w) X.A (f (.int i t) (.int j u)) Q E s) :
  OpR X f (rI0 λi j=>.int (g i j)):=by
 intro pins s σ H x y v u Q I b a h;obtain⟨i,j,rfl,rfl,q⟩:=h;obtain⟨t,rfl⟩:=b;obtain⟨t',rfl⟩:=a;exact rule i j t t' s _ _ ⟨.int (g i j),H,I.tok _,⟨_,rfl⟩,q⟩
theorem KM{g:Int->Int->Bool}
  (rule:∀(i j:Int) (t u:Tok) (s:Shared) (Q:Value->Shared->Prop) (E:Value->Shared->Prop),Q (.bool (g i j)) s->wpAny (model X.prog X.w) X.A (f (.int i t) (.int j u)) Q E s) :
  OpR X f (rI0 λi j=>.bl (g i j)):=by
 intro pins s σ H x y v u Q I b a h;obtain⟨i,j,rfl,rfl,q⟩:=h;obtain⟨t,rfl⟩:=b;obtain⟨t',rfl⟩:=a;exact rule i j t t' s _ _ ⟨.bl (g i j),H,I,rfl,q⟩
def BK(i j:Int):Prop:=0<j/\j<1073741824
def F0(i j:Int):Prop:=0<=j/\j<=1000000/\i.natAbs<2 ^ 64
def CMul(i j:Int):Prop:=(-(2 ^ 64)<i/\i<2 ^ 64)∨(-(2 ^ 64)<j/\j<2 ^ 64)
theorem CMul.ok{i j:Int}(h:CMul i j):IntMulOk i j:=by
 rcases h with ⟨h1,h2⟩|⟨h1,h2⟩
 ·exact .of_left (intBits_le_64 h1 h2)
 ·exact .of_right (intBits_le_64 h1 h2)
theorem GD:OpR X (binaryOp .Add) (rI0 λi j=>.int (i+j)):=MV λ_ _ _ _ _ _ _ q=>add_int q
theorem GE:OpR X (binaryOp .Sub) (rI0 λi j=>.int (i - j)):=MV λ_ _ _ _ _ _ _ q=>sub_int q
theorem GG:OpR X (binaryOp .Mult) (rI CMul λi j=>.int (i*j)):=opI λ_ _ _ _ _ _ _ a q=>mul_int q a.ok
theorem BL:OpR X (binaryOp .FloorDiv) (rI BK λi j=>.int (i / j)):=opI λi j _ _ _ _ _ a q=>by
 have h1:(0:Int)<j:=a.1;have h2:j<1073741824:=a.2;exact floordiv_int (by nofun) (by rw[Int.fdiv_eq_ediv_of_nonneg i (by nofun)];exact q) (.inl (PyProof.noPylong_small (by nofun)))
theorem GH:OpR X (binaryOp .Mod) (rI (λ_ j=>0<j) λi j=>.int (i % j)):=opI λi j _ _ _ _ _ a q=>by
 have h1:(0:Int)<j:=a;exact mod_int' (by nofun) (by rw[Int.fmod_eq_emod_of_nonneg i (by nofun)];exact q)
theorem GI:OpR X (binaryOp .Pow) (rI F0 λi j=>.int (i ^ j.toNat)):=opI λ_ _ _ _ _ _ _ a q=>pow_int_small a.1 a.2.1 a.2.2 q
theorem unI{f:Value->Sem Value}{g:Int->Int}
  (rule:∀(i:Int) (t:Tok) (s:Shared) (Q:Value->Shared->Prop) (E:Value->Shared->Prop),Q (.int (g i) s.toks) { s with toks:=s.toks+1 }->wpAny (model X.prog X.w) X.A (f (.int i t)) Q E s) :
  UnR X f (rU λi=>.int (g i)):=by
 intro pins s σ H x v Q I a h;obtain⟨i,rfl,q⟩:=h;obtain⟨t,rfl⟩:=a;exact rule i t s _ _ ⟨.int (g i),H,I.tok _,⟨_,rfl⟩,q⟩
theorem GJ:UnR X (unaryOp .USub) (rU λi=>.int (-i)):=unI λ_ _ _ _ _ q=>neg_int q
end
def MW:V->V->Bool
 |.non,.non=>true|.non,.int _=>true|.int _,.non=>true|.non,.bl _=>true|.bl _,.non=>true|.non,.str _=>true|.str _,.non=>true
 |.int _,.int _=>true|.bl _,.bl _=>true|.str _,.str _=>true|.byt _,.byt _=>true
 |.int _,.str _=>true|.str _,.int _=>true|.bl _,.str _=>true|.str _,.bl _=>true
 |_,_=>false
def rEq:R2:=λx y H Q=>MW x y=true/\Q (.bl (decide (x=y))) H
def rNe:R2:=λx y H Q=>MW x y=true/\Q (.bl (!decide (x=y))) H
theorem rC{i j:Int}:decide (V.int i=V.int j)=(i==j):=by
 rw[abu,decide_eq_true_iff,beq_iff_eq];exact⟨λh=>by cases h;rfl,λh=>by rw[h]⟩
theorem Aj{i j:Bool}:decide (V.bl i=V.bl j)=(i==j):=by
 rw[abu,decide_eq_true_iff,beq_iff_eq];exact⟨λh=>by cases h;rfl,λh=>by rw[h]⟩
theorem rD{i j:Str}:decide (V.str i=V.str j)=(i==j):=by
 rw[abu,decide_eq_true_iff,beq_iff_eq];exact⟨λh=>by cases h;rfl,λh=>by rw[h]⟩
theorem rE{i j:Array UInt8}:decide (V.byt i=V.byt j)=(i.toList==j.toList):=by
 rw[abu,decide_eq_true_iff,beq_iff_eq];exact⟨λh=>by cases h;rfl,λh=>by rw[Array.toList_inj.mp h]⟩
section
variable  {a b:Expr} {tc:TE} 
theorem aO{Q:VK}{k a:Bool}(I:Inv X pins σ H s)(q:Q (.bl k) H)(e:k=a):EP X pins σ Q (.bool a) s:=by
 subst e;exact⟨.bl k,H,I,rfl,q⟩
theorem Ls:OpR X (compareOp .Eq) rEq:=by
 intro pins s σ H x y v u Q I b a h;obtain⟨hs,q⟩:=h
 cases x with
 | non=>
  cases b
  cases y with
  |non=>cases a;exact PySem.EqNone.eq_none_none (aO I q (by simp))
  |bl j=>cases a;exact PySem.EqNone.eq_none_bool (aO I q (by simp))
  |int j=>obtain ⟨t',rfl⟩:=a;exact PySem.EqNone.eq_none_int (aO I q (by simp))
  |str j=>obtain ⟨t',rfl⟩:=a;exact PySem.EqNone.eq_none_str (aO I q (by simp))
  |_=>exact absurd (show false=true from hs) abK
 | bl i=>
  cases b
  cases y with
  |non=>cases a;exact PySem.EqNone.eq_bool_none (aO I q (by simp))
  |bl j=>cases a;exact eq_bool (aO I q Aj)
  |str j=>obtain ⟨t',rfl⟩:=a;exact PySem.EqMixed.eq_bool_str (aO I q (by simp))
  |_=>exact absurd (show false=true from hs) abK
 | int i=>
  obtain⟨t,rfl⟩:=b
  cases y with
  |non=>cases a;exact PySem.EqNone.eq_int_none (aO I q (by simp))
  |int j=>obtain ⟨t',rfl⟩:=a;exact eq_int (aO I q rC)
  |str j=>obtain ⟨t',rfl⟩:=a;exact PySem.EqMixed.eq_int_str (aO I q (by simp))
  |_=>exact absurd (show false=true from hs) abK
 | str i=>
  obtain⟨t,rfl⟩:=b
  cases y with
  |non=>cases a;exact PySem.EqNone.eq_str_none (aO I q (by simp))
  |bl j=>cases a;exact PySem.EqMixed.eq_str_bool (aO I q (by simp))
  |int j=>obtain ⟨t',rfl⟩:=a;exact PySem.EqMixed.eq_str_int (aO I q (by simp))
  |str j=>obtain ⟨t',rfl⟩:=a;exact eq_str (aO I q rD)
  |_=>exact absurd (show false=true from hs) abK
 | byt i=>
  obtain⟨t,rfl⟩:=b
  cases y with
  |byt j=>obtain ⟨t',rfl⟩:=a;exact PySem.W.eq_bytes (aO I q rE)
  |_=>exact absurd (show false=true from hs) abK
 |_=>cases y <;> exact absurd (show false=true from hs) abK
theorem Lu:OpR X (compareOp .NotEq) rNe:=by
 intro pins s σ H x y v u Q I b a h;obtain⟨hs,q⟩:=h
 cases x with
 | non=>
  cases b
  cases y with
  |non=>cases a;exact PySem.EqNone.ne_none_none (aO I q (by simp))
  |bl j=>cases a;exact PySem.EqNone.ne_none_bool (aO I q (by simp))
  |int j=>obtain ⟨t',rfl⟩:=a;exact PySem.EqNone.ne_none_int (aO I q (by simp))
  |str j=>obtain ⟨t',rfl⟩:=a;exact PySem.EqNone.ne_none_str (aO I q (by simp))
  |_=>exact absurd (show false=true from hs) abK
 | bl i=>
  cases b
  cases y with
  |non=>cases a;exact PySem.EqNone.ne_bool_none (aO I q (by simp))
  |bl j=>cases a;exact ne_bool (aO I q (congrArg not Aj))
  |str j=>obtain ⟨t',rfl⟩:=a;exact PySem.EqMixed.ne_bool_str (aO I q (by simp))
  |_=>exact absurd (show false=true from hs) abK
 | int i=>
  obtain⟨t,rfl⟩:=b
  cases y with
  |non=>cases a;exact PySem.EqNone.ne_int_none (aO I q (by simp))
  |int j=>obtain ⟨t',rfl⟩:=a;exact ne_int (aO I q (congrArg not rC))
  |str j=>obtain ⟨t',rfl⟩:=a;exact PySem.EqMixed.ne_int_str (aO I q (by simp))
  |_=>exact absurd (show false=true from hs) abK
 | str i=>
  obtain⟨t,rfl⟩:=b
  cases y with
  |non=>cases a;exact PySem.EqNone.ne_str_none (aO I q (by simp))
  |bl j=>cases a;exact PySem.EqMixed.ne_str_bool (aO I q (by simp))
  |int j=>obtain ⟨t',rfl⟩:=a;exact PySem.EqMixed.ne_str_int (aO I q (by simp))
  |str j=>obtain ⟨t',rfl⟩:=a;exact ne_str (aO I q (congrArg not rD))
  |_=>exact absurd (show false=true from hs) abK
 | byt i=>
  obtain⟨t,rfl⟩:=b
  cases y with
  |byt j=>obtain ⟨t',rfl⟩:=a;exact PySem.W.ne_bytes (aO I q (congrArg not rE))
  |_=>exact absurd (show false=true from hs) abK
 |_=>cases y <;> exact absurd (show false=true from hs) abK
theorem Lv:OpR X (compareOp .Lt) (rI0 λi j=>.bl (decide (i<j))):=KM λ_ _ _ _ _ _ _ q=>lt_int q
theorem Lw:OpR X (compareOp .LtE) (rI0 λi j=>.bl (decide (i<=j))):=KM λ_ _ _ _ _ _ _ q=>le_int q
theorem Lx:OpR X (compareOp .Gt) (rI0 λi j=>.bl (decide (j<i))):=KM λ_ _ _ _ _ _ _ q=>gt_int q
theorem Ly:OpR X (compareOp .GtE) (rI0 λi j=>.bl (decide (j<=i))):=KM λ_ _ _ _ _ _ _ q=>ge_int q
theorem rF:OpR X (compareOp .In) (λx y H Q=>∃i j,x=.str i/\y=.str j/\Q (.bl (!(Builtin.Str.occurrences j i 0 j.length 1).isEmpty)) H):=by
 intro pins s σ H x y v u Q I b a h;obtain⟨i,j,rfl,rfl,q⟩:=h;obtain⟨t,rfl⟩:=b;obtain⟨t',rfl⟩:=a;exact in_str (aO I q rfl)
theorem GK:OpR X (compareOp .Is) (λx y H Q=>y=.non/\Q (.bl (decide (x=.non))) H):=by
 intro pins s σ H x y v u Q I a b h;obtain⟨rfl,q⟩:=h;cases b;refine is_none_gen (aO I q ?_)
 cases x <;> first
  |(cases a;rfl)
  |(obtain ⟨t,rfl⟩:=a;rfl)
theorem BM:OpR X (compareOp .IsNot) (λx y H Q=>y=.non/\Q (.bl (!decide (x=.non))) H):=by
 intro pins s σ H x y v u Q I a b h;obtain⟨rfl,q⟩:=h;cases b;refine isnot_none_gen (aO I q ?_)
 cases x <;> first
  |(cases a;rfl)
  |(obtain ⟨t,rfl⟩:=a;rfl)
theorem OpR.or(h:OpR X f r)(h':OpR X f r'):OpR X f (λx y H Q=>r x y H Q∨r' x y H Q):=by
 intro pins s σ H x y v u Q I b a q;rcases q with q|q
 ·exact h pins s σ H x y v u Q I b a q
 ·exact h' pins s σ H x y v u Q I b a q
theorem BN(f:OpR X (compareOp op) r)(j:PE X a ta)(i:PE X b tb)(g:behindInMarks op b=false):PE X (.Compare a [op] [b] pos) (tOp r ta tb):=by
 intro pins s σ H Q I h;exact wpAny_Compare1 (Lp j i I h λv u c x y H2 k e d q=>f pins c σ H2 x y v u Q k e d q) g
def rG(t:TE):TT:=λσ H Q=>t σ H λx H'=>∃k,x=.bl k/\Q k H'
theorem BP(o:OpR X (compareOp op) r)(t:PE X a ta)(q:PE X b tb)(p:behindInMarks op b=false):PT X (.Compare a [op] [b] pos) (rG (tOp r ta tb)):=by
 intro pins s σ H Q I h
 refine wpAny_isTrue_Compare1 (thn (t pins s σ H _ I h) λv f ⟨x,H1,B,j,n⟩=>thn (q pins f σ H1 _ B n) λu d ⟨y,H2,A,i,m⟩=>
  thn (o pins d σ H2 x y v u _ A j i m) λc D ⟨z,C,w,g,k,e,l⟩=>?_) p
 subst e;cases g;exact aaJ ⟨C,w,l⟩
def k6(r r':R2)(ta tb tc:TE):TE:=λσ H Q=>ta σ H λx H1=>tb σ H1 λy H2=>r x y H2 λz a=>∃k,z=.bl k /\
 (if k=true then tc σ a λb c=>r' y b c Q else Q (.bl false) a)
theorem wo(F:OpR X (compareOp op) r)(f:OpR X (compareOp op') r')(L:PE X a ta)(K:PE X b tb)(J:PE X c tc)
  (G:lastMarks [op,op'] [b,c]=false:=by with_unfolding_all rfl):PE X (.Compare a [op,op'] [b,c] pos) (k6 r r' ta tb tc):=by
 intro pins s σ H Q I h
 refine Compare_chain (thn (L pins s σ H _ I h) λv t ⟨x,H1,O,B,E⟩=>chain_link (thn (K pins t σ H1 _ O E) λu q ⟨y,H2,N,g,D⟩=>
  thn (F pins q σ H2 x y v u _ N B g D) λd p ⟨z,l,j,A,k,e,i⟩=>?_)) G
 subst e;cases A;refine aaJ ?_
 cases k with
 |false=>exact ite_ff ⟨.bl false,l,j,rfl,i⟩
 |true=>exact ite_tt (chain_last (thn (J pins p σ l _ j i) λn o ⟨m,P,M,w,C⟩=>f pins o σ P y m u n Q M g w C))
theorem g0(K:OpR X (compareOp op) r)(f:OpR X (compareOp op') r')(O:PE X a ta)(N:PE X b tb)(M:PE X c tc)
  (L:lastMarks [op,op'] [b,c]=false:=by with_unfolding_all rfl):PT X (.Compare a [op,op'] [b,c] pos) (rG (k6 r r' ta tb tc)):=by
 intro pins s σ H Q I h
 refine isTrue_chain (thn (O pins s σ H _ I h) λv t ⟨x,H1,V,C,G⟩=>test_link (thn (N pins t σ H1 _ V G) λu q ⟨y,H2,U,g,F⟩=>
  thn (K pins q σ H2 x y v u _ U C g F) λd p ⟨z,l,j,B,k,e,i⟩=>?_)) L
 subst e;cases B;refine aaJ ?_
 cases k with
 | false=>
  obtain⟨k',R,J⟩:=i;cases R;exact ite_ff ⟨l,j,J⟩
 | true=>
  refine ite_tt (test_last (thn (M pins p σ l _ j i) λn o ⟨m,Y,T,A,E⟩=>thn (f pins o σ Y y m u n _ T g A E) λd' s5 d=>?_));obtain⟨Z,W,S,w,k2,P,D⟩:=d;subst P;cases w;exact aaJ ⟨W,S,D⟩
def KN(K:Frag)(x:V)(H:Hp)(k:Bool):Prop:=
 match x with
 |.non=>k=false
 |.bl b=>k=b
 |.int i=>k=(i != 0)
 |.str y=>y.length<=sizeLine/\k=((y.length:Int) != 0)
 |.byt y=>y.size<=sizeLine/\k=((y.size:Int) != 0)
 |.ref p=>(∃xs,SqL K H p xs/\k=!xs.isEmpty)∨(∃xs,SqT K H p xs/\k=!xs.isEmpty)∨∃kvs,H p=some (.dK kvs)/\k=!kvs.isEmpty
 |_=>False
theorem pP{κ:Type}{kvs:List (κ×V)}{vs:List (κ×Value)}(r:KV kvs vs):(!vs.isEmpty)=!kvs.isEmpty:=by
 cases r <;> rfl
theorem jq{its:List Value}(r:Vals xs its):(!its.toArray.isEmpty)=!xs.isEmpty:=by
 cases r <;> simp
theorem ii:(sizeLine:Nat)<2 ^ 63:=by rw[sizeLine_eq];decide
theorem GL:TruR X (λx H Q=>∃k,KN X.K x H k/\Q k H):=by
 intro pins s σ H x v Q I d h;obtain⟨k,e,q⟩:=h;have n:=ii;have hs:sizeLine=16777216:=sizeLine_eq
 cases x with
 | non=>
  cases d;have a:k=false:=e;subst a;exact truthy_none ⟨H,I,q⟩
 | bl b=>
  cases d;have a:k=b:=e;subst a;exact aaJ ⟨H,I,q⟩
 | int i=>
  obtain⟨t,rfl⟩:=d;have a:k=(i != 0):=e;subst a;exact PySem.P.truthy_int ⟨H,I,q⟩
 | str y=>
  obtain⟨t,rfl⟩:=d;obtain⟨j,a⟩:y.length<=sizeLine/\k=((y.length:Int) != 0):=e;subst a;exact PySem.P.truthy_str (by nofun) ⟨H,I.tok _,q⟩
 | byt y=>
  obtain⟨t,rfl⟩:=d;obtain⟨j,a⟩:y.size<=sizeLine/\k=((y.size:Int) != 0):=e;subst a;exact PySem.W.truthy_bytes (by nofun) ⟨H,I.tok _,q⟩
 | ref p=>
  cases d;have a:(∃xs,SqL X.K H p xs/\k=!xs.isEmpty)∨(∃xs,SqT X.K H p xs/\k=!xs.isEmpty)∨∃kvs,H p=some (.dK kvs)/\k=!kvs.isEmpty:=e;rcases a with ⟨xs,f,a⟩|⟨xs,f,a⟩|⟨kvs,f,a⟩
  ·subst a;obtain⟨its,r,pl,g⟩:=I.list f;have c:=r.length;exact wpAny_truthy_list pl.isList (by simp only[List.size_toArray];nofun) ⟨H,I.tok _,by rw[jq r];exact q⟩
  ·subst a;obtain⟨its,r,pl,g⟩:=I.tuple f;have c:=r.length;exact truthy_tuple pl (by simp only[List.size_toArray];nofun) ⟨H,I.tok _,by rw[jq r];exact q⟩
  ·subst a;obtain⟨g,l,vs,r,m⟩:kvs.length<=sizeLine/\(p==sysModules)=false/\∃vs,KV kvs vs/\s.heap.DictOf (ay X.prog X.w) p vs:=I.hok p _ f;have c:kvs.length=vs.length:=aa4 r;exact wpAny_truthy_dict l m (by nofun) ⟨H,I.tok _,by rw[pP r];exact q⟩
 |_=>exact(show False from e).elim
theorem nH(f:PE X a ta)(e:∀whole,isTrue a X.env whole=(do let v ← whole;standAt a.pos;holding [v] (truthy v))) :
  PT X a (λσ H Q=>ta σ H λx H'=>∃k,KN X.K x H' k/\Q k H'):=by
 intro pins s σ H Q I h;exact isTrue_plain (thn (f pins s σ H _ I h) λv b ⟨x,H1,g,c,d⟩=>GL pins b σ H1 x v Q g c d) (e _)
theorem pQ:OpR X (binaryOp .Add) (λx y H Q=>∃i j,x=.str i/\y=.str j/\i.length+j.length<=sizeLine/\Q (.str (i++j)) H):=by
 intro pins s σ H x y v u Q I b a h;obtain⟨i,j,rfl,rfl,c,q⟩:=h;obtain⟨t,rfl⟩:=b;obtain⟨t',rfl⟩:=a;exact add_str (λt' tk=>⟨.str (i++j),H,I.tok _,⟨_,rfl⟩,q⟩) c
theorem dZ{x:V}(r:Vals [x] us):∃u,us=[u]/\RelV x u:=by
 cases r with
 |cons b a=>cases a;exact⟨_,rfl,b⟩
theorem wq{x:V}(r:Vals [x,y] us):∃u a,us=[u,a]/\RelV x u/\RelV y a:=by
 cases r with
 | cons e d=>
  cases d with
  |cons c b=>cases b;exact ⟨_,_,rfl,e,c⟩
theorem rH(b:X.calm=true):CallR X (.builtin "max") (λxs H Q=>∃i j,xs=[.int i,.int j]/\Q (.int (if j > i then j else i)) H):=by
 intro pins s σ H xs us Q I r h;obtain⟨i,j,rfl,q⟩:=h;obtain⟨u,c,rfl,⟨t,rfl⟩,⟨t',rfl⟩⟩:=wq r;refine max_two_ints (I.ok.hd b) λh' tk k=>⟨_,H,I.kept k,?_,q⟩;by_cases a:j > i
 ·rw[if_pos a,if_pos a];exact⟨_,rfl⟩
 ·rw[if_neg a,if_neg a];exact⟨_,rfl⟩
theorem rJ(b:X.calm=true):CallR X (.builtin "min") (λxs H Q=>∃i j,xs=[.int i,.int j]/\Q (.int (if j<i then j else i)) H):=by
 intro pins s σ H xs us Q I r h;obtain⟨i,j,rfl,q⟩:=h;obtain⟨u,c,rfl,⟨t,rfl⟩,⟨t',rfl⟩⟩:=wq r;refine min_two_ints (I.ok.hd b) λh' tk k=>⟨_,H,I.kept k,?_,q⟩;by_cases a:j<i
 ·rw[if_pos a,if_pos a];exact⟨_,rfl⟩
 ·rw[if_neg a,if_neg a];exact⟨_,rfl⟩
theorem rK:CallR X (.type "int") (λxs H Q=>(∃i,xs=[.int i]/\Q (.int i) H)∨∃k,xs=[.bl k]/\Q (.int (if k then 1 else 0)) H):=by
 intro pins s σ H xs us Q I r h;rcases h with ⟨i,rfl,q⟩|⟨k,rfl,q⟩
 ·obtain⟨u,rfl,t,rfl⟩:=dZ r;exact call_int_int ⟨.int i,H,I,⟨_,rfl⟩,q⟩
 ·obtain⟨u,rfl,a⟩:=dZ r;cases a;exact call_int_bool ⟨.int (if k then 1 else 0),H,I.tok _,⟨_,rfl⟩,q⟩
end
structure ObjM(h:Heap)(x dx C:Addr)(mA:Str->Option Value):Prop where
 obj:h.get? x=some (PySem.W.instObj C dx)
 ns:h.Ns1 dx mA
 ne:dx≠x
theorem rL(n:h.Ns1 dx mA):∃od,h.get? dx=some od/\∀name,PySem.W.lookIn name od=some (mA name):=by
 obtain⟨o,es,ep,d,hd,g,_,f⟩:=n;refine⟨o,d,λname=>?_⟩;have e:=f name;unfold nsFind findBy at e;rw[← Array.find?_toList] at e;unfold PySem.W.lookIn;rw[hd];dsimp only;split
 ·rename_i y q;rw[q] at e;exact congrArg some e
 ·rename_i q;rw[q] at e
  have a:es.toList.any (·.refKey)=false:=by
   rw[List.any_eq_false];intro y c;obtain⟨z,t,b⟩:=g y (Array.mem_toList_iff.mp c);simp[DictEntry.refKey,b]
  have i:¬es.toList.any (·.refKey)=true:=by rw[a];exact abK
  rw[if_neg i];exact congrArg some e
theorem ObjM.look{x:Addr}(I:ObjM h x dx C mA):∃od,PySem.W.InstAt h x (PySem.W.instObj C dx) C (some od)/\∀name,PySem.W.lookIn name od=some (mA name):=
 let ⟨od,a,b⟩:=rL I.ns
 ⟨od,⟨I.obj,rfl,rfl,a⟩,b⟩
section
variable      {K:Frag} {x f:Addr}   {v:Value}
theorem BQ{expr:Bool}(X:K.In s.heap)(I:ObjM s.heap x dx C mA)(d:PySem.W.plainGet K C name=true)(hh:PySem.W.hasDictIn K C=true)
  (e:PySem.W.findIn K (.ref C) name=some none) (b:mA name=some v) (a:PySem.W.handedIn v=true) (h:Q v { s with toks:=s.toks+1 }) :
  wpAny (model prog w) A (getAttr (.ref x) name expr) Q E s:=by
 obtain⟨od,J,c⟩:=I.look;exact PySem.W.get_value X J (PySem.W.plainGet_of d).1 (PySem.W.findObj_own hh e rfl (by rw[c,b])) a h
theorem wt{Q:Value×List Value->Shared->Prop}(X:K.In s.heap)(I:ObjM s.heap x dx C mA)(a:PySem.W.plainGet K C name=true)
  (e:PySem.W.findIn K (.ref C) name=some (some (.ref f))) (c:PySem.W.isFn K (.ref f)=true) (b:mA name=none) (h:Q (.ref f,[.ref x]) s) :
  wpAny (model prog w) A (getMethod (.ref x) name pl) Q E s:=by
 obtain⟨od,J,d⟩:=I.look;exact PySem.W.method_fn X J (PySem.W.plainGet_of a).1 (PySem.W.plainGet_of a).2 e (beq_iff_eq.mp c) (by show (PySem.W.lookIn name od).map (·.isSome)=some false;rw[d,b];rfl) h
theorem BR{ns:List Str}{Q:Unit->Shared->Prop}(X:K.In s.heap)(I:ObjM s.heap x dx C mA)
  (hs:PySem.W.findIn K (.ref C) "__setattr__" = some (some (.builtin "object.__setattr__"))) (m:PySem.W.plainOver K C=true) (l:PySem.W.takerIn K C name=some none) (hh:PySem.W.hasDictIn K C=true)
  (k:PySem.Within mA ns) (hsz:ns.length<=sizeLine)
  (h:∀h',ObjM h' x dx C (λy=>if y=name then some v else mA y)->Heap.SameBut dx s.heap h'->Q () { s with heap:=h',toks:=s.toks+2 }) :
  wpAny (model prog w) A (setAttr (.ref x) name v) Q E s:=by
 obtain⟨od,J,t⟩:=I.look;refine PySem.W.set_plain X J hs (PySem.W.osa_open (s:={ s with toks:=s.toks+1 }) (r:=none) X J m l λb=>?_);obtain⟨u,n,g⟩:=PySem.W.any_some hh;have j:s.heap.get? x=some ⟨.ref C,some dx,.plain,#[]⟩:=I.obj;refine aaa (aaf (aaa (aaa (wpAny_loadPart j (aaa (PySem.W.Looks.here (s:={ s with toks:=s.toks+1 }) (PySem.W.looks_clsIn X n) ?_))))));rw[g];refine aaf (a:=some dx) (aaa (aaf (aaa ?_)));refine wpAny_nsSet1 (s:={ s with toks:=s.toks+1 }) I.ns λh' d c=>?_;obtain⟨q,o,p,e,f,i⟩:=d.count (PySem.Within.cons name v k);refine aaa (wpAny_lookBehind e (by rw[f];exact pastItsLine_dict (aas i (by rw[abM];nofun))) ?_);exact aaf (h _ ⟨(c.2 _ (Ne.symm I.ne)).trans I.obj,d,I.ne⟩ c)
theorem wu{R:Result->Shared->Prop}{vs:List Value}(X:K.In s.heap)(a:PySem.W.makesIn K C=true)
  (hi:PySem.W.findIn K (.ref C) "__init__" = some (some (.ref f))) (b:PySem.W.typeIn K (.ref f)=some (.type "function"))
  (h:codeAny (model prog w) (A.under (.builtin "type.__call__" ⟨.ref C::vs,kw⟩)) (.call (.ref f) ⟨.ref (s.heap.objs.size+1)::vs,kw⟩) (PySem.W.InitBack (s.heap.objs.size+1) R)
   { s with heap:=(s.heap.push PySem.W.emptyDict).push (PySem.W.instObj C s.heap.objs.size) }) :
  codeAny (model prog w) A (.call (.ref C) ⟨vs,kw⟩) R s:=by
 obtain⟨hh,g,d,t,os⟩:=s;exact PySem.W.make_core (PySem.W.makes_of X a) (PySem.W.looks_findIn X hi) (λself=>PySem.W.bind_fn X self b) (.inl rfl) h
end
def fN(f:Str)(v:V):List (Str×V)->List (Str×V)
 |[]=>[(f,v)]
 |(g,x)::r=>if g=f then (g,v)::r else (g,x)::fN f v r
theorem ij(f g:Str)(v:V):∀fs:List (Str×V),(fN f v fs).lookup g=if g=f then some v else fs.lookup g
 | []=>by
  show List.lookup g [(f,v)]=_;by_cases h:g=f
  ·have a:(g==f)=true:=beq_iff_eq.mpr h;simp only[List.lookup,a,if_pos h]
  ·have a:(g==f)=false:=beq_eq_false_iff_ne.mpr h;simp only[List.lookup,a,if_neg h]
 | (k,x)::r=>by
  have c:=ij f g v r;rw[show fN f v ((k,x)::r)=(if k=f then (k,v)::r else (k,x)::fN f v r) from rfl];by_cases b:k=f
  ·rw[if_pos b];by_cases h:g=k
   ·have a:(g==k)=true:=beq_iff_eq.mpr h;simp only[List.lookup,a,if_pos (h.trans b)]
   ·have a:(g==k)=false:=beq_eq_false_iff_ne.mpr h;simp only[List.lookup,a,if_neg (λe:g=f=>h (e.trans b.symm))]
  ·rw[if_neg b];by_cases h:g=k
   ·have a:(g==k)=true:=beq_iff_eq.mpr h;simp only[List.lookup,a,if_neg (λe:g=f=>b (h.symm.trans e))]
   ·have a:(g==k)=false:=beq_eq_false_iff_ne.mpr h;simp only[List.lookup,a];exact c
theorem ik(f:Str)(v:V):∀fs:List (Str×V),f∈(fN f v fs).map (·.1)/\∀g,g∈fs.map (·.1)->g∈(fN f v fs).map (·.1)
 |[]=>⟨by simp[fN],λg h=>by simp at h⟩
 | (k,x)::r=>by
  obtain⟨c,b⟩:=ik f v r;rw[show fN f v ((k,x)::r)=(if k=f then (k,v)::r else (k,x)::fN f v r) from rfl];by_cases a:k=f
  ·rw[if_pos a];subst a;exact⟨by simp,λg h=>(by exists h)⟩
  ·rw[if_neg a];refine⟨?_,λg h=>?_⟩
   ·rw[abG];exact aae _ c
   ·rw[abG] at h ⊢;rcases abI.mp h with e|e
    ·exact abI.mpr (.inl e)
    ·exact aae _ (b g e)
theorem il(f:Str)(v:V):∀fs:List (Str×V),(fN f v fs).length<=fs.length+1
 |[]=>by simp[fN]
 | (k,x)::r=>by
  have b:=il f v r;rw[show fN f v ((k,x)::r)=(if k=f then (k,v)::r else (k,x)::fN f v r) from rfl];by_cases a:k=f
  ·rw[if_pos a,abM,abM];nofun
  ·rw[if_neg a,abM,abM];nofun
theorem RelO.some_of{o:Option Value}(r:RelO (some v) o):∃u,o=some u/\RelV v u:=by
 cases o with
 |none=>exact(show False from r).elim
 |some u=>exact⟨u,rfl,r⟩
theorem RelO.none_of{o:Option Value}(r:RelO none o):o=none:=by
 cases o with
 |none=>rfl
 |some u=>exact(show False from r).elim
theorem rM(r:RelV v u):PySem.W.handedIn u=true:=by
 cases v with
 |non=>cases (show u=Value.none from r);rfl
 |bl b=>cases (show u=Value.bool b from r);rfl
 |int i=>obtain⟨t,e⟩:=(show ∃t,u=Value.int i t from r);cases e;rfl
 |str x=>obtain⟨t,e⟩:=(show ∃t,u=Value.str x t from r);cases e;rfl
 |byt b=>obtain⟨t,e⟩:=(show ∃t,u=Value.bytes b t from r);cases e;rfl
 |flt b=>obtain⟨t,e⟩:=(show ∃t,u=Value.float b t from r);cases e;rfl
 |ref a=>cases (show u=Value.ref a from r);rfl
 |ty n=>cases (show u=Value.type n from r);rfl
section
variable      {fs fs':List (Str×V)}
theorem jU(hok:HOk P w H h)(e:H a=some (.ins C dx fs)):∃mA,ObjM h a dx C mA/\(∀f,RelO (fs.lookup f) (mA f))/\PySem.Within mA (fs.map (·.1))/\fs.length<=1000/\H dx=some (.own a):=by
 obtain⟨d,z,ne,ob,mA,n,r,q⟩:=(show ObjOk P w H h a (.ins C dx fs) from hok a _ e);exact⟨mA,⟨ob,n,ne⟩,r,q,z,d⟩
end
structure Cls(K:Frag)(C:Addr):Prop where
 pg:PySem.W.plainGet K C Str.empty=true
 hd:PySem.W.hasDictIn K C=true
 po:PySem.W.plainOver K C=true
 sa:PySem.W.findIn K (.ref C) "__setattr__" = some (some (.builtin "object.__setattr__"))
theorem Cls.get{K:Frag}(c:Cls K C)(f:Str):PySem.W.plainGet K C f=true:=c.pg
def NoAttr(K:Frag)(C:Addr)(f:Str):Prop:=PySem.W.findIn K (.ref C) f=some none
theorem NoAttr.taker{K:Frag}{f:Str}(n:NoAttr K C f):PySem.W.takerIn K C f=some none:=by
 unfold PySem.W.takerIn;rw[show PySem.W.findIn K (.ref C) f=some none from n];rfl
structure Meth(K:Frag)(C:Addr)(m:Str)(f:Addr):Prop where
 at_:PySem.W.findIn K (.ref C) m=some (some (.ref f))
 fn:PySem.W.isFn K (.ref f)=true
 kp:PySem.W.keepIn K (.ref f)=true
section
variable       {fs:List (Str×V)} {f:Str}   
theorem jr{b:Bool}(I:Inv X pins σ H s)(e:H a=some (.ins C dx fs))(c:Cls X.K C)(n:NoAttr X.K C f)(l:fs.lookup f=some v)
  (h:∀u s',Inv X pins σ H s'->RelV v u->Q u s'):wpAny (model X.prog X.w) A (getAttr (.ref a) f b) Q E s:=by
 obtain⟨mA,O,r,_,_,_⟩:=jU I.hok e;obtain⟨u,g,d⟩:=RelO.some_of (v:=v) (o:=mA f) (by rw[← l];exact r f);exact BQ I.kIn O (c.get f) c.hd n g (rM d) (h u _ (I.tok _) d)
theorem gm{g:Addr}{Q:Value×List Value->Shared->Prop}(I:Inv X pins σ H s)(e:H a=some (.ins C dx fs))(c:Cls X.K C)(k:Meth X.K C m g)(l:fs.lookup m=none)
  (h:Q (.ref g,[.ref a]) s):wpAny (model X.prog X.w) A (getMethod (.ref a) m pl) Q E s:=by
 obtain⟨mA,O,r,_,_,_⟩:=jU I.hok e;have b:mA m=none:=RelO.none_of (by rw[← l];exact r m);exact wt I.kIn O (c.get m) k.at_ k.fn b h
theorem js{Q:Unit->Shared->Prop}(I:Inv X pins σ H s)(e:H a=some (.ins C dx fs))(c:Cls X.K C)(n:NoAttr X.K C f)(v:fs.length<1000)(k:RelV y u)
  (h:∀s',Inv X pins σ (upd H a (.ins C dx (fN f y fs))) s'->Q () s'):wpAny (model X.prog X.w) A (setAttr (.ref a) f u) Q E s:=by
 obtain⟨mA,O,r,wi,_,i⟩:=jU I.hok e;have l:(fs.map (·.1)).length<=sizeLine:=by rw[abD,sizeLine_eq];nofun
 refine BR I.kIn O c.sa c.po n.taker c.hd wi l λh' d j=>h _ ?_;have hd:∃o,h'.get? dx=some o:=let ⟨o,_,_,t,_⟩:=d.ns;⟨o,t⟩;refine I.write (x:=a) (e:=dx) (by rw[e];exact True.intro) (.inr i) (λb q p z=>(j.2 b p).trans z) hd ?_;refine⟨by rw[aj O.ne];exact i,?_,O.ne,d.obj,_,d.ns,λg=>?_,λg m=>?_⟩
 ·have:=il f y fs;nofun
 ·show RelO ((fN f y fs).lookup g) (if g=f then some u else mA g);rw[ij];by_cases q:g=f
  ·rw[if_pos q,if_pos q];exact k
  ·rw[if_neg q,if_neg q];exact r g
 ·by_cases q:g=f
  ·rw[q];exact(ik f y fs).1
  ·refine(ik f y fs).2 g (wi g λz=>m ?_);show (if g=f then some u else mA g)=none;rw[if_neg q];exact z
theorem Inv.made(I:Inv X pins σ H s):Inv X pins σ (upd (upd H s.heap.objs.size (.own (s.heap.objs.size+1))) (s.heap.objs.size+1) (.ins C s.heap.objs.size []))
  { s with heap:=(s.heap.push PySem.W.emptyDict).push (PySem.W.instObj C s.heap.objs.size) }:=by
 have c:(s.heap.push PySem.W.emptyDict).get? s.heap.objs.size=some PySem.W.emptyDict:=Heap.get?_push_size s.heap rfl
 have i:((s.heap.push PySem.W.emptyDict).push (PySem.W.instObj C s.heap.objs.size)).get? (s.heap.objs.size+1)=some (PySem.W.instObj C s.heap.objs.size):=by
  have:=Heap.get?_push_size (s.heap.push PySem.W.emptyDict) (o:=PySem.W.instObj C s.heap.objs.size) rfl
  rwa [aa1] at this
 have g:(s.heap.push PySem.W.emptyDict).Ns s.heap.objs.size (λ_=>none):=⟨PySem.W.emptyDict,#[],_,c,rfl,(λe f=>absurd f (by simp)),λ_=>rfl⟩;have j:=I.laid (a:=s.heap.objs.size) (o:=.own (s.heap.objs.size+1)) (h':=s.heap.push PySem.W.emptyDict) (t':=s.toks) (λb u q=>Heap.get?_push_of_some _ q) (aac _) ⟨_,c⟩;refine j.laid (a:=s.heap.objs.size+1) (o:=.ins C s.heap.objs.size []) (t':=s.toks) (λb u q=>Heap.get?_push_of_some _ q) (Nat.le_of_eq (aa1 _ _)) ?_;have ne:s.heap.objs.size≠s.heap.objs.size+1:=aak (aaz _);refine⟨by rw[aj ne,af],aan _,ne,i,λ_=>none,(Heap.Ns1.of_empty g).at λo q=>Heap.get?_push_of_some _ q,λ_=>True.intro,λy d=>absurd rfl d⟩
theorem BU{env:Env}(b:attributeBase e f env (eval e env)=eval e env)
  (h:wpAny (model prog w) A (eval e env) (λo a=>wpAny (model prog w) A (getAttr o f true) Q E a) E s):wpAny (model prog w) A (eval (.Attribute e f pos) env) Q E s:=
 Attribute_any_ h (by rw[arm_eval_Attribute,b])
end
def wv(K:Frag)(ta:TE)(f:Str):TE:=λσ H Q=>ta σ H λx H1=>∃a C dx fs v,x=.ref a/\H1 a=some (.ins C dx fs)/\Cls K C/\NoAttr K C f/\fs.lookup f=some v/\Q v H1
def KO(K:Frag)(ta tv:TE)(f:Str):TS:=λD σ H=>tv σ H λy H1=>ta σ H1 λx H2=>∃a C dx fs,x=.ref a/\H2 a=some (.ins C dx fs)/\Cls K C/\NoAttr K C f/\fs.length<1000 /\
 D.nx σ (upd H2 a (.ins C dx (fN f y fs)))
def MX(X:Cx)(op:Operator)(rd:V->V->Hp->VK->Prop):Prop:=
 ∀(pins:List (Addr×Obj)) (s:Shared) (σ:St) (H:Hp) (x y:V) (u v:Value) (Q:VK),Inv X pins σ H s->RelV x u->RelV y v->rd x y H Q->wpAny (model X.prog X.w) X.A (inplaceOp op u v) (EP X pins σ Q) X.xe s
def mL(K:Frag)(ta tv:TE)(rd:V->V->Hp->VK->Prop)(f:Str):TS:=λD σ H=>ta σ H λx H1=>∃a C dx fs v,x=.ref a/\H1 a=some (.ins C dx fs)/\Cls K C/\NoAttr K C f/\fs.lookup f=some v /\
 tv σ H1 λy H2=>rd v y H2 λz c=>∃b fs',c a=some (.ins C b fs')/\fs'.length<1000/\D.nx σ (upd c a (.ins C b (fN f z fs')))
section
variable  {o value:Expr} {f:Str} {tpos:Pos} {tv:TE}
theorem GM(g:PE X e ta)(i:attributeBase e f X.env (eval e X.env)=eval e X.env):PE X (.Attribute e f pos) (wv X.K ta f):=by
 intro pins s σ H Q I h;refine BU i (thn (g pins s σ H _ I h) λu r y=>?_);obtain⟨x,H1,m,b,a,C,dx,fs,v,ex,j,c,n,l,q⟩:=y;subst ex;obtain rfl:u=Value.ref a:=b;exact jr m j c n l λo p k d=>⟨v,H1,k,d,q⟩
theorem GN(j:PE X o ta)(i:PE X value tv)(hs:swapsWith value (some (.Attribute o f pos')) pos.line X.env=pure false):PS X (.Assign [.Attribute o f pos'] value pos) (KO X.K ta tv f):=by
 intro pins s σ H D I h;refine plainObj_wpAny_Assign_Attribute (thn (i pins s σ H _ I h) λu b ⟨y,H1,r,d,q⟩=>thn (j pins b σ H1 _ r q) λov v z=>?_) hs;obtain⟨x,H2,p,e,a,C,dx,fs,ex,k,c,n,l,g⟩:=z;subst ex;obtain rfl:ov=Value.ref a:=e;exact js p k c n l d λt m=>⟨σ,_,m,g⟩
theorem rN{op:Operator}{rd:V->V->Hp->VK->Prop}(B:PE X o ta)(A:PE X value tv)(b:MX X op rd):PS X (.AugAssign (.Attribute o f tpos) op value pos) (mL X.K ta tv rd f):=by
 intro pins s σ H D I h;refine wpAny_AugAssign_AttributeAny (thn (B pins s σ H _ I h) λov Q N=>?_);obtain⟨x,H1,M,m,a,C,dx,fs,v,ex,E,c,n,l,q⟩:=N;subst ex;obtain rfl:ov=Value.ref a:=m;refine jr M E c n l λu i L p=>thn (A pins i σ H1 _ L q) λe g ⟨y,H2,K,k,t⟩=>thn (b pins g σ H2 v y u e _ K p k t) λN P O=>?_;obtain⟨z,R,J,j,F,fs',d,w,r⟩:=O;exact js J d c n w j λO G=>⟨σ,_,G,r⟩
def Lz:V->V->Hp->VK->Prop:=λx y H Q=>∃i j,x=.int i/\y=.int j/\Q (.int (i+j)) H
theorem GO:MX X .Add Lz:=by
 rintro pins s σ H x y u v Q I b a ⟨i,j,rfl,rfl,q⟩;obtain⟨t,rfl⟩:=(show ∃t,u=Value.int i t from b);obtain⟨t',rfl⟩:=(show ∃t',v=Value.int j t' from a);exact PyProof.Rows.iadd_int ⟨.int (i+j),H,I.tok _,⟨_,rfl⟩,q⟩
theorem BV{args:List Expr}(n:PE X e te)(I:Inv X pins σ H s)
  (h:te σ H λx H1=>∃a C dx fs g,x=.ref a/\H1 a=some (.ins C dx fs)/\Cls X.K C/\Meth X.K C m g/\fs.lookup m=none /\
   ∀b,Inv X pins σ H1 b->wpAny (model X.prog X.w) X.A (callWith pos (.ref g) [.ref a] (backTo pos (starEach args X.env)) (backToKw pos (keywordEach [] X.env))) Q X.xe b)
  (j:eval (.Call (.Attribute e m apos) args [] pos) X.env=(do
   let ov ← eval e X.env
   standAt apos.atName
   let (f,first) ← holding [ov] (getMethod ov m pl)
   callWith pos f first (backTo pos (starEach args X.env)) (backToKw pos (keywordEach [] X.env)))) :
  wpAny (model X.prog X.w) X.A (eval (.Call (.Attribute e m apos) args [] pos) X.env) Q X.xe s:=by
 refine PySem.W.methodCall_KW (pl:=pl) (thn (n pins s σ H _ I h) λu b y=>?_) j;obtain⟨x,H1,d,i,a,C,dx,fs,g,ex,o,c,k,l,q⟩:=y;subst ex;obtain rfl:u=Value.ref a:=i;exact gm d o c k l (q b d)
end
section
variable         {c:Value} {b:Bool}
inductive TyOf(K:Frag)(H:Hp):V->Value->Prop where
 |non:TyOf K H .non (.type "NoneType")
 |bl (x:Bool):TyOf K H (.bl x) (.type "bool")
 |int (i:Int):TyOf K H (.int i) (.type "int")
 |str (x:Str):TyOf K H (.str x) (.type "str")
 |flt (x:UInt64):TyOf K H (.flt x) (.type "float")
 |lst {a:Addr} {xs:List V} (e:H a=some (.lst xs)):TyOf K H (.ref a) (.type "list")
 |frz {a:Addr} {o:Obj} {xs:List V} (e:H a=some (.frz o (.lst xs))):TyOf K H (.ref a) (.type "list")
 |tup {a:Addr} {xs:List V} (e:H a=some (.tup xs)):TyOf K H (.ref a) (.type "tuple")
 |dK {a:Addr} {kvs:List (Key×V)} (e:H a=some (.dK kvs)):TyOf K H (.ref a) (.type "dict")
 |dT {a:Addr} {kvs:List (List Key×V)} (e:H a=some (.dT kvs)):TyOf K H (.ref a) (.type "dict")
 | ins {a C dx:Addr} {fs:List (Str×V)} (e:H a=some (.ins C dx fs)) (cl:Cls K C) (ha:PySem.W.findIn K (.ref C) "__class__" = some (some (.builtin "object.__class__")))
   (hn:PySem.W.specialIn K (.builtin "object.__class__") "__get__" = some (some (.builtin "getset_descriptor.__get__"))) (htk:PySem.W.takesIn K (.builtin "object.__class__")=some true)
   (hm:PySem.W.mroIn K C (.type "object")=some true):TyOf K H (.ref a) (.ref C)
theorem fO{x:V}{t:Value}(I:Inv X pins σ H s)(d:RelV x u)(ty:TyOf X.K H x t)(e:PySem.W.kitOne X.K t c=some b)(h:∀tk,Q (.bool b) { s with toks:=tk }) :
  wpAny (model X.prog X.w) A (call (.builtin "isinstance") [u,c]) Q E s:=by
 cases ty with
 |non=>cases (show u=Value.none from d);exact aaw PySem.W.kitx_none I.kIn True.intro e (λz=>nomatch z) h
 |bl y=>cases (show u=Value.bool y from d);exact aaw PySem.W.kitx_bool I.kIn True.intro e (λz=>nomatch z) h
 |int i=>obtain⟨t,q⟩:=(show ∃t,u=Value.int i t from d);cases q;exact aaw PySem.W.kitx_int I.kIn True.intro e (λz=>nomatch z) h
 |str y=>obtain⟨t,q⟩:=(show ∃t,u=Value.str y t from d);cases q;exact aaw PySem.W.kitx_str I.kIn True.intro e (λz=>nomatch z) h
 |flt y=>obtain⟨t,q⟩:=(show ∃t,u=Value.float y t from d);cases q;exact aaw PySem.W.kitx_float I.kIn True.intro e (λz=>nomatch z) h
 | @lst a xs f=>
  cases (show u=Value.ref a from d);obtain⟨_,_,n,_,h1⟩:=(show ObjOk X.prog X.w H s.heap a (.lst xs) from I.hok a _ f);exact aaw PySem.W.kitx_list I.kIn ⟨_,h1,rfl⟩ e (λz=>nomatch z) h
 | @frz a ob xs f=>
  cases (show u=Value.ref a from d);obtain⟨_,_,_,n,_,h1⟩:=(show ObjOk X.prog X.w H s.heap a (.frz ob (.lst xs)) from I.hok a _ f);exact aaw PySem.W.kitx_list I.kIn ⟨_,h1,rfl⟩ e (λz=>nomatch z) h
 | @tup a xs f=>
  cases (show u=Value.ref a from d);obtain⟨_,_,_,p⟩:=(show ObjOk X.prog X.w H s.heap a (.tup xs) from I.hok a _ f);obtain⟨o,h1,h2,_⟩:=p;exact aaw PySem.W.kitx_tuple I.kIn ⟨o,h1,h2⟩ e (λz=>nomatch z) h
 | @dK a kvs f=>
  cases (show u=Value.ref a from d);obtain⟨_,_,vs,_,p⟩:=(show ObjOk X.prog X.w H s.heap a (.dK kvs) from I.hok a _ f);obtain⟨o,es,ep,h1,h2,_⟩:=p;exact aaw abw I.kIn ⟨o,h1,h2.1⟩ e (λz=>nomatch z) h
 | @dT a kvs f=>
  cases (show u=Value.ref a from d);obtain⟨_,_,xs,_,o,es,ep,h1,h2,_⟩:=(show ObjOk X.prog X.w H s.heap a (.dT kvs) from I.hok a _ f);exact aaw abw I.kIn ⟨o,h1,h2.1⟩ e (λz=>nomatch z) h
 | @ins a C dx fs f cl l j g k=>
  cases (show u=Value.ref a from d);obtain⟨mA,O,_⟩:=jU I.hok f;obtain⟨od,J,_⟩:=O.look;exact aaw (PySem.W.kitx_own (cl.get _) cl.hd l j g k) I.kIn J e (λz=>nomatch z) h
end
structure Room(k:Nat)(A:Around):Prop where
 hd:A.handled=none
 dp:A.depth+3*k+5<recursionLimit
 un:A.units+16*k+200<cLine
 gd:A.guards=some []
theorem Room.mono(r:Room k A)(h:j<=k):Room j A:=⟨r.hd,by have:=r.dp;nofun,by have:=r.un;nofun,r.gd⟩
theorem Room.deeper(r:Room (k+1) A)(env:Env):Room k (A.deeper env):=
 ⟨r.hd,by have:=r.dp;show A.depth+1+3*k+5<_;nofun,by have:=r.un;show A.units+3+16*k+200<_;nofun,r.gd⟩
theorem pR :(A.under (.builtin "type.__call__" ⟨.ref C::us,kw⟩)).depth=A.depth+1:=by
 first|rfl|simp[Around.under,Code.weight,Code.isCreation,Code.isGuard,Code.isCaller,Code.frames,Code.isFrame,guardIds]
theorem pT :(A.under (.builtin "type.__call__" ⟨.ref C::us,kw⟩)).units=A.units+1:=by
 first|rfl|simp[Around.under,Code.cUnits,Code.frames,Code.isFrame]
theorem Room.make(r:Room (k+1) A)(C:Addr)(us:List Value)(kw:List (Str×Value)):Room k (A.under (.builtin "type.__call__" ⟨.ref C::us,kw⟩)):=
 ⟨r.hd,by have:=r.dp;rw[pR];nofun,by have:=r.un;rw[pT];nofun,r.gd⟩
theorem Room.depth(r:Room k A):A.depth<recursionLimit:=by have:=r.dp;nofun
theorem Room.units(r:Room k A):A.units+64<cLine:=by have:=r.un;nofun
def jc:TA:=λ_ H Q=>Q [] H
def c7(ta:TE)(a:TA):TA:=λσ H Q=>ta σ H λx H1=>a σ H1 λxs H2=>Q (x::xs) H2
theorem GP:PA X [] jc:=λ_ _ _ _ H Q I h=>Calls.spliced_nil ⟨[],H,I,.nil,h⟩
theorem BX(g:PE X e te)(hr:PA X es t)(hs:autoParam (starEach (e::es) X.env=(false,eval e X.env)::starEach es X.env) L2.aR._auto_1):PA X (e::es) (c7 te t):=by
 intro pos pins s σ H Q I h;rw[hs];show wpAny _ _ (spliced ((false,eval e X.env)::backTo pos (starEach es X.env))) _ _ s;refine Calls.spliced_cons (thn (g pins s σ H _ I h) λu a y=>?_);obtain⟨x,H1,j,c,f⟩:=y;exact thn (hr pos pins a σ H1 _ j f) λus k ⟨xs,H2,i,b,d⟩=>⟨x::xs,H2,i,.cons c b,d⟩
def KP(t:TA):TE:=λσ H Q=>t σ H λxs H1=>xs.length<=sizeLine/\∀p,H1 p=none->Q (.ref p) (upd H1 p (.tup xs))
def KQ(t:TA):TE:=λσ H Q=>t σ H λxs H1=>xs.length<=sizeLine/\∀p,H1 p=none->Q (.ref p) (upd H1 p (.lst xs))
theorem GQ{d}(h:PA X es t):PE X (.Tuple es d pos) (KP t):=by
 intro pins s σ H Q I f;refine wpAny_Tuple_spliced (thn (h pos pins s σ H _ I f) λus a ⟨xs,H1,c,r,z,q⟩=>⟨by rw[← r.length];exact z,?_⟩);have g:H1 a.heap.objs.size=none:=c.hok.fresh (aac _);refine⟨.ref a.heap.objs.size,upd H1 a.heap.objs.size (.tup xs),c.laid (t':=a.toks) (λb u e=>Heap.get?_push_of_some _ e) (aac _) ?_,rfl,q _ g⟩;exact⟨z,us,r,⟨_,Heap.get?_push_size _ rfl,rfl,_,rfl⟩⟩
theorem GR(h:PA X es t):PE X (.List es pos) (KQ t):=by
 intro pins s σ H Q I d;refine wpAny_List_spliced (thn (h pos pins s σ H _ I d) λus a ⟨xs,H1,c,r,z,q⟩=>⟨by rw[← r.length];exact z,?_⟩);have f:H1 a.heap.objs.size=none:=c.hok.fresh (aac _);refine⟨.ref a.heap.objs.size,upd H1 a.heap.objs.size (.lst xs),c.laid (t':=a.toks) (λb u e=>Heap.get?_push_of_some _ e) (aac _) ?_,rfl,q _ f⟩;exact⟨z,us,0,r,Heap.get?_push_size _ rfl⟩
abbrev Sp:=List V->Hp->VK->XK->Prop
variable{sp:Sp}
abbrev CXT:=List Env->Hp->Shared->XK->Value->Shared->Prop
variable{CX:CXT}
structure Env0(P:Program)(w:World)(K:Frag)(mg:Str->Option Value)(base:Heap)(A:Around)(outer:List Env)(s:Shared)(H:Hp):Prop where
 frames:A.frames=some outer
 mod:Mod K mg base
 bs:∀b o,base.get? b=some o->s.heap.get? b=some o/\H b=none
 bsz:base.objs.size<=s.heap.objs.size
 funs:s.heap.FunFrames base outer
 frf:∀b∈frs outer,H b=none
 hok:HOk P w H s.heap
 bare:AllBare s.gens
def CE(outer:List Env)(P:Program)(w:World)(H:Hp)(s:Shared)(Q:VK)(u:Value)(s':Shared):Prop:=
 ∃v H',s'.os=s.os/\AllBare s'.gens/\Un (frs outer) [] H H' s.heap s'.heap/\HOk P w H' s'.heap/\RelV v u/\Q v H'
def CR(CX:CXT)(outer:List Env)(P:Program)(w:World)(H:Hp)(s:Shared)(Q:VK)(E:XK)(r:Result)(s':Shared):Prop:=
 match r with
 |.ok (.ret u)=>CE outer P w H s Q u s'
 |.ok _=>False
 |.error e=>CX outer H s E e s'
structure FnOk(P:Program)(w:World)(K:Frag)(mg:Str->Option Value)(base:Heap)(CX:CXT)(k:Nat)(f:Addr)(fd:FuncData)(ps:List Str)(sp:Sp):Prop where
 len:∀vs H Q E,sp vs H Q E->vs.length=ps.length
 run:∀(A:Around) (outer:List Env) (s:Shared) (H:Hp) (args:Args) (us:List Value) (vs:List V) (Q:VK) (E:XK),Room k A->Env0 P w K mg base A outer s H->BindsTo s fd args (ps.zip us)->Vals vs us->sp vs H Q E ->
  codeAny (model P w) A (.call (.ref f) args) (CR CX outer P w H s Q E) s
theorem FnOk.imp{K:Frag}{f:Addr}{a:Sp}(F:FnOk P w K mg base CX k f fd ps sp)
  (h:∀vs H Q E,a vs H Q E->sp vs H Q E):FnOk P w K mg base CX k f fd ps a:=
 ⟨λvs H Q E q=>F.len vs H Q E (h _ _ _ _ q),λA outer s H args us vs Q E hr c d b hs=>F.run A outer s H args us vs Q E hr c d b (h _ _ _ _ hs)⟩
theorem Env0.make{K:Frag}(e:Env0 P w K mg base A outer s H)(C:Addr)(us:List Value)(kw:List (Str×Value)) :
  Env0 P w K mg base (A.under (.builtin "type.__call__" ⟨.ref C::us,kw⟩)) outer s H:=⟨by first|exact e.frames|(simpa [Around.under,Code.envs,Code.isFrame,pushEnvs] using e.frames),e.mod,e.bs,e.bsz,e.funs,e.frf,e.hok,e.bare⟩
theorem Inv.env0(I:Inv X pins σ H s):Env0 X.prog X.w X.K X.mg X.base X.A X.stack s H:=
 ⟨I.ok.frames,I.ok.mod,I.bs,aas I.ok.bsz I.sz,I.stack,I.stkFree,I.hok,I.bare⟩
theorem Inv.after{Q:VK}(I:Inv X pins σ H s)(h:CE X.stack X.prog X.w H s Q u s'):EP X pins σ Q u s':=by
 obtain⟨v,H',os,bare,un,hok,r,q⟩:=h;obtain⟨hh,g,d,t,a⟩:=s';obtain rfl:a=s.os:=os;exact⟨v,H',I.call (h':=hh) (g':=g) (d':=d) (t':=t) (ch:=[]) un hok bare (λb z=>absurd z (by simp)),r,q⟩
def pU(sp:Sp)(dvs:List V)(E:XK)(t:TA):TE:=λσ H Q=>t σ H λvs H1=>sp (vs++dvs) H1 Q E
def pV(C:Addr)(m:Str)(sp:Sp)(dvs:List V)(E:XK)(ta:TE)(t:TA):TE:=λσ H Q=>ta σ H λx H1=>∃a dx fs,x=.ref a/\H1 a=some (.ins C dx fs)/\fs.lookup m=none /\
 t σ H1 λvs H2=>sp (x::(vs++dvs)) H2 Q E
def BY(C:Addr)(sp:Sp)(dvs:List V)(E:XK)(t:TA):TE:=λσ H Q=>t σ H λvs H1=>∀x dx,H1 x=none->H1 dx=none->dx≠x ->
 sp (.ref x::(vs++dvs)) (upd (upd H1 dx (.own x)) x (.ins C dx [])) (λv H2=>v=.non/\Q (.ref x) H2) E
def Binds(K:Frag)(fd:FuncData)(ps:List Str)(ds:List Value):Prop:=
 ∀(s:Shared) (us:List Value),K.In s.heap->(us++ds).length=ps.length->BindsTo s fd ⟨us,[]⟩ (ps.zip (us++ds))
theorem Binds.all{K:Frag}(h:∀us:List Value,us.length=ps.length->bindArgs fd ⟨us,[]⟩=pure (ps.zip us)):Binds K fd ps []:=λs us _ a=>by
 rw[aam] at a ⊢;exact .of_eq (h us a)
def im(CX:CXT)(X:Cx)(E:XK):Prop:=∀(pins:List (Addr×Obj)) (σ:St) (H:Hp) (s:Shared) (e:Value) (s':Shared),Inv X pins σ H s->CX X.stack H s E e s'->X.xe e s'
section
variable    {f:Addr}    {dvs:List V} {ds:List Value} {E:XK}   {o:Expr}   
theorem rO{Q:VK}(F:FnOk X.prog X.w X.K X.mg X.base CX k f fd ps sp)(hr:Room k X.A)(d:Binds X.K fd ps ds)(hd:Vals dvs ds)(hx:im CX X E)
  (I:Inv X pins σ H s) (r:Vals vs us) (h:sp (vs++dvs) H Q E):wpAny (model X.prog X.w) X.A (call (.ref f) us) (EP X pins σ Q) X.xe s:=by
 have b:Vals (vs++dvs) (us++ds):=r.append hd;have c:(us++ds).length=ps.length:=by rw[← b.length];exact F.len _ _ _ _ h
 refine wpAny_call (codeAny_mono (F.run X.A X.stack s H ⟨us,[]⟩ (us++ds) (vs++dvs) Q E hr I.env0 (d s us I.kIn c) b h) λr s' a=>?_)
 cases r with
 |error e=>exact hx pins σ H s e s' I a
 | ok fl=>
  cases fl with
  |ret u=>exact I.after a
  |next=>exact False.elim a
  |brk=>exact False.elim a
  |cont=>exact False.elim a
theorem BZ(F:FnOk X.prog X.w X.K X.mg X.base CX k f fd ps sp)(hr:Room k X.A)(i:Gl X x)(d:X.mg x=some (.ref f))(g:PySem.W.keepIn X.K (.ref f)=true)(l:Binds X.K fd ps ds)(hd:Vals dvs ds)(hx:im CX X E)
  (m:PA X (e::es) t) (b:autoParam ((x==("__debug__" : Str))=false) L2.aD._auto_1) (j:autoParam (starEach (e::es) X.env=(false,eval e X.env)::starEach es X.env) L2.aR._auto_1) (a:autoParam ((backTo pos (starEach es X.env)).any (·.1)=false) L2.aR._auto_1) :
  PE X (.Call (.Name x p) (e::es) [] pos) (pU sp dvs E t):=by
 intro pins s σ H Q I h;refine wpAny_Call_Name_kw (mJ I i d ?_ b);refine PySem.W.callWith_K (h₀:=X.base) I.ok.mod.kin g (thn (m pos pins s σ H _ I h) λus n ⟨vs,H1,c,r,q⟩=>⟨c.kIn,?_⟩) j a;exact rO F hr l hd hx c r q
theorem B6(y:PE X o ta)(c:Cls X.K C)(g:Meth X.K C m f)(F:FnOk X.prog X.w X.K X.mg X.base CX k f fd ps sp)(hr:Room k X.A)(z:Binds X.K fd ps ds)(hd:Vals dvs ds)(hx:im CX X E)(A:PA X (e::es) t)
  (b:autoParam (starEach (e::es) X.env=(false,eval e X.env)::starEach es X.env) L2.aR._auto_1) (d:autoParam ((backTo pos (starEach es X.env)).any (·.1)=false) L2.aR._auto_1)
  (w:autoParam (eval (.Call (.Attribute o m apos) (e::es) [] pos) X.env=(do
   let ov ← eval o X.env
   standAt apos.atName
   let (f,first) ← holding [ov] (getMethod ov m pl)
   callWith pos f first (backTo pos (starEach (e::es) X.env)) (backToKw pos (keywordEach [] X.env)))) L2.aR._auto_1) :
  PE X (.Call (.Attribute o m apos) (e::es) [] pos) (pV C m sp dvs E ta t):=by
 intro pins s σ H Q I h;refine PySem.W.methodCall_KW (pl:=pl) (thn (y pins s σ H _ I h) λu n G=>?_) w;obtain⟨x,H1,j,p,a,dx,fs,ex,B,l,q⟩:=G;subst ex;obtain rfl:u=Value.ref a:=p;refine gm j B c g l ?_;refine PySem.W.callWith_K (first:=[.ref a]) (h₀:=X.base) I.ok.mod.kin g.kp (thn (A pos pins n σ H1 _ j q) λus D ⟨vs,H2,i,r,v⟩=>⟨i.kIn,?_⟩) b d;exact rO (us:=.ref a::us) (vs:=.ref a::vs) F hr z hd hx i (.cons rfl r) v
theorem ww(i:PE X o ta)(c:Cls X.K C)(d:Meth X.K C m f)(F:FnOk X.prog X.w X.K X.mg X.base CX k f fd ps sp)(hr:Room k X.A)(j:Binds X.K fd ps ds)(hd:Vals dvs ds)(hx:im CX X E)
  (g:autoParam (eval (.Call (.Attribute o m apos) [] [] pos) X.env=(do
   let ov ← eval o X.env
   standAt apos.atName
   let (f,first) ← holding [ov] (getMethod ov m pl)
   callWith pos f first (backTo pos (starEach [] X.env)) (backToKw pos (keywordEach [] X.env)))) L2.aR._auto_1) :
  PE X (.Call (.Attribute o m apos) [] [] pos) (pV C m sp dvs E ta jc):=by
 intro pins s σ H Q I h;refine PySem.W.methodCall_KW (pl:=pl) (thn (i pins s σ H _ I h) λu p y=>?_) g;obtain⟨x,H1,b,e,a,dx,fs,ex,n,l,q⟩:=y;subst ex;obtain rfl:u=Value.ref a:=e;refine gm b n c d l ?_;exact PySem.W.callWith_K0 (first:=[.ref a]) b.kIn d.kp (rO (us:=[.ref a]) (vs:=[.ref a]) F hr j hd hx b (.cons rfl .nil) q)
structure Mk(K:Frag)(C f:Addr):Prop where
 makes:PySem.W.makesIn K C=true
 init:PySem.W.findIn K (.ref C) "__init__" = some (some (.ref f))
 fn:PySem.W.isFn K (.ref f)=true
 kp:PySem.W.keepIn K (.ref C)=true
theorem wx{Q:VK}(M:Mk X.K C f)(F:FnOk X.prog X.w X.K X.mg X.base CX k f fd ps sp)(hr:Room (k+1) X.A)(l:Binds X.K fd ps ds)(hd:Vals dvs ds)
  (hx:im CX X E) (I:Inv X pins σ H s) (r:Vals vs us)
  (h:∀x dx,H x=none->H dx=none->dx≠x->sp (.ref x::(vs++dvs)) (upd (upd H dx (.own x)) x (.ins C dx [])) (λv H2=>v=.non/\Q (.ref x) H2) E) :
  wpAny (model X.prog X.w) X.A (call (.ref C) us) (EP X pins σ Q) X.xe s:=by
 have d:=h (s.heap.objs.size+1) s.heap.objs.size (I.hok.fresh (aaG _)) (I.hok.fresh (aac _)) (aak (aaz _));have b:=Inv.made (C:=C) I;have c:Vals (V.ref (s.heap.objs.size+1)::(vs++dvs)) (Value.ref (s.heap.objs.size+1)::(us++ds)):=.cons rfl (r.append hd)
 have j:(Value.ref (s.heap.objs.size+1)::us++ds).length=ps.length:=by
  have e:=c.length;rw[F.len _ _ _ _ d] at e;exact e.symm
 refine wpAny_call (wu (f:=f) I.kIn M.makes M.init (beq_iff_eq.mp M.fn) (codeAny_mono (F.run _ X.stack _ _ ⟨Value.ref (s.heap.objs.size+1)::us,[]⟩ (Value.ref (s.heap.objs.size+1)::(us++ds)) _ _ E (hr.make C us [])
  (b.env0.make C us []) (l _ (Value.ref (s.heap.objs.size+1)::us) b.kIn j) c d) λr s' a=>?_))
 cases r with
 |error e=>exact hx pins σ _ _ e s' b a
 | ok fl=>
  cases fl with
  | ret u=>
   obtain⟨v,H',n,g,m,i⟩:=b.after a;subst m;exact⟨g,⟨V.ref (s.heap.objs.size+1),H',n,rfl,i⟩⟩
  |next=>exact False.elim a
  |brk=>exact False.elim a
  |cont=>exact False.elim a
theorem B7(M:Mk X.K C f)(F:FnOk X.prog X.w X.K X.mg X.base CX k f fd ps sp)(hr:Room (k+1) X.A)(g:Gl X x)(d:X.mg x=some (.ref C))(j:Binds X.K fd ps ds)(hd:Vals dvs ds)(hx:im CX X E)
  (l:PA X (e::es) t) (b:autoParam ((x==("__debug__" : Str))=false) L2.aD._auto_1) (i:autoParam (starEach (e::es) X.env=(false,eval e X.env)::starEach es X.env) L2.aR._auto_1) (a:autoParam ((backTo pos (starEach es X.env)).any (·.1)=false) L2.aR._auto_1) :
  PE X (.Call (.Name x p) (e::es) [] pos) (BY C sp dvs E t):=by
 intro pins s σ H Q I h;refine wpAny_Call_Name_kw (mJ I g d ?_ b);refine PySem.W.callWith_K (h₀:=X.base) I.ok.mod.kin M.kp (thn (l pos pins s σ H _ I h) λus m ⟨vs,H1,c,r,q⟩=>⟨c.kIn,?_⟩) i a;exact wx M F hr j hd hx c r q
end
section
variable    {f:Addr}  {ks:List Str}  {E:XK}  {kpos:Pos} {o:Expr}  {kws:List Keyword}  {tk:TA} {nm:Option Str}
variable {g:List Value->List Value->List Value} {gV:List V->List V->List V}
end
structure FnScope(N P:List Str)(sc:Scope):Prop where
 kind:sc.kind=.function
 co:sc.isCoroutine=false
 gen:sc.isGenerator=false
 nd:N.Nodup
 pre:N.take P.length=P
 par:∀x∈P,sc.names.lookup x=some .local∨sc.names.lookup x=some .cell
 nofree:∀y∈sc.names,y.2≠.free
theorem k7{kindOf:Str->Option NameKind}{x:Str}:∀{binds:List (Str×Value)} {m:Str->Option Value},(∀v,(x,v)∉binds)->bindL kindOf binds m x=m x
 |[],_,_=>rfl
 | (n,v)::r,m,h=>by
  unfold bindL;rw[k7 λw a=>h w (aae _ a)];split
  ·have:x≠n:=by rintro rfl;exact h v aab
   simp[this]
  ·rfl
theorem k9{kindOf:Str->Option NameKind}{x:Str}:∀{binds:List (Str×Value)} {m:Str->Option Value},(∀v,(x,v)∉binds)->bindC kindOf binds m x=m x
 |[],_,_=>rfl
 | (n,v)::r,m,h=>by
  unfold bindC;rw[k9 λw a=>h w (aae _ a)];split
  ·rfl
  ·have:x≠n:=by rintro rfl;exact h v aab
   simp[this]
theorem la{kindOf:Str->Option NameKind}{x:Str}{v:Value}:∀{P:List Str} {vs:List Value} {i:Nat} {m:Str->Option Value},P.Nodup->P[i]?=some x->vs[i]?=some v->kindOf x=some .local ->
  bindL kindOf (P.zip vs) m x=some v
 |[],_,_,_,_,h,_,_=>by simp at h
 |_::_,[],_,_,_,_,h,_=>by simp at h
 | p::P,w::vs,0,m,nd,h1,h2,a=>by
  simp at h1 h2;subst h1;subst h2;show bindL kindOf ((p,w)::P.zip vs) m p=_;unfold bindL;rw[k7 λv b=>(List.nodup_cons.mp nd).1 (List.of_mem_zip b).1,if_pos a];simp
 | p::P,w::vs,i+1,m,nd,h1,h2,a=>by
  show bindL kindOf ((p,w)::P.zip vs) m x=_;unfold bindL;exact la (i:=i) (abL.mp nd).2 (by exists h1) (by exists h2) a
theorem lb{kindOf:Str->Option NameKind}{x:Str}{v:Value}:∀{P:List Str} {vs:List Value} {i:Nat} {m:Str->Option Value},P.Nodup->P[i]?=some x->vs[i]?=some v->kindOf x≠some .local ->
  bindC kindOf (P.zip vs) m x=some v
 |[],_,_,_,_,h,_,_=>by simp at h
 |_::_,[],_,_,_,_,h,_=>by simp at h
 | p::P,w::vs,0,m,nd,h1,h2,a=>by
  simp at h1 h2;subst h1;subst h2;show bindC kindOf ((p,w)::P.zip vs) m p=_;unfold bindC;rw[k9 λv b=>(List.nodup_cons.mp nd).1 (List.of_mem_zip b).1,if_neg a];simp
 | p::P,w::vs,i+1,m,nd,h1,h2,a=>by
  show bindC kindOf ((p,w)::P.zip vs) m x=_;unfold bindC;exact lb (i:=i) (abL.mp nd).2 (by exists h1) (by exists h2) a
def start(N:List Str)(vs:List V):St:=vs.map some++List.replicate (N.length - vs.length) none
def rP(CX:CXT)(P:Program)(w:World)(K:Frag)(mg:Str->Option Value)(base:Heap)(N:List Str)(qual:Str)(scope:Scope)(f:Addr)(cd:Value)(A:Around)(outer:List Env)(s:Shared)(H:Hp)(E:XK):Cx where
 prog:=P
 w:=w
 K:=K
 mg:=mg
 base:=base
 A:=A.deeper (envOfC qual scope s.heap.objs.size f cd)
 N:=N
 s₀:=s
 H₀:=H
 env:=envOfC qual scope s.heap.objs.size f cd
 outer:=outer
 stack:=envOfC qual scope s.heap.objs.size f cd::outer
 ex:=[]
 calm:=true
 fn:=λ_=>true
 pn:=[]
 xe:=λe s'=>wpAny (model P w) (A.deeper (envOfC qual scope s.heap.objs.size f cd)) (leaving (envOfC qual scope s.heap.objs.size f cd) e) (λ_ s''=>CX outer H s E e s'') (λe' s''=>CX outer H s E e' s'') s'
theorem nI{a:Scope}(h:a.names.lookup x=some .cell):∃c,(cellsFrom n a.names []).lookup x=some c:=by
 have q:=PySem.W.cellsFrom_some a.names n [] (.inl h);exact abV.mp q
theorem rQ{K:Frag}{f:Addr}{o:Value}{t:Shared}{E:XK}
  (S:FnScope N ps scope) (hd:A.handled=none) (d:Env0 P w K mg base A outer s H) (I:vs.length=ps.length) (r:Vals vs us)
  (x:InCallC s s.heap.objs.size (bindL (envOfC qual scope s.heap.objs.size f o).kindOf (ps.zip us) λ_=>none) (cellsFrom (s.heap.objs.size+1) scope.names []) (bindC (envOfC qual scope s.heap.objs.size f o).kindOf (ps.zip us) λ_=>none) t) :
  Inv (rP CX P w K mg base N qual scope f o A outer s H E) [] (start N vs) H t:=by
 have F:ps.length<=N.length:=by have:=congrArg List.length S.pre;rw[aah] at this;nofun
 obtain⟨h1,tk,rfl,C⟩:=x.done;have g:∀b:Addr,b∉(rP CX P w K mg base N qual scope f o A outer s H E).ex:=λb z=>absurd (show b∈([]:List Addr) from z) (by simp)
 refine⟨⟨d.mod,S.kind,rfl,rfl,aac _,λy z c h1 h2=>?_,λy j=>?_,λy c _ h=>?_,λ_=>hd,Around.frames_deeper d.frames,.inr ⟨rfl,rfl⟩,λb z=>absurd z (g b),d.bs,d.bsz,λb _ _=>g b,λb z=>absurd z (g b),d.funs,d.frf⟩,
  rfl,d.bare,Un.kept C,⟨_,x.toInCall.ns,λi y v h1 h2 J=>?_⟩,λy c h=>⟨_,x.cell y c h⟩,d.hok.fresh (aac _),λy c h=>?_,λp m=>absurd (show p∈([]:List (Addr×Obj)) from m) (by simp),d.hok.kept C,?_⟩
 ·exact name_of_addr x.apart (aaS h1) (aaS h2)
 ·have j:scope.names.lookup y=some .cell∨scope.names.lookup y=some .free:=j;rcases j with j|j
  ·exact nI j
  ·exact absurd rfl (S.nofree _ (aaS j))
 ·exact ab4 (x.above y c (aaS h))
 ·have hi:i<vs.length:=by
   unfold start at h2;by_cases hi:i<vs.length
   ·exact hi
   ·rw[List.getElem?_append_right (by exists hi)] at h2;rw[List.getElem?_replicate] at h2;split at h2 <;> cases h2
  have G:vs[i]?=some v:=by
   unfold start at h2;rw[List.getElem?_append_left (by exists hi),List.getElem?_map] at h2
   cases e:vs[i]? with
   |none=>rw[e] at h2;cases h2
   |some a=>rw[e] at h2;cases h2;rfl
  obtain⟨u,B,D⟩:=r.get G
  have m:ps[i]?=some y:=by
   rw[← S.pre,List.getElem?_take_of_lt (by nofun)];exact h1
  have l:ps.Nodup:=by rw[← S.pre];exact S.nd.sublist (aaZ _ _)
  refine⟨u,D,?_⟩;rcases S.par y (List.mem_of_getElem? m) with k|k
  ·exact .inl ⟨k,la l m B k⟩
  ·obtain⟨c,e⟩:=nI (n:=s.heap.objs.size+1) k;refine .inr ⟨.inl k,c,e,?_⟩;have q:=x.cell y c e;rw[lb l m B (by show scope.names.lookup y≠_;rw[k];decide)] at q;exact q
 ·exact d.hok.fresh (ab4 (x.above y c (aaS h)))
 ·unfold start;show _=N.length;rw[abH,abD,aaV];nofun
theorem LA{K:Frag}{f:Addr}{a:Arguments}{B kV doc pm cdv ct oc:Value}{an od:Option Addr}
  {osl:Array (Option Value)}   (lk:K.lookup f=some ⟨oc,od,.func (PySem.W.fnOf name qual a body scope B kV doc pm an cdv ct),osl⟩) (p:PySem.W.codeIn K cdv qual=true) (S:FnScope N ps scope)
  (len:∀vs H Q E,sp vs H Q E->vs.length=ps.length)
  (g:∀(A:Around) (outer:List Env) (s:Shared) (H:Hp) (vs:List V) (Q:VK) (E:XK),Room k (A.deeper (envOfC qual scope s.heap.objs.size f cdv))->sp vs H Q E ->
   ∃t,PSs (rP CX P w K mg base N qual scope f cdv A outer s H E) body t/\t { nx:=λ_ H'=>Q .non H',rt:=Q } (start N vs) H) :
  FnOk P w K mg base CX (k+1) f (PySem.W.fnOf name qual a body scope B kV doc pm an cdv ct) ps sp:=by
 refine⟨len,λA outer s H args us vs Q E hr j O r i=>?_⟩;have L:=len _ _ _ _ i;have C:K.In s.heap:=j.mod.kin.keeps λb o e=>(j.bs b o e).1;have m:s.heap.NoLimit:=j.mod.nolimit.keeps λb o e=>(j.bs b o e).1
 have d:∀y∈ps.zip us,scope.names.lookup y.1=some .local∨(scope.names.lookup y.1=some .cell/\((cellsFrom (s.heap.objs.size+1) scope.names []).lookup y.1).isSome=true):=fun⟨n,v⟩ D=>by
  rcases S.par n (List.of_mem_zip D).1 with q|q
  ·exact .inl q
  ·exact .inr ⟨q,PySem.W.cellsFrom_some _ _ _ (.inl q)⟩
 refine codeAny_call_function hr.depth (C _ _ lk) rfl S.co S.gen rfl (PySem.W.codeRec_of C p) (O _ _ _ _ ?_);refine wpAny_newFunctionEnv_cells S.kind d λenv M z x=>?_;subst M;refine⟨m.keeps x.toInCall.keep,codeAny_func ?_⟩;obtain⟨t,F,G⟩:=g A outer s H vs Q E (hr.deeper _) i;have I:Inv (rP CX P w K mg base N qual scope f cdv A outer s H E) [] (start N vs) H z:=rQ S hr.hd j L r x;refine abp (F [] z (start N vs) H _ I G) (λfl s' hs=>?_) λe s' hs=>hs
 have fin:∀{c:St} {H':Hp} {v:V} {u:Value},Inv (rP CX P w K mg base N qual scope f cdv A outer s H E) [] c H' s'->RelV v u->Q v H'->CE outer P w H s Q u s':=
  fun {c H' v u} J l q=>⟨v,H',J.os,J.bare,J.base,J.hok,l,q⟩
 cases fl with
 | ret u=>
  obtain⟨v,c,H',J,l,q⟩:=hs;exact fin J l q
 | next=>
  obtain⟨c,H',J,q⟩:=hs;exact fin (v:=V.non) (u:=Value.none) J rfl q
 | brk=>
  obtain⟨_,_,_,q⟩:=hs;exact False.elim q
 | cont=>
  obtain⟨_,_,_,q⟩:=hs;exact False.elim q
section
variable       {id T:String} {r:List V->Hp->VK->Prop}
def tCB(r:List V->Hp->VK->Prop)(t:TA):TE:=λσ H Q=>t σ H λvs H1=>r vs H1 Q
theorem wy(m:CallR X (.builtin id) r)(k:Gl X x)(j:X.mg x=none)(g:bootBuiltins x=some (.builtin id))(n:PA X (e::es) t)(i:autoParam (x ≠ "__name__") L2.aD._auto_1)(b:autoParam ((x==("__debug__" : Str))=false) L2.aD._auto_1)
  (l:autoParam (starEach (e::es) X.env=(false,eval e X.env)::starEach es X.env) L2.aR._auto_1) (a:autoParam ((backTo pos (starEach es X.env)).any (·.1)=false) L2.aR._auto_1):PE X (.Call (.Name x p) (e::es) [] pos) (tCB r t):=by
 intro pins s σ H Q I h;refine wpAny_Call_Name_kw (kY I k j g ?_ i b);exact PyProof.Rows.callWith_builtin1 (thn (n pos pins s σ H _ I h) λus c ⟨vs,H1,o,d,f⟩=>m pins c σ H1 vs us Q o d f) l a
theorem rR(m:CallR X (.type T) r)(k:Gl X x)(j:X.mg x=none)(g:bootBuiltins x=some (.type T))(n:PA X (e::es) t)(i:autoParam (x ≠ "__name__") L2.aD._auto_1)(b:autoParam ((x==("__debug__" : Str))=false) L2.aD._auto_1)
  (l:autoParam (starEach (e::es) X.env=(false,eval e X.env)::starEach es X.env) L2.aR._auto_1) (a:autoParam ((backTo pos (starEach es X.env)).any (·.1)=false) L2.aR._auto_1):PE X (.Call (.Name x p) (e::es) [] pos) (tCB r t):=by
 intro pins s σ H Q I h;refine wpAny_Call_Name_kw (kY I k j g ?_ i b);exact abC (thn (n pos pins s σ H _ I h) λus c ⟨vs,H1,o,d,f⟩=>m pins c σ H1 vs us Q o d f) l a
end
end L2
namespace HT
open PySem PyProof.Rows
variable{t sl:Addr}{Q:Value->Shared->Prop}{vl vu:Value}{lo hi:Option Int}
section
open PySem.SeqAt
open PySem.AutoSeq1 (wpAny_loadPart')
open PySem.MeetsSeq PySem.MeetsSeq2 PySem.MeetsSeq3
end
section
variable {prog:Program} {w:World} {A:Around} {E:Value->Shared->Prop} {s:Shared}
theorem cat_tup{b:Addr}{vs ws:List Value}(p:IsTup s.heap t vs.toArray)(q:IsTup s.heap b ws.toArray)(k:vs≠[])
  (h1:ws=[]->Q (.ref t) s) (h2:ws≠[]->Q (.ref s.heap.objs.size) { s with heap:=s.heap.push { cls:=.type "tuple", data:=.seq (vs++ws).toArray } })
  (hsz:vs.length+ws.length<=sizeLine):wpAny (model prog w) A (binaryOp .Add (.ref t) (.ref b)) Q E s:=by
 obtain⟨⟨cls,m,data,sl⟩,j,l,n,hd⟩:=id p;obtain⟨⟨o,g,data2,c⟩,a,f,n2,d⟩:=id q;simp only at l hd f d;subst l hd f d;have e:vs.toArray++ws.toArray=(vs++ws).toArray:=by simp
 by_cases i:ws=[]
 ·exact concat_meets ⟨_,j,rfl⟩ ⟨_,a,rfl⟩ noFill_tuple_add seq_tuple_add PySem.F.slot_tuple_add PySem.F.entry_tuple_add (PySem.F.args_tuple_add_2 _ _)
   (tuple_addW1 t b vs.toArray ws.toArray n n2 m g sl c (by exists k) (by simp[i])) ⟨j,a,h1 i⟩
 ·refine concat_meets ⟨_,j,rfl⟩ ⟨_,a,rfl⟩ noFill_tuple_add seq_tuple_add PySem.F.slot_tuple_add PySem.F.entry_tuple_add (PySem.F.args_tuple_add_2 _ _)
   (tuple_addW2 t b vs.toArray ws.toArray n n2 m g sl c (by exists k) (by exists i) (by rw[abN,abN];exact hsz)) ⟨j,a,?_⟩
  rw[e];exact h2 i
def sIx(n d:Nat):Option Int->Nat
 |none=>d
 |some v=>if v<0 then (v+(n:Int)).toNat else min v.toNat n
theorem sIx_none(n d:Nat):sIx n d none=d:=rfl
theorem sIx_nat(n d k:Nat):sIx n d (some (k:Int))=min k n:=by
 show (if (k:Int)<0 then ((k:Int)+(n:Int)).toNat else min (k:Int).toNat n)=min k n;rw[if_neg (by nofun),Int.toNat_natCast]
theorem sIx_le(n d:Nat)(hd:d<=n)(o:Option Int):sIx n d o<=n:=by
 cases o with
 |none=>exact hd
 | some v=>
  show (if v<0 then (v+(n:Int)).toNat else min v.toNat n)<=n;by_cases a:v<0
  ·rw[if_pos a];nofun
  ·rw[if_neg a];exact Nat.min_le_right _ _
theorem clip_eq(v:Int)(n d:Nat):(if v<0 then max (v+(n:Int)) 0 else min v (n:Int))=((sIx n d (some v):Nat):Int):=by
 show (if v<0 then max (v+(n:Int)) 0 else min v (n:Int))=(((if v<0 then (v+(n:Int)).toNat else min v.toNat n):Nat):Int);by_cases a:v<0
 ·simp only[if_pos a];nofun
 ·simp only[if_neg a];nofun
theorem pW(lo hi:Option Int)(n:Nat):Builtin.Slice.sliceAdjust lo hi 1 (n:Int)=(((sIx n 0 lo:Nat):Int),((sIx n n hi:Nat):Int)):=by
 have h1:¬((1:Int)<0):=by nofun
 unfold Builtin.Slice.sliceAdjust;simp only[h1,if_false];refine Prod.ext ?_ ?_
 ·cases lo with
  |none=>rfl
  |some v=>exact clip_eq v n 0
 ·cases hi with
  |none=>rfl
  |some v=>exact clip_eq v n n
theorem pX(i j:Nat):Builtin.Slice.slicePlaces (i:Int) (j:Int) 1=j - i:=by
 unfold Builtin.Slice.slicePlaces;have h1:(1:Int) > 0:=by nofun
 simp only[h1,if_true,Int.ediv_one];split <;> nofun
theorem jt{v:Value}{o:Option Int}{Q:Option Int->Shared->Prop}(p:IsPart v o)(h:Q o s):wpAny (model prog w) A (Builtin.Slice.slicePartIndex v) Q E s:=by
 cases p with
 |none=>exact slicePart_none h
 |int i t=>exact slicePart_int h
theorem dR{n:Nat}{Q:Int×Int×Nat->Shared->Prop}(hs:s.heap.IsSliceOf sl vl vu .none)(pl:IsPart vl lo)(c:IsPart vu hi)
  (h:Q (((sIx n 0 lo:Nat):Int),1,sIx n n hi - sIx n 0 lo) s):wpAny (model prog w) A (Builtin.Slice.sliceApplied (.ref sl) (pure (n:Int))) Q E s:=by
 obtain⟨os,a,d,b⟩:=id hs;unfold Builtin.Slice.sliceApplied Builtin.Slice.sliceFields;refine aaa (aaa (wpAny_field a b (x:=vl) rfl (aaa (wpAny_field a b (x:=vu) rfl (aaa (wpAny_field a b (x:=.none) rfl (aaf ?_)))))));refine aaa (slicePart_none ?_);show wpAny _ _ (if ((1:Int)==0)=true then _ else _) _ _ s;rw[if_neg (by decide)];refine aaa (jt pl (aaa (jt c (aaa (aaf ?_)))));show wpAny _ _ (match Builtin.Slice.sliceAdjust lo hi 1 (n:Int) with|(lo,hi)=>pure (lo,(1:Int),Builtin.Slice.slicePlaces lo hi 1)) _ _ s;rw[pW lo hi n];show wpAny _ _ (pure (((sIx n 0 lo:Nat):Int),(1:Int),Builtin.Slice.slicePlaces ((sIx n 0 lo:Nat):Int) ((sIx n n hi:Nat):Int) 1)) _ _ s;rw[pX];exact aaf h
theorem wz(xs:Array Value)(i k:Nat):((List.range k).filterMap λ(m:Nat)=>xs[((i:Int)+(m:Int)*1).toNat]?).toArray=((xs.toList.drop i).take k).toArray:=by
 have e:(λ(m:Nat)=>xs[((i:Int)+(m:Int)*1).toNat]?)=λm=>xs[i+m]?:=by
  funext m
  have:((i:Int)+(m:Int)*1).toNat=i+m:=by nofun
  rw[this]
 rw[e];have:=pick_run xs i k;rw[List.filterMap_map] at this;have a:((λx=>xs[x]?) ∘ λx=>i+x)=λm=>xs[i+m]?:=rfl;rw[a] at this;rw[this]
theorem getItem_tuple_cut{items:Array Value}(b:IsTup s.heap t items)(hs:s.heap.IsSliceOf sl vl vu .none)(pl:IsPart vl lo)(g:IsPart vu hi)
  (i:¬(sIx items.size 0 lo=0/\sIx items.size items.size hi=items.size))
  (h:Q (.ref s.heap.objs.size) { s with heap:=s.heap.push { cls:=.type "tuple", data:=.seq ((items.toList.drop (sIx items.size 0 lo)).take (sIx items.size items.size hi - sIx items.size 0 lo)).toArray } })
  (hsz:items.size<=sizeLine):wpAny (model prog w) A (getItem (.ref t) (.ref sl)) Q E s:=by
 have a:sizeOk (.seq ((items.toList.drop (sIx items.size 0 lo)).take (sIx items.size items.size hi - sIx items.size 0 lo)).toArray):=by
  show ((items.toList.drop (sIx items.size 0 lo)).take (sIx items.size items.size hi - sIx items.size 0 lo)).toArray.size<=sizeLine;rw[abN,aah,aaB,abO];omega
 have n:sIx items.size items.size hi<=items.size:=sIx_le _ _ (aac _) hi;obtain⟨os,c,e,j⟩:=id hs;have f:s.TypeIs (.ref sl) "slice" := ⟨os,c,e⟩;unfold getItem
 try with_reducible refine aaM ?_
 first|refine aaa (aaf ?_)|skip
 refine aaa (wpAny_sequenceKey b.typeIs (by decide) ?_)
 refine aaa (wpAny_callSpecial?_slot (name:=Str.ofString "__getitem__") b.typeIs aa2
  (aaA aa2 b.typeIs entry_tuple_getitem ?_ (args_tuple_getitem _ _)))
 show wpAny _ _ (Builtin.Tuple.tupleItemsOf (.ref t) >>= _) _ _ s;refine aaa (tupleItemsOf_ b ?_);refine aaa (wpAny_typeOf f ?_);rw[if_pos (by decide)];refine aaa (dR hs pl g ?_)
 have d:¬((((sIx items.size 0 lo:Nat):Int)==0&&(1:Int)==1&&(sIx items.size items.size hi - sIx items.size 0 lo)==items.size)=true):=by
  intro q;rw[abR,abR] at q;have l:((sIx items.size 0 lo:Nat):Int)=0:=eq_of_beq q.1.1;have k:sIx items.size items.size hi - sIx items.size 0 lo=items.size:=eq_of_beq q.2;exact i ⟨by omega,by omega⟩
 show wpAny _ _ (if (((sIx items.size 0 lo:Nat):Int)==0&&(1:Int)==1&&(sIx items.size items.size hi - sIx items.size 0 lo)==items.size)=true then _ else _) _ _ s;rw[if_neg d,wz]
 first
  |exact aaa (m:=Builtin.Tuple.tupleExact _) (aaK (aaf ⟨_,rfl,aaf h⟩) a)
  |exact aaa (m:=Builtin.Tuple.tupleExact _) (aaK (aaa (aaf (aaf ⟨_,rfl,aaf h⟩))) a)
  |exact aaa (aaa (m:=Builtin.Tuple.tupleExact _) (aaK (aaf (aaf ⟨_,rfl,aaf h⟩)) a))
  |exact aaa (aaa (m:=Builtin.Tuple.tupleExact _) (aaK (aaf ⟨_,rfl,aaf h⟩) a))
end
end HT
namespace L2
open PySem PySem.Spec PyProof.Rows
variable{X:Cx}{e:Expr}{pos apos cpos:Pos}{r:V->Option Int->Option Int->Hp->VK->Prop}{xs:List (List Key×Addr×Value)}{us its its':List Value}{n j t':Nat}{i:Int}{α:Type}{pins:List (Addr×Obj)}{σ:St}{H H':Hp}{s:Shared}{ys:List V}{A:Around}{y x d:V}{u v:Value}{T:String}{o:Option V}{b a:Addr}{w:World}{E Q:Value->Shared->Prop}{P:Program}{k:Key}{kvs:List (List Key×V)}{h':Heap}{td ty tv:TE}{trs:List (TE×TE)}
abbrev TO:=St->Hp->(Option Int->Hp->Prop)->Prop
def PO(X:Cx)(e:Option Expr)(t:TO):Prop:=
 ∀(pins:List (Addr×Obj)) (s:Shared) (σ:St) (H:Hp) (Q:Option Int->Hp->Prop),Inv X pins σ H s->t σ H Q ->
  wpAny (model X.prog X.w) X.A (evalPart e X.env) (λu s'=>∃o H',Inv X pins σ H' s'/\IsPart u o/\Q o H') X.xe s
def mM:TO:=λ_ H Q=>Q none H
def B8(t:TE):TO:=λσ H Q=>t σ H λx H1=>∃i,x=.int i/\Q (some i) H1
section
variable   {te:TE} {lo hi:Option Expr} {tl th:TO} {p2:Pos}
theorem B9:PO X none mM:=by
 intro pins s σ H Q I h;rw[evalPart_none];exact aaf ⟨none,H,I,.none,h⟩
theorem Ca(h:PE X e te):PO X (some e) (B8 te):=by
 intro pins s σ H Q I c;rw[evalPart_some];refine thn (h pins s σ H _ I c) λu f y=>?_;obtain⟨x,H1,d,a,b⟩:=y;obtain⟨i,rfl,q⟩:=b;obtain⟨t,rfl⟩:=a;exact⟨some i,H1,d,.int i t,q⟩
def SlR(X:Cx)(r:V->Option Int->Option Int->Hp->VK->Prop):Prop:=
 ∀(pins:List (Addr×Obj)) (s:Shared) (σ:St) (H:Hp) (x:V) (v vl vu:Value) (lo hi:Option Int) (sl:Addr) (Q:VK),Inv X pins σ H s->RelV x v->s.heap.IsSliceOf sl vl vu .none->IsPart vl lo->IsPart vu hi->r x lo hi H Q ->
  ∃T id,typeLookup (.type T) "__getitem__" = pure (some (.builtin id))/\s.TypeIs v T/\wpAny (model X.prog X.w) X.A (getItem v (.ref sl)) (EP X pins σ Q) X.xe s
theorem SlR.or{r':V->Option Int->Option Int->Hp->VK->Prop}(h:SlR X r)(h':SlR X r'):SlR X (λx lo hi H Q=>r x lo hi H Q∨r' x lo hi H Q):=by
 intro pins s σ H x v vl vu lo hi sl Q I a hs pl b q;rcases q with q|q
 ·exact h pins s σ H x v vl vu lo hi sl Q I a hs pl b q
 ·exact h' pins s σ H x v vl vu lo hi sl Q I a hs pl b q
def tSl(r:V->Option Int->Option Int->Hp->VK->Prop)(te:TE)(tl th:TO):TE:=λσ H Q=>te σ H λx H1=>tl σ H1 λl H2=>th σ H2 λu a=>r x l u a Q
theorem nJ(hr:SlR X r)(w:PE X e te)(p:PO X lo tl)(n:PO X hi th):PE X (.Subscript e (.Slice lo hi none p2) pos) (tSl r te tl th):=by
 intro pins s σ H Q I h;refine Subscript_ (thn (w pins s σ H _ I h) λv f b=>?_);obtain⟨x,H1,C,g,k⟩:=b;refine wpAny_Slice (thn (p pins f σ H1 _ C k) λvl d ⟨l,H2,B,pl,j⟩=>thn (n pins d σ H2 _ B j) λvu a D=>?_);obtain⟨u,c,A,m,i⟩:=D;rw[evalPart_none];refine aaf ?_;have z:Inv X pins σ c { a with heap:=a.heap.push { cls:=.type "slice", data:=.fields #[vl,vu,.none] } }:=A.kept (t':=a.toks) λb ob q=>Heap.get?_push_of_some _ q;obtain⟨T,id,y,o,t⟩:=hr pins { a with heap:=a.heap.push { cls:=.type "slice", data:=.fields #[vl,vu,.none] } } σ c x v vl vu l u a.heap.objs.size Q z g (Heap.IsSliceOf.new ..) pl m i;show wpAny (model X.prog X.w) X.A (subscriptTail e (.Slice lo hi none p2) v (.ref a.heap.objs.size)) (EP X pins σ Q) X.xe { a with heap:=a.heap.push { cls:=.type "slice", data:=.fields #[vl,vu,.none] } };exact tail_any (ops:=[.ref a.heap.objs.size,v]) o y t (by with_unfolding_all rfl)
def F6(xs:List V)(lo hi:Option Int):List V:=(xs.drop (HT.sIx xs.length 0 lo)).take (HT.sIx xs.length xs.length hi - HT.sIx xs.length 0 lo)
theorem io(xs:List V)(lo hi:Option Int):(F6 xs lo hi).length<=xs.length:=by
 unfold F6;rw[aah,aaB];nofun
def MY(K:Frag):V->Option Int->Option Int->Hp->VK->Prop:=λx lo hi H Q=>∃a xs,x=.ref a/\SqT K H a xs /\
 ¬(HT.sIx xs.length 0 lo=0/\HT.sIx xs.length xs.length hi=xs.length)/\∀p,H p=none->Q (.ref p) (upd H p (.tup (F6 xs lo hi)))
theorem GS:SlR X (MY X.K):=by
 intro pins s σ H x v vl vu lo hi sl Q I f hs pl g h;obtain⟨a,xs,rfl,i,j,q⟩:=h;cases f;obtain⟨its,r,e,d⟩:=I.tuple i;have c:its.toArray.size=xs.length:=by rw[abN];exact r.length.symm
 refine⟨"tuple", _,PyProof.Rows.slot_tuple_getitem.lookup,e.typeIs,?_⟩;refine HT.getItem_tuple_cut e hs pl g (by rw[c];exact j) ?_ (by rw[c];exact d);rw[c];refine⟨.ref s.heap.objs.size,_,I.laid (t':=s.toks) (o:=.tup (F6 xs lo hi)) (λb ob q=>Heap.get?_push_of_some _ q) (aac _) ?_,rfl,q _ (I.hok.fresh (aac _))⟩;exact⟨aas (io xs lo hi) d,_,(r.drop (HT.sIx xs.length 0 lo)).take (HT.sIx xs.length xs.length hi - HT.sIx xs.length 0 lo),IsTup.new _ _⟩
def GT(K:Frag):R2:=λx y H Q=>∃a b xs ys,x=.ref a/\y=.ref b/\SqT K H a xs/\SqT K H b ys/\xs≠[]/\xs.length+ys.length<=sizeLine /\
 (ys=[]->Q (.ref a) H)/\(ys≠[]->∀p,H p=none->Q (.ref p) (upd H p (.tup (xs++ys))))
theorem Vals.nil_iff{xs:List V}(r:Vals xs us):us=[]↔xs=[]:=by
 cases r with
 |nil=>simp
 |cons _ _=>simp
theorem Cb:OpR X (binaryOp .Add) (GT X.K):=by
 intro pins s σ H x y v u Q I i g h;obtain⟨a,b,xs,ys,rfl,rfl,p,n,m,f,k,j⟩:=h;cases i;cases g;obtain⟨its,d,l,_⟩:=I.tuple p;obtain⟨e,c,p2,_⟩:=I.tuple n;refine HT.cat_tup l p2 (λz=>m (d.nil_iff.mp z)) (λz=>⟨.ref a,H,I,rfl,k (c.nil_iff.mp z)⟩) (λz=>?_) (by rw[← d.length,← c.length];exact f);refine⟨.ref s.heap.objs.size,_,I.laid (t':=s.toks) (o:=.tup (xs++ys)) (λb ob q=>Heap.get?_push_of_some _ q) (aac _) ?_,rfl,j (λw=>z (c.nil_iff.mpr w)) _ (I.hok.fresh (aac _))⟩;exact⟨by rw[abH];exact f,_,d.append c,IsTup.new _ _⟩
end
def ixN(n:Nat)(i:Int):Option Nat:=if 0<=i then (if i<n then some i.toNat else none) else if -(n:Int)<=i then some (i+n).toNat else none
def atI{α:Type}(xs:List α)(i:Int):Option α:=(ixN xs.length i).bind λj=>xs[j]?
theorem rS(h:ixN n i=some j):seqIndex? i n=some j/\j<n/\-(n:Int)<=i/\i<n:=by
 unfold ixN at h;by_cases a:0<=i
 ·rw[if_pos a] at h;by_cases h1:i<n
  ·rw[if_pos h1] at h;have e:i.toNat=j:=aaj h;exact⟨by rw[seqIndex_of a h1,e],by nofun,by nofun,h1⟩
  ·rw[if_neg h1] at h;cases h
 ·rw[if_neg a] at h;by_cases h1:-(n:Int)<=i
  ·rw[if_pos h1] at h;have e:(i+n).toNat=j:=aaj h;exact⟨by rw[seqIndex_neg (by nofun) h1,e],by nofun,h1,by nofun⟩
  ·rw[if_neg h1] at h;cases h
theorem mN{xs:List α}{v:α}(h:atI xs i=some v):∃j,seqIndex? i xs.length=some j/\xs[j]?=some v/\j<xs.length/\-(xs.length:Int)<=i/\i<xs.length:=by
 unfold atI at h
 cases e:ixN xs.length i with
 |none=>rw[e] at h;cases h
 | some j=>
  rw[e] at h;obtain⟨h1,h2,b,a⟩:=rS e;exact⟨j,h1,h,h2,b,a⟩
theorem bf{xs:List α}{v:α}(h:xs[j]?=some v):atI xs (j:Int)=some v:=by
 have a:j<xs.length:=(List.getElem?_eq_some_iff.mp h).1
 have e:ixN xs.length (j:Int)=some j:=by
  unfold ixN;rw[if_pos (by nofun),if_pos (by nofun)];simp
 unfold atI;rw[e];exact h
theorem jV(xs:List α)(v:α):atI (xs++[v]) (-1)=some v:=by
 have a:(xs++[v]).length=xs.length+1:=by simp
 have e:ixN (xs++[v]).length (-1)=some xs.length:=by
  unfold ixN;rw[a,if_neg (by decide),if_pos (by nofun)]
  congr 1
  nofun
 unfold atI;rw[e];show (xs++[v])[xs.length]?=some v;simp
def Cc(b:Expr):Prop:=∀o i,subscripted b false o i=operate [o,i] (getItem o i)
def IxR(X:Cx)(r:R2):Prop:=
 ∀(value slice:Expr) (pins:List (Addr×Obj)) (s:Shared) (σ:St) (H:Hp) (x y:V) (v u:Value) (Q:VK),Inv X pins σ H s->RelV x v->RelV y u->r x y H Q ->
  subscripted slice false v u=operate [v,u] (getItem v u)->wpAny (model X.prog X.w) X.A (subscriptTail value slice v u) (EP X pins σ Q) X.xe s
def MtR(X:Cx)(id:String)(r:V->List V->Hp->VK->Prop):Prop:=
 ∀(pins:List (Addr×Obj)) (s:Shared) (σ:St) (H:Hp) (x:V) (xs:List V) (v:Value) (us:List Value) (Q:VK),Inv X pins σ H s->RelV x v->Vals xs us->r x xs H Q ->
  wpAny (model X.prog X.w) X.A (call (.builtin id) (v::us)) (EP X pins σ Q) X.xe s
section
variable  {a b:Expr} {ta tb:TE} 
theorem IxR.or{r r':R2}(h:IxR X r)(h':IxR X r'):IxR X (λx y H Q=>r x y H Q∨r' x y H Q):=by
 intro value slice pins s σ H x y v u Q I b a q hs;rcases q with q|q
 ·exact h value slice pins s σ H x y v u Q I b a q hs
 ·exact h' value slice pins s σ H x y v u Q I b a q hs
theorem LB{r:R2}(hr:IxR X r)(g:PE X a ta)(f:PE X b tb)(hs:Cc b):PE X (.Subscript a b pos) (tOp r ta tb):=by
 intro pins s σ H Q I h;exact Subscript_ (Lp g f I h λv u c x y H2 i e d q=>hr a b pins c σ H2 x y v u Q i e d q (hs _ _))
def MZ(K:Frag):R2:=λx y H Q=>∃p xs i v,x=.ref p/\y=.int i/\SqL K H p xs/\atI xs i=some v/\Q v H
def M0(K:Frag):R2:=λx y H Q=>∃p xs i v,x=.ref p/\y=.int i/\SqT K H p xs/\atI xs i=some v/\Q v H
def M2:R2:=λx y H Q=>∃z i c,x=.str z/\y=.int i/\z.length<=sizeLine/\atI z.cps.toList i=some c/\Q (.str ⟨#[c]⟩) H
theorem Cd:IxR X (MZ X.K):=by
 intro value slice pins s σ H x y v u Q I f e h hs;obtain⟨p,xs,i,z,rfl,rfl,g,l,q⟩:=h;cases f;obtain⟨t,rfl⟩:=e;obtain⟨its,r,pl,o⟩:=I.list g;obtain⟨j,h1,h2,B,n,m⟩:=mN l;obtain⟨w,d,a⟩:=r.get h2;have k:=r.length;have A:=ii;have fin:EP X pins σ Q w s:=⟨z,H,I,a,q⟩;by_cases c:0<=i
 ·have b:i.toNat=j:=by
   rw[seqIndex_of c m] at h1;exact aaj h1
  exact item_listR pl.isList c (by nofun) (by rw[b];simpa using d) fin hs
 ·have b:(i+(its.toArray.size:Int)).toNat=j:=by
   rw[seqIndex_neg (by nofun) n] at h1;rw[abN,← k];exact aaj h1
  exact subscriptTail_builtinR (x:=w) pl.isList.typeIs slot_list_getitem.lookup
   (wpAny_getItem_list_neg (Q:=λr s'=>r=w/\EP X pins σ Q r s') pl.isList (by nofun) (by rw[abN] <;> nofun) (by nofun) (by rw[b];simpa using d) ⟨rfl,fin⟩) hs
theorem GU:IxR X (M0 X.K):=by
 intro value slice pins s σ H x y v u Q I c b h hs;obtain⟨p,xs,i,z,rfl,rfl,d,f,q⟩:=h;cases c;obtain⟨t,rfl⟩:=b;obtain⟨its,r,pl,k⟩:=I.tuple d;obtain⟨j,h1,h2,o,n,m⟩:=mN f;obtain⟨w,g,a⟩:=r.get h2;have e:=r.length;have l:=ii;have fin:EP X pins σ Q w s:=⟨z,H,I,a,q⟩
 exact subscriptTail_builtinR (x:=w) pl.typeIs slot_tuple_getitem.lookup
  (getItem_tuple (j:=j) (Q:=λr s'=>r=w/\EP X pins σ Q r s') pl (by nofun) (by nofun) (by rw[abN,← e];exact h1) (by exists g) ⟨rfl,fin⟩) hs
theorem GV:IxR X M2:=by
 intro value slice pins s σ H x y v u Q I b a h hs;obtain⟨z,i,c,rfl,rfl,m,e,q⟩:=h;obtain⟨t,rfl⟩:=b;obtain⟨t',rfl⟩:=a;obtain⟨j,h1,h2,o,g,f⟩:=mN e;have d:z.cps.toList.length=z.length:=by simp[Str.length]
 rw[d] at h1 g f;have n:=ii
 exact tail_any (typeIs_str s z t) slot_str_getitem.lookup (getItem_str (c:=c) (by
  have l:decide (i < -(2 ^ 63:Int))=false:=decide_eq_false (by nofun);have k:decide (i ≥ 2 ^ 63)=false:=decide_eq_false (by nofun);rw[l,k,Bool.or_false]) (by rw[h1];simpa using h2) ⟨.str ⟨#[c]⟩,H,I.tok _,⟨_,rfl⟩,q⟩) hs
def rIx(K:Frag):R2:=λx y H Q=>MZ K x y H Q∨M0 K x y H Q∨M2 x y H Q
theorem GW:IxR X (rIx X.K):=Cd.or (GU.or GV)
theorem pY(its:List Value)(n j:Nat)(u:Value):Obj.mapSeq (·.setIfInBounds j u) { cls:=.type "list", data:=.seq its.toArray n }={ cls:=.type "list", data:=.seq (its.set j u).toArray n }:=by
 simp[Obj.mapSeq]
theorem Inv.lst{pins:List (Addr×Obj)}{σ:St}{H:Hp}{s:Shared}{p:Addr}{xs:List V}(I:Inv X pins σ H s)(h:H p=some (.lst xs)) :
  ∃(its:List Value) (n:Nat),Vals xs its/\s.heap.get? p=some { cls:=.type "list", data:=.seq its.toArray n }/\xs.length<=sizeLine:=by
 obtain⟨z,its,n,r,e⟩:=I.hok p _ h;exact⟨its,n,r,e,z⟩
theorem Inv.lstUpd{p:Addr}{xs:List V}{a:Nat}{f:Obj->Obj}(I:Inv X pins σ H s)(h:H p=some (.lst xs))
  (g:s.heap.get? p=some { cls:=.type "list", data:=.seq its.toArray n }) (c:f { cls:=.type "list", data:=.seq its.toArray n }={ cls:=.type "list", data:=.seq its'.toArray a }) (r:Vals ys its') (d:ys.length<=sizeLine) (t:Nat) :
  Inv X pins σ (upd H p (.lst ys)) { s with heap:=s.heap.update p f,toks:=t }:=by
 have e:(s.heap.update p f).get? p=some { cls:=.type "list", data:=.seq its'.toArray a }:=by
  rw[Heap.get?_update_self f g (by rw[c] <;> rfl),c]
 refine I.write (x:=p) (e:=p) (by rw[h];trivial) (.inl rfl) (λb u i q=>(Heap.get?_update_other _ _ (Ne.symm i)).trans q) ⟨_,e⟩ ?_;exact⟨d,its',a,r,e⟩
def Ce:V->V->V->Hp->(Hp->Prop)->Prop:=λo i v H Q=>∃p xs k j,o=.ref p/\i=.int k/\H p=some (.lst xs)/\ixN xs.length k=some j/\Q (upd H p (.lst (xs.set j v)))
theorem wA:MU X Ce:=by
 intro pins s σ H o i v ov A u Q I w x m h;obtain⟨p,xs,k,j,rfl,rfl,d,z,q⟩:=h;cases w;obtain⟨t,rfl⟩:=x;obtain⟨its,n,r,a,y⟩:=I.lst d;obtain⟨h1,h2,f,e⟩:=rS z;have b:=r.length;have B:=ii
 have l:Inv X pins σ (upd H p (.lst (xs.set j v))) { s with heap:=s.heap.update p (Obj.mapSeq (·.setIfInBounds j u)) }:=
  I.lstUpd d a (pY its n j u) (r.set m j) (by rw[aaP];exact y) s.toks
 by_cases g:0<=k
 ·have c:k.toNat=j:=by
   rw[seqIndex_of g e] at h1;exact aaj h1
  exact PySem.W.ki_setAt a g (by nofun) (by rw[abN,← b];exact e) (by rw[c];exact⟨_,l,q⟩)
 ·have c:(k+(its.toArray.size:Int)).toNat=j:=by
   rw[seqIndex_neg (by nofun) f] at h1;rw[abN,← b];exact aaj h1
  exact PySem.W.ki_setBack a (by nofun) (by rw[abN,← b];exact f) (by nofun) (by rw[c];exact⟨_,l,q⟩)
theorem lc(lo hi:Option Int)(n:Nat):(sliceBounds lo hi none n).1=((HT.sIx n 0 lo:Nat):Int)/\(sliceBounds lo hi none n).2.1=((HT.sIx n n hi:Nat):Int)/\(sliceBounds lo hi none n).2.2=1:=by
 refine⟨?_,?_,rfl⟩
 ·cases lo with
  |none=>simp [sliceBounds,HT.sIx]
  | some i=>
   simp only[sliceBounds,HT.sIx,Option.getD_none,show (1:Int) > 0 by decide,if_true];by_cases h:i<0
   ·simp only[h,if_true] <;> nofun
   ·simp only[h,if_false] <;> nofun
 ·cases hi with
  |none=>simp [sliceBounds,HT.sIx]
  | some i=>
   simp only[sliceBounds,HT.sIx,Option.getD_none,show (1:Int) > 0 by decide,if_true];by_cases h:i<0
   ·simp only[h,if_true] <;> nofun
   ·simp only[h,if_false] <;> nofun
theorem jW(its:List Value)(lo hi:Option Int):slicePick its.toArray lo hi none=((its.drop (HT.sIx its.length 0 lo)).take (HT.sIx its.length its.length hi - HT.sIx its.length 0 lo)).toArray:=by
 obtain⟨h1,h2,a⟩:=lc lo hi its.toArray.size;unfold slicePick;rw[h1,h2,a];simp only[sliceRange_one,pick_run,List.size_toArray] <;> rfl
def M3(K:Frag):V->Option Int->Option Int->Hp->VK->Prop:=λx lo hi H Q=>∃a xs,x=.ref a/\SqL K H a xs/\∀p,H p=none->Q (.ref p) (upd H p (.lst (F6 xs lo hi)))
theorem Cf:SlR X (M3 X.K):=by
 intro pins s σ H x v vl vu lo hi sl Q I e hs pl f h;obtain⟨a,xs,rfl,i,q⟩:=h;cases e;obtain⟨its,r,d,g⟩:=I.list i;have c:=r.length;refine⟨"list", _,slot_list_getitem.lookup,d.isList.typeIs,?_⟩;refine wpAny_getItem_list_slice d.isList hs pl f .none (by simp) ?_ (by rw[List.size_toArray] <;> nofun);rw[jW,← c];refine⟨.ref s.heap.objs.size,_,I.laid (t':=s.toks) (o:=.lst (F6 xs lo hi)) (λb ob q=>Heap.get?_push_of_some _ q) (aac _) ?_,rfl,q _ (I.hok.fresh (aac _))⟩;exact⟨aas (io xs lo hi) g,_,0,(r.drop (HT.sIx xs.length 0 lo)).take (HT.sIx xs.length xs.length hi - HT.sIx xs.length 0 lo),Heap.get?_push_size _ rfl⟩
def ip:V->Bool
 |.non=>true
 |.bl _=>true
 |.int _=>true
 |.str _=>true
 |_=>false
def eqV:V->V->Bool
 |.non,.non=>true
 |.bl a,.bl b=>a==b
 |.bl a,.int b=>(if a then 1 else 0)==b
 |.int a,.bl b=>a==(if b then 1 else 0)
 |.int a,.int b=>a==b
 |.str a,.str b=>a==b
 |_,_=>false
theorem GX(d:RelV y u)(c:RelV x v)(f:ip y=true)(e:ip x=true):SeqAt.EqAt A s u v (eqV y x):=by
 cases y with
 | non=>
  cases d
  cases x with
  |non=>cases c;exact SeqAt.EqAt.same _
  |bl b=>cases c;exact SeqAt.EqAt.none_bool b
  |int b=>obtain ⟨t,rfl⟩:=c;exact SeqAt.EqAt.none_int b t
  |str b=>obtain ⟨t,rfl⟩:=c;exact SeqAt.EqAt.none_str b t
  |_=>exact absurd (show false=true from e) abK
 | bl a=>
  cases d
  cases x with
  |non=>cases c;exact SeqAt.EqAt.bool_none a
  |bl b=>cases c;exact SeqAt.EqAt.bool_bool a b
  |int b=>obtain ⟨t,rfl⟩:=c;exact SeqAt.EqAt.bool_int a b t
  |str b=>obtain ⟨t,rfl⟩:=c;exact SeqAt.EqAt.bool_str a b t
  |_=>exact absurd (show false=true from e) abK
 | int a=>
  obtain⟨t',rfl⟩:=d
  cases x with
  |non=>cases c;exact SeqAt.EqAt.int_none a t'
  |bl b=>cases c;exact SeqAt.EqAt.int_bool a t' b
  |int b=>obtain ⟨t,rfl⟩:=c;exact SeqAt.EqAt.int_int a t' b t
  |str b=>obtain ⟨t,rfl⟩:=c;exact SeqAt.EqAt.int_str a t' b t
  |_=>exact absurd (show false=true from e) abK
 | str a=>
  obtain⟨t',rfl⟩:=d
  cases x with
  |non=>cases c;exact SeqAt.EqAt.str_none a t'
  |bl b=>cases c;exact SeqAt.EqAt.str_bool a t' b
  |int b=>obtain ⟨t,rfl⟩:=c;exact SeqAt.EqAt.str_int a t' b t
  |str b=>obtain ⟨t,rfl⟩:=c;exact SeqAt.EqAt.str_str a t' b t
  |_=>exact absurd (show false=true from e) abK
 |_=>exact absurd (show false=true from f) abK
def eqU(x:V)(u:Value):Bool:=match u with
 |.none=>eqV .non x
 |.bool b=>eqV (.bl b) x
 |.int i _=>eqV (.int i) x
 |.str z _=>eqV (.str z) x
 |_=>false
theorem Ak(r:RelV y u)(f:ip y=true):eqU x u=eqV y x:=by
 cases y with
 |non=>cases r;rfl
 |bl b=>cases r;rfl
 |int i=>obtain⟨t,rfl⟩:=r;rfl
 |str z=>obtain⟨t,rfl⟩:=r;rfl
 |_=>exact absurd (show false=true from f) abK
theorem iq{x:V}:∀{xs:List V} {us:List Value},Vals xs us->xs.all ip=true->us.any (eqU x)=xs.any λy=>eqV y x
 |_,_,.nil,_=>rfl
 | y::xs,u::us,.cons r t,f=>by
  rw[aaQ,abR] at f;rw[abA,abA,Ak r f.1,iq t f.2]
theorem fP{A:Around}{s:Shared}{x:V}{v:Value}(b:RelV x v)(c:ip x=true):∀{xs:List V} {us:List Value},Vals xs us->xs.all ip=true->∀u∈us,SeqAt.EqAt A s u v (eqU x u)
 |_,_,.nil,_=>λu a=>by cases a
 | y::xs,u::us,.cons r t,f=>λd a=>by
  rw[aaQ,abR] at f;rcases abI.mp a with rfl|a
  ·rw[Ak r f.1];exact GX r b f.1 c
  ·exact fP b c t f.2 d a
def inV(x:V)(xs:List V):Bool:=xs.any λy=>eqV y x
def rIn(K:Frag)(neg:Bool):R2:=λx y H Q=>∃p xs,y=.ref p/\(SqL K H p xs∨SqT K H p xs)/\ip x=true/\xs.all ip=true/\Q (.bl (if neg then !inV x xs else inV x xs)) H
theorem rT:OpR X (compareOp .In) (rIn X.K false):=by
 intro pins s σ H x y v u Q I c e h;obtain⟨p,xs,rfl,a,d,fs,q⟩:=h;cases e;rcases a with a|a
 ·obtain⟨its,r,pl,f⟩:=I.list a;refine SeqAt.in_listAt (eqU x) pl.isList (λw b=>fP c d r fs w (by exists b)) ⟨.bl _,H,I,rfl,?_⟩;rw[show its.toArray.any (eqU x)=its.any (eqU x) by simp,iq r fs];exact q
 ·obtain⟨its,r,pl,f⟩:=I.tuple a;refine SeqAt.in_tupleAt (eqU x) pl (λw b=>fP c d r fs w (by exists b)) ⟨.bl _,H,I,rfl,?_⟩;rw[show its.toArray.any (eqU x)=its.any (eqU x) by simp,iq r fs];exact q
theorem lf:OpR X (compareOp .NotIn) (rIn X.K true):=by
 intro pins s σ H x y v u Q I c e h;obtain⟨p,xs,rfl,a,d,fs,q⟩:=h;cases e;rcases a with a|a
 ·obtain⟨its,r,pl,f⟩:=I.list a;refine SeqAt.notIn_listAt (eqU x) pl.isList (λw b=>fP c d r fs w (by exists b)) ⟨.bl _,H,I,rfl,?_⟩;rw[show its.toArray.any (eqU x)=its.any (eqU x) by simp,iq r fs];exact q
 ·obtain⟨its,r,pl,f⟩:=I.tuple a;refine SeqAt.notIn_tupleAt (eqU x) pl (λw b=>fP c d r fs w (by exists b)) ⟨.bl _,H,I,rfl,?_⟩;rw[show its.toArray.any (eqU x)=its.any (eqU x) by simp,iq r fs];exact q
theorem lg:OpR X (compareOp .NotIn) (λx y H Q=>∃i j,x=.str i/\y=.str j/\Q (.bl (!(!(Builtin.Str.occurrences j i 0 j.length 1).isEmpty))) H):=by
 intro pins s σ H x y v u Q I b a h;obtain⟨i,j,rfl,rfl,q⟩:=h;obtain⟨t,rfl⟩:=b;obtain⟨t',rfl⟩:=a;exact notIn_str ⟨.bl _,H,I,rfl,q⟩
theorem lh:CallR X (.builtin "len") (λxs H Q=>∃p ys,xs=[.ref p]/\(SqL X.K H p ys∨SqT X.K H p ys)/\Q (.int ys.length) H):=by
 intro pins s σ H xs us Q I r h;obtain⟨p,ys,rfl,b,q⟩:=h;obtain⟨u,rfl,c⟩:=dZ r;cases c;have e:=ii;rcases b with b|b
 ·obtain⟨its,r',pl,d⟩:=I.list b;have a:=r'.length;exact Calls.call_len_list pl.isList (by simp only[List.size_toArray] <;> nofun) ⟨.int ys.length,H,I.tok _,⟨s.toks+1,by rw[abN,a]⟩,q⟩
 ·obtain⟨its,r',pl,d⟩:=I.tuple b;have a:=r'.length;exact len_tuple pl (by simp only[List.size_toArray] <;> nofun) ⟨.int ys.length,H,I.tok _,⟨s.toks+1,by rw[abN,a]⟩,q⟩
theorem li:CallR X (.builtin "len") (λxs H Q=>∃z,xs=[.str z]/\z.length<=sizeLine/\Q (.int z.length) H):=by
 intro pins s σ H xs us Q I r h;obtain⟨z,rfl,a,q⟩:=h;obtain⟨u,rfl,t,rfl⟩:=dZ r;have b:=ii;exact len_str (by nofun) ⟨.int z.length,H,I.tok _,⟨_,rfl⟩,q⟩
theorem CallR.or{f:Value}{r r':List V->Hp->VK->Prop}(h:CallR X f r)(h':CallR X f r'):CallR X f (λxs H Q=>r xs H Q∨r' xs H Q):=by
 intro pins s σ H xs us Q I a q;rcases q with q|q
 ·exact h pins s σ H xs us Q I a q
 ·exact h' pins s σ H xs us Q I a q
theorem lj:CallR X (.type "list") (λxs H Q=>∃p ys,xs=[.ref p]/\(SqL X.K H p ys∨SqT X.K H p ys)/\∀l,H l=none->Q (.ref l) (upd H l (.lst ys))):=by
 intro pins s σ H xs us Q I r h;obtain⟨p,ys,rfl,c,q⟩:=h;obtain⟨u,rfl,i⟩:=dZ r;cases i
 have fin:∀(its:List Value),Vals ys its->ys.length<=sizeLine->∀(h':Heap) (c':Nat),(∀b o',s.heap.get? b=some o'->h'.get? b=some o') ->
   h'.get? s.heap.objs.size=some { cls:=.type "list", dict:=none,data:=.seq its.toArray c',slots:=#[] }->EP X pins σ Q (.ref s.heap.objs.size) { s with heap:=h' }:=λits r' a h' c' kp e=>
  ⟨.ref s.heap.objs.size,_,I.laid (t':=s.toks) kp (aac _) (show ObjOk X.prog X.w _ h' _ (.lst ys) from ⟨a,its,c',r',e⟩),rfl,q _ (I.hok.fresh (aac _))⟩
 rcases c with c|c
 ·obtain⟨its,r',pl,a⟩:=I.list c;have d:=r'.length;obtain⟨o,f,g,n,hd⟩:=pl.isList;exact call_list_seq p (.inl rfl) f g hd (λh' c' kp e=>fin its r' a h' c' kp e) (by simp only[List.size_toArray] <;> nofun)
 ·obtain⟨its,r',pl,a⟩:=I.tuple c;have d:=r'.length;obtain⟨o,f,g,n,hd⟩:=pl;exact call_list_seq p (.inr rfl) f g hd (λh' c' kp e=>fin its r' a h' c' kp e) (by simp only[List.size_toArray] <;> nofun)
theorem jX:CallR X (.type "tuple") (λxs H Q=>∃p ys,xs=[.ref p]/\((SqL X.K H p ys/\∀l,H l=none->Q (.ref l) (upd H l (.tup ys)))∨(SqT X.K H p ys/\Q (.ref p) H))):=by
 intro pins s σ H xs us Q I r h;obtain⟨p,ys,rfl,h⟩:=h;obtain⟨u,rfl,g⟩:=dZ r;cases g;rcases h with ⟨a,q⟩|⟨a,q⟩
 ·obtain⟨its,r',pl,c⟩:=I.list a;have d:=r'.length;refine call_tuple_list pl.isList (λh' kp=>?_) (by simp only[List.size_toArray] <;> nofun);have f:Inv X pins σ H { s with heap:=h' }:=I.kept (t':=s.toks) kp
  have i:Inv X pins σ (upd H h'.objs.size (.tup ys)) { s with heap:=h'.push { cls:=.type "tuple", data:=.seq its.toArray } }:=
   f.laid (t':=s.toks) (λb o e=>Heap.get?_push_of_some _ e) (aac _) (show ObjOk X.prog X.w _ _ _ (.tup ys) from ⟨c,its,r',IsTup.new _ _⟩)
  exact⟨.ref h'.objs.size,_,i,rfl,q _ (f.hok.fresh (aac _))⟩
 ·obtain⟨its,r',pl,c⟩:=I.tuple a;exact call_tuple_same pl ⟨.ref p,H,I,rfl,q⟩
def tyV(K:Frag)(T:String)(x:V)(H:Hp):Prop:=match x with
 |.str _=>T = "str"
 |.int _=>T = "int"
 | .ref p=>(T = "list" /\ ∃xs,SqL K H p xs)∨(T = "tuple" /\ ∃o,K.lookup p=some o/\o.cls=.type "tuple" /\ o.dict=none) ∨
   (T = "dict" /\ ((∃kvs,H p=some (.dK kvs))∨∃kvs,H p=some (.dT kvs)))∨(T = "set" /\ ∃S n,H p=some (.set S n))
 |_=>False
theorem Al(I:Inv X pins σ H s)(r:RelV x v)(ty:tyV X.K T x H) :
  s.TypeIs v T/\∀a,v=.ref a->∃ob,s.heap.get? a=some ob/\ob.dict=none:=by
 cases x with
 | str z=>
  obtain⟨t,rfl⟩:=r;cases (show T = "str" from ty);exact⟨typeIs_str s z t,λ_ e=>nomatch e⟩
 | int i=>
  obtain⟨t,rfl⟩:=r;cases (show T = "int" from ty);exact⟨typeIs_int s i t,λ_ e=>nomatch e⟩
 | ref p=>
  cases r;rcases ty with ⟨rfl,xs,f⟩|⟨rfl,o,b,g,hd⟩|⟨rfl,b⟩|⟨rfl,S,n,b⟩
  ·obtain⟨its,_,pl,_⟩:=I.list f;refine⟨pl.isList.typeIs,λa e=>?_⟩;cases e;obtain⟨o,n,e,c,hd,_⟩:=pl;exact⟨o,e,hd⟩
  ·refine⟨⟨o,I.kIn p o b,g⟩,λa e=>?_⟩;cases e;exact⟨o,I.kIn _ o b,hd⟩
  ·have z:∃o,s.heap.get? p=some o/\o.ExactDict:=by
    rcases b with ⟨kvs,b⟩|⟨kvs,b⟩
    ·obtain⟨_,_,_,_,o,_,_,e,ex,_⟩:=I.hok p _ b;exact⟨o,e,ex⟩
    ·obtain⟨_,_,_,_,o,_,_,e,ex,_⟩:=I.hok p _ b;exact⟨o,e,ex⟩
   obtain⟨o,e,ex⟩:=z;refine⟨⟨o,e,ex.1⟩,λa d=>?_⟩;cases d;exact⟨o,e,ex.2.1⟩
  ·obtain⟨o,_,_,_,e,ex,_⟩:=I.hok p _ b;refine⟨⟨o,e,ex.1⟩,λa d=>?_⟩;cases d;exact⟨o,e,ex.2.1⟩
 |_=>exact False.elim ty
def KU(K:Frag)(T:String)(r:V->List V->Hp->VK->Prop)(to:TE):TE:=λσ H Q=>to σ H λx H1=>tyV K T x H1/\r x [] H1 Q
def tBM(K:Frag)(T:String)(r:V->List V->Hp->VK->Prop)(to:TE)(t:TA):TE:=λσ H Q=>to σ H λx H1=>tyV K T x H1/\t σ H1 λxs H2=>r x xs H2 Q
variable {o:Expr} {es:List Expr} {to:TE} {t:TA} {name:Str}  {id:String} {r:V->List V->Hp->VK->Prop}
theorem GY(i:PlainAttrs T)(slot:Slot T name id)(c:typeOf (.builtin id)=pure (.type "method_descriptor"))(k:MtR X id r)(j:PE X o to)
  (b:autoParam (attributeBase o name X.env (eval o X.env)=eval o X.env) L2.aR._auto_1) (a:autoParam ((apos.endLine==cpos.line)=true) L2.aR._auto_1):PE X (.Call (.Attribute o name apos) [] [] cpos) (KU X.K T r to):=by
 intro pins s σ H Q I h;refine wpAny_Call_method0_late b a (thn (j pins s σ H _ I h) λv f y=>?_);obtain⟨x,H1,e,d,ty,g⟩:=y;obtain⟨h1,h2⟩:=Al e d ty;exact⟨T,id,i,slot,c,h1,h2,abv rfl (PySem.evalArgs_none (k pins f σ H1 x [] v [] Q e d .nil g))⟩
theorem LC(q:PlainAttrs T)(slot:Slot T name id)(f:typeOf (.builtin id)=pure (.type "method_descriptor"))(w:MtR X id r)(u:PE X o to)(y:PA X (e::es) t)
  (c:autoParam (attributeBase o name X.env (eval o X.env)=eval o X.env) L2.aR._auto_1)
  (d:autoParam (((backTo cpos (starEach (e::es) X.env)).all (λx=>!x.1)&&(backToKw cpos (keywordEach [] X.env)).all (λx=>x.1.isSome)
   && decide ((e::es).length+([]:List Keyword).length+(if ([]:List Keyword).isEmpty then 0 else 1)<30))=true) L2.aR._auto_1)
  (b:autoParam ((apos.endLine==cpos.line)=true) L2.aR._auto_1) (hs:autoParam (starEach (e::es) X.env=(false,eval e X.env)::starEach es X.env) L2.aR._auto_1) (a:autoParam ((backTo cpos (starEach es X.env)).any (·.1)=false) L2.aR._auto_1) :
  PE X (.Call (.Attribute o name apos) (e::es) [] cpos) (tBM X.K T r to t):=by
 intro pins s σ H Q I h;refine wpAny_Call_method_late c d b rfl (thn (u pins s σ H _ I h) λv l A=>?_);obtain⟨x,H1,j,g,ty,p⟩:=A;obtain⟨h1,h2⟩:=Al j g ty;refine⟨T,id,q,slot,f,h1,h2,?_⟩;have i:=y cpos pins l σ H1 _ j p;rw[hs] at i ⊢;refine abv (by show (false || (backTo cpos (starEach es X.env)).any (·.1))=false;rw[a] <;> rfl) (Calls.evalArgs_plain ?_);exact thn i λus k ⟨vs,H2,z,m,n⟩=>w pins k σ H2 x vs v us Q z g m n
/- xs.append(e),list.index on a module's tuple .. are MtR facts of 06m -/
end
def MtM(X:Cx)(id:String)(r:V->List V->Hp->VK->Prop):Prop:=
 ∀(pins:List (Addr×Obj)) (s:Shared) (σ:St) (H:Hp) (x:V) (xs:List V) (v:Value) (us:List Value) (Q:VK),Inv X pins σ H s->RelV x v->Vals xs us->r x xs H Q ->
  wpAny (model X.prog X.w) X.A (call (.builtin id) (v::us)) (EP X pins σ Q) X.xe s
theorem Vals.one(h:Vals [x] us):∃u,us=[u]/\RelV x u:=by
 cases h with|cons r t=>cases t;exact⟨_,rfl,r⟩
theorem Vals.zero:∀{us:List Value},Vals [] us->us=[]
 |_,.nil=>rfl
theorem Vals.dropLast{xs:List V}(h:Vals xs us):Vals xs.dropLast us.dropLast:=by
 induction h with
 |nil=>exact .nil
 | cons r t a=>
  cases t with
  |nil=>exact .nil
  |cons q t'=>exact .cons r a
theorem pZ(l:List α):l.eraseIdx (l.length - 1)=l.dropLast:=by
 induction l with
 |nil=>rfl
 | cons a r c=>
  cases r with
  |nil=>rfl
  | cons b r=>
   have e:(a::b::r).length - 1=((b::r).length - 1)+1:=by
    have h1:(a::b::r).length=r.length+2:=rfl;have h2:(b::r).length=r.length+1:=rfl;nofun
   rw[e,List.eraseIdx_cons_succ,c]
   all_goals rfl
section
variable      {l:Addr} {xs zs:List V}
theorem Inv.lset{f:Array Value->Array Value}(I:Inv X pins σ H s)(i:H l=some (.lst xs))
  (e:s.heap.get? l=some { cls:=.type "list", data:=.seq its.toArray n }) (d:f its.toArray=its'.toArray) (b:Vals ys its') (a:ys.length<=sizeLine) :
  Inv X pins σ (upd H l (.lst ys)) { s with heap:=s.heap.update l (Obj.mapSeq f),toks:=t' }:=by
 have q:=PySem.IsL.update e f;rw[d] at q;refine I.write (x:=l) (e:=l) (by rw[i];exact trivial) (.inl rfl) (λj u g c=>(Heap.get?_update_other s.heap (Obj.mapSeq f) (Ne.symm g)).trans c) ⟨_,q⟩ ?_;exact⟨a,its',_,b,q⟩
theorem Inv.lnew(I:Inv X pins σ H s)(b:Vals ys its)(a:ys.length<=sizeLine) :
  Inv X pins σ (upd H s.heap.objs.size (.lst ys)) { s with heap:=s.heap.push { cls:=.type "list", data:=.seq its.toArray },toks:=t' }:=
 I.laid (λ_ _ q=>Heap.get?_push_of_some _ q) (aac _) ⟨a,its,0,b,Heap.get?_push_size _ rfl⟩
theorem Inv.fresh(I:Inv X pins σ H s):H s.heap.objs.size=none:=I.hok.fresh (aac _)
theorem Inv.lstM(I:Inv X pins σ H s)(a:H l=some (.lst xs)):xs.length<=sizeLine/\∃(its:List Value) (n:Nat),Vals xs its/\xs.length=its.length/\s.heap.get? l=some { cls:=.type "list", data:=.seq its.toArray n }:=by
 obtain⟨z,its,n,r,e⟩:=I.hok l _ a;exact⟨z,its,n,r,r.length,e⟩
end
def eB:V->List V->Hp->VK->Prop:=λx vs H Q=>∃l xs y,x=.ref l/\vs=[y]/\H l=some (.lst xs)/\xs.length<sizeLine/\Q .non (upd H l (.lst (xs++[y])))
theorem ll:MtM X "list.append" eB:=by
 intro pins s σ H x vs v us Q I b c h;obtain⟨l,xs,y,rfl,rfl,a,f,q⟩:=h;cases b;obtain⟨u,rfl,d⟩:=c.one;obtain⟨z,its,n,r,g,e⟩:=I.lstM a;refine call_meets F.slot_list_append ⟨_,e,rfl⟩ F.entry_list_append (F.args_list_append_2 _ _) (PySem.list_append l its.toArray n u (by rw[abN];nofun)) ⟨e,?_⟩;refine⟨.non,_,I.lset (its':=its++[u]) a e (by simp) (r.append (.cons d .nil)) ?_,rfl,q⟩;rw[List.length_append,abd];nofun
def LD:V->List V->Hp->VK->Prop:=λx vs H Q=>∃l xs y,x=.ref l/\vs=[]/\H l=some (.lst xs)/\xs[xs.length - 1]?=some y/\Q y (upd H l (.lst xs.dropLast))
theorem GZ:MtM X "list.pop" LD:=by
 intro pins s σ H x vs v us Q I d f h;obtain⟨l,xs,y,rfl,rfl,c,i,q⟩:=h;cases d;have b:=f.zero;subst b;obtain⟨z,its,n,r,k,e⟩:=I.lstM c;obtain⟨u,j,g⟩:=r.get i
 have a:its.toArray[its.toArray.size - 1]?=some u:=by
  show its.toArray[its.length - 1]?=some u;rw[← Array.getElem?_toList,← k];exact j
 refine call_meets F.slot_list_pop ⟨_,e,rfl⟩ F.entry_list_pop (F.args_list_pop_1 _) (MeetsSeq.list_pop_last l its.toArray n u a (by rw[abN];nofun)) ⟨e,?_⟩;refine⟨y,_,I.lset (its':=its.dropLast) c e ?_ r.dropLast ?_,g,q⟩
 ·show its.toArray.eraseIdxIfInBounds (its.toArray.size - 1)=its.dropLast.toArray;rw[abN,List.eraseIdxIfInBounds_toArray,pZ]
 ·rw[List.length_dropLast];nofun
section
variable {prog:Program}    
end
section
variable {κ:Type} [DecidableEq κ]
def gP(kvs:List (κ×V))(k:κ):Option V:=(kvs.find? λa=>decide (a.1=k)).map (·.2)
def gQ(kvs:List (κ×V))(k:κ)(v:V):List (κ×V):=
 if (kvs.any λa=>decide (a.1=k))=true then kvs.map (λa=>if a.1=k then (a.1,v) else a) else kvs++[(k,v)]
def jd(kvs:List (κ×V))(k:κ):List (κ×V):=kvs.filter λa=>decide (a.1≠k)
theorem g6{p:κ×V}{r:List (κ×V)}{k:κ}(e:p.1=k):gP (p::r) k=some p.2:=by simp[gP,List.find?_cons,e]
theorem g7{p:κ×V}{r:List (κ×V)}{k:κ}(e:¬p.1=k):gP (p::r) k=gP r k:=by simp[gP,List.find?_cons,e]
theorem g8(k:κ):∀kvs:List (κ×V),(kvs.any λkv=>decide (kv.1=k))=(gP kvs k).isSome
 |[]=>rfl
 | p::r=>by
  rw[abA];by_cases e:p.1=k
  ·simp only[g6 e,decide_eq_true e,Bool.true_or,Option.isSome_some]
  ·rw[g7 e,decide_eq_false e,Bool.false_or];exact g8 k r
theorem fF(kvs:List (κ×V))(k:κ)(v:V):(gQ kvs k v).length<=kvs.length+1:=by
 unfold gQ;split
 ·rw[abD];nofun
 ·rw[abH,abM,List.length_nil];nofun
theorem RelO.isSome_eq{u:Option Value}(r:RelO o u):o.isSome=u.isSome:=by
 cases o with
 | none=>cases u with
  |none=>rfl
  |some _=>exact (show False from r).elim
 | some _=>cases u with
  |none=>exact (show False from r).elim
  |some _=>rfl
theorem RelO.getD{u:Option Value}{d':Value}(r:RelO o u)(rd:RelV d d'):RelV (o.getD d) (u.getD d'):=by
 cases o with
 | none=>cases u with
  |none=>exact rd
  |some _=>exact (show False from r).elim
 | some _=>cases u with
  |none=>exact (show False from r).elim
  |some _=>exact r
theorem KV.val{kvs:List (κ×V)}{vs:List (κ×Value)}(r:KV kvs vs)(k:κ):RelO (gP kvs k) (valueAt vs k):=by
 unfold KV at r
 induction r with
 |nil=>exact True.intro
 | @cons p q ps a h t d=>
  obtain⟨h1,h2⟩:=h;by_cases e:p.1=k
  ·have c:q.1=k:=h1.symm.trans e;have b:valueAt (q::a) k=some q.2:=by simp[valueAt,List.find?_cons,c]
   rw[g6 e,b];exact h2
  ·have c:¬q.1=k:=λz=>e (h1.trans z);have b:valueAt (q::a) k=valueAt a k:=by simp[valueAt,List.find?_cons,c]
   rw[g7 e,b];exact d
theorem KV.any{kvs:List (κ×V)}{vs:List (κ×Value)}(r:KV kvs vs)(k:κ):(kvs.any λkv=>decide (kv.1=k))=vs.any λkv=>decide (kv.1=k):=by
 unfold KV at r
 induction r with
 |nil=>rfl
 |cons h t a=>rw[abA,abA,a,h.1]
theorem KV.repl{kvs:List (κ×V)}{vs:List (κ×Value)}(r:KV kvs vs)(k:κ)(a:RelV y u) :
  KV (kvs.map λkv=>if kv.1=k then (kv.1,y) else kv) (vs.map λkv=>if kv.1=k then (kv.1,u) else kv):=by
 unfold KV at r ⊢
 induction r with
 |nil=>exact .nil
 | @cons p q ps c h t b=>
  rw[abG,abG];refine .cons ?_ b;obtain⟨h1,h2⟩:=h;by_cases e:p.1=k
  ·rw[if_pos e,if_pos (h1.symm.trans e)];exact⟨h1,a⟩
  ·rw[if_neg e,if_neg (λz=>e (h1.trans z))];exact⟨h1,h2⟩
theorem KV.put{kvs:List (κ×V)}{vs:List (κ×Value)}(r:KV kvs vs)(k:κ)(a:RelV y u):KV (gQ kvs k y) (stored vs k u):=by
 unfold gQ stored;rw[r.any k];by_cases e:(vs.any λb=>decide (b.1=k))=true
 ·rw[if_pos e,if_pos e];exact r.repl k a
 ·rw[if_neg e,if_neg e];exact Paired.snoc r ⟨rfl,a⟩
theorem KV.drop{kvs:List (κ×V)}{vs:List (κ×Value)}(r:KV kvs vs)(k:κ):KV (jd kvs k) (without vs k):=by
 unfold KV at r ⊢;unfold jd without
 induction r with
 |nil=>exact .nil
 | @cons p q ps f h t c=>
  obtain⟨h1,h2⟩:=h;rw[List.filter_cons,List.filter_cons];by_cases e:p.1=k
  ·have a:¬decide (p.1≠k)=true:=by simp[e]
   have b:¬decide (q.1≠k)=true:=by simp[h1.symm.trans e]
   rw[if_neg a,if_neg b];exact c
  ·have d:¬q.1=k:=λz=>e (h1.trans z);have a:decide (p.1≠k)=true:=by simp[e]
   have b:decide (q.1≠k)=true:=by simp[d]
   rw[if_pos a,if_pos b];exact .cons ⟨h1,h2⟩ c
theorem KV.length{kvs:List (κ×V)}{vs:List (κ×Value)}(r:KV kvs vs):kvs.length=vs.length:=aa4 r
theorem nK(kvs:List (κ×V))(k:κ):(jd kvs k).length<=kvs.length:=aaW _ _
end
theorem je(r:RelV (kV k) u):(ay P w).is k u=true:=by
 cases k with
 |inl i=>obtain⟨t,e⟩:=(show ∃t,u=Value.int i t from r);subst e;exact mH P w i t
 |inr x=>obtain⟨t,e⟩:=(show ∃t,u=Value.str x t from r);subst e;exact mI P w x t
theorem lm{P:Program}{w:World}:∀{ks:List Key} {us:List Value},Vals (ks.map kV) us->ItemsAre (ay P w) ks us
 |[],_,r=>by rw[List.map_nil] at r;cases r;exact .nil
 | k::ks,_,r=>by
  rw[abG] at r
  cases r with
  |cons h t=>exact .cons (je h) (lm t)
abbrev KT(H:Hp):List (List Key×V)->List (List Key×Addr×Value)->Prop:=Paired λp q=>p.1=q.1/\H q.2.1=some (.tup (p.1.map kV))/\RelV p.2 q.2.2
theorem KT.val(r:KT H kvs xs)(k:List Key):RelO (gP kvs k) ((atKey xs k).map (·.2)):=by
 induction r with
 |nil=>exact True.intro
 | @cons p q ps a h t d=>
  obtain⟨h1,_,h2⟩:=h;by_cases e:p.1=k
  ·have c:q.1=k:=h1.symm.trans e;have b:atKey (q::a) k=some q.2:=by simp[atKey,List.find?_cons,c]
   rw[g6 e,b];exact h2
  ·have c:¬q.1=k:=λz=>e (h1.trans z);have b:atKey (q::a) k=atKey a k:=by simp[atKey,List.find?_cons,c]
   rw[g7 e,b];exact d
theorem KT.repl(r:KT H kvs xs)(k:List Key)(a:RelV y u) :
  KT H (kvs.map λkv=>if kv.1=k then (kv.1,y) else kv) (xs.map (putAt k u)):=by
 induction r with
 |nil=>exact .nil
 | @cons p q ps d h t b=>
  rw[abG,abG];refine .cons ?_ b;obtain⟨h1,h2,c⟩:=h;unfold putAt;by_cases e:p.1=k
  ·rw[if_pos e,if_pos (h1.symm.trans e)];exact⟨h1,h2,a⟩
  ·rw[if_neg e,if_neg (λz=>e (h1.trans z))];exact⟨h1,h2,c⟩
theorem KT.put(r:KT H kvs xs)(k:List Key)(d:H b=some (.tup (k.map kV)))(a:RelV y u) :
  KT H (gQ kvs k y) (storedH xs k b u):=by
 have e:(kvs.any λc=>decide (c.1=k))=(atKey xs k).isSome:=by
  rw[g8,(r.val k).isSome_eq,Option.isSome_map]
 unfold gQ storedH;rw[e];by_cases q:(atKey xs k).isSome=true
 ·rw[if_pos q,if_pos q];exact r.repl k a
 ·rw[if_neg q,if_neg q];exact Paired.snoc r ⟨rfl,d,a⟩
theorem KT.keeps(r:KT H kvs xs)(a:∀b ys,H b=some (.tup ys)->H' b=some (.tup ys)):KT H' kvs xs:=
 Paired.mapP r λ_ _ z=>⟨z.1,a _ _ z.2.1,z.2.2⟩
section
variable    {h:Heap} 
theorem G0{u:HO}(ok:HOk P w H h)(e:Rd H a u):ObjOk P w H h a u:=e.ok ok
theorem jf{kvs:List (Key×V)}(ok:HOk P w H h)(e:Rd H a (.dK kvs)):kvs.length<=sizeLine/\(a==sysModules)=false/\∃vs,KV kvs vs/\h.DictOf (ay P w) a vs:=
 show ObjOk P w H h a (.dK kvs) from G0 ok e
theorem rV{kvs:List (Key×V)}(ok:HOk P w H h)(e:H a=some (.dK kvs)):kvs.length<=sizeLine/\(a==sysModules)=false/\∃vs,KV kvs vs/\h.DictOf (ay P w) a vs:=jf ok (.inl e)
theorem ju{ks:List Key}(ok:HOk P w H h)(e:H a=some (.tup (ks.map kV))):(tupleKind (ay P w)).is h ks a:=by
 obtain⟨_,its,r,o,h1,h2,n,b⟩:=(show ObjOk P w H h a (.tup (ks.map kV)) from ok a _ e);exact⟨o,its.toArray,n,h1,h2,b,by simpa using lm r⟩
theorem mO(ok:HOk P w H h)(e:Rd H a (.dT kvs)):kvs.length<=sizeLine/\(a==sysModules)=false /\
  ∃xs,KT H kvs xs/\h.DictOfH (tupleKind (ay P w)) a xs:=by
 obtain⟨z,y,xs,r,o,es,ep,h1,h2,i,g,f⟩:=(show ObjOk P w H h a (.dT kvs) from G0 ok e);refine⟨z,y,xs,r,o,es,ep,h1,h2,i,g,λx b=>?_,f⟩
 have all:∀{l:List (List Key×V)} {m:List (List Key×Addr×Value)},KT H l m->∀x∈m,(tupleKind (ay P w)).is h x.1 x.2.1:=by
  intro l m q
  induction q with
  |nil=>intro x b;exact nomatch b
  | @cons p q ps j c t d=>
   intro x b;rcases abI.mp b with e|b
   ·subst e;exact ju ok (by rw[← c.1];exact c.2.1)
   ·exact d x b
 exact all r x b
theorem LF(ok:HOk P w H h)(e:H a=some (.dT kvs)):kvs.length<=sizeLine/\(a==sysModules)=false /\
  ∃xs,KT H kvs xs/\h.DictOfH (tupleKind (ay P w)) a xs:=mO ok (.inl e)
end
def DGet(H:Hp)(a:Addr)(y:V)(r:Option V):Prop:=
 (∃kvs k,Rd H a (.dK kvs)/\y=kV k/\r=gP kvs k)∨∃kvs k b,Rd H a (.dT kvs)/\y=.ref b/\H b=some (.tup (k.map kV))/\r=gP kvs k
def M4(H:Hp)(a:Addr)(y v:V)(H':Hp):Prop:=
 (∃kvs k,H a=some (.dK kvs)/\y=kV k/\kvs.length<sizeLine/\H'=upd H a (.dK (gQ kvs k v))) ∨
 ∃kvs k b,H a=some (.dT kvs)/\y=.ref b/\H b=some (.tup (k.map kV))/\kvs.length<sizeLine/\H'=upd H a (.dT (gQ kvs k v))
section
variable       {v:V} {r:Value}   
theorem Inv.big(I:Inv X pins σ H s):sysModules<s.heap.objs.size:=by
 have h:mainGlobals<s.heap.objs.size:=(I.mod.glob.keeps I.bk).lt;exact ab3 (by decide) h
theorem rW(q:A.units+1<cLine)(I:Inv X pins σ H s)(g:DGet H a y (some v))(n:RelV y u)(h:∀d s',Inv X pins σ H s'->RelV v d->Q d s') :
  wpAny (model X.prog X.w) A (getItem (.ref a) u) Q E s:=by
 rcases g with ⟨kvs,k,e,j,l⟩|⟨kvs,k,b,e,j,t,l⟩
 ·subst j;obtain⟨z,hd,vs,rel,m⟩:=jf I.hok e;obtain⟨d,f,c⟩:=RelO.some_of (v:=v) (o:=valueAt vs k) (by rw[l];exact rel.val k);exact wpAny_getItem_of (je n) m.mapOf f (h d _ (I.tok _) c)
 ·subst j;cases (show u=Value.ref b from n);obtain⟨z,hd,xs,rel,m⟩:=mO I.hok e;obtain⟨d,f,c⟩:=RelO.some_of (v:=v) (o:=(atKey xs k).map (·.2)) (by rw[l];exact rel.val k);obtain⟨p,r,i⟩:=Option.map_eq_some_iff.mp f;refine wpAny_getItem_heap (tupleKind_room_in1 q) (ju I.hok t) m r ?_;rw[i];exact h d _ (I.tok _) c
theorem d_in(i:A.units+1<cLine)(I:Inv X pins σ H s)(g:DGet H a y o)(f:RelV y u)(h:∀s',Inv X pins σ H s'->Q (.bool o.isSome) s') :
  wpAny (model X.prog X.w) A (compareOp .In u (.ref a)) Q E s:=by
 rcases g with ⟨kvs,k,e,c,l⟩|⟨kvs,k,b,e,c,j,l⟩
 ·subst c;obtain⟨z,hd,vs,rel,d⟩:=jf I.hok e;refine wpAny_in_of (je f) hd d.mapOf ?_;rw[← (rel.val k).isSome_eq,← l];exact h _ (I.tok _)
 ·subst c;cases (show u=Value.ref b from f);obtain⟨z,hd,xs,rel,d⟩:=mO I.hok e;refine wpAny_in_heap (tupleKind_room_in1 i) (ju I.hok j) hd d ?_;have q:=(rel.val k).isSome_eq;rw[Option.isSome_map] at q;rw[← q,← l];exact h _ (I.tok _)
theorem Cg(i:A.units+1<cLine)(I:Inv X pins σ H s)(g:DGet H a y o)(f:RelV y u)(h:∀s',Inv X pins σ H s'->Q (.bool (!o.isSome)) s') :
  wpAny (model X.prog X.w) A (compareOp .NotIn u (.ref a)) Q E s:=by
 rcases g with ⟨kvs,k,e,c,l⟩|⟨kvs,k,b,e,c,j,l⟩
 ·subst c;obtain⟨z,hd,vs,rel,d⟩:=jf I.hok e;refine wpAny_notIn_of (je f) hd d.mapOf ?_;rw[← (rel.val k).isSome_eq,← l];exact h _ (I.tok _)
 ·subst c;cases (show u=Value.ref b from f);obtain⟨z,hd,xs,rel,d⟩:=mO I.hok e;refine wpAny_notIn_heap (tupleKind_room_in1 i) (ju I.hok j) hd d ?_;have q:=(rel.val k).isSome_eq;rw[Option.isSome_map] at q;rw[← q,← l];exact h _ (I.tok _)
theorem gn{ob:HO}(I:Inv X pins σ H s)(c:Mut (H a))(hs:Heap.SameBut a s.heap h')(d:∃q,h'.get? a=some q)(new:ObjOk X.prog X.w (upd H a ob) h' a ob) :
  Inv X pins σ (upd H a ob) { s with heap:=h',toks:=t' }:=
 I.write (x:=a) (e:=a) c (.inl rfl) (λb q f z=>(hs.2 b f).trans z) d new
theorem ir{kvs:List (Key×V)}{vs:List (Key×Value)}(z:kvs.length<=sizeLine)(hd:(a==sysModules)=false)(rel:KV kvs vs)(b:h'.DictOf (ay P w) a vs) :
  ObjOk P w H' h' a (.dK kvs):=⟨z,hd,vs,rel,b⟩
theorem rX{Q:Unit->Shared->Prop}(B:A.units+1<cLine)(I:Inv X pins σ H s)(g:M4 H a y v H')(p:RelV y u)(t:RelV v r)(h:∀s',Inv X pins σ H' s'->Q () s') :
  wpAny (model X.prog X.w) A (setItem (.ref a) u r) Q E s:=by
 rcases g with ⟨kvs,k,e,m,l,n⟩|⟨kvs,k,b,e,m,x,l,n⟩
 ·subst m n;obtain⟨z,hd,vs,rel,o⟩:=rV I.hok e;have i:vs.length<=sizeLine:=by rw[← rel.length];exact z
  have j:(gQ kvs k v).length<=sizeLine:=by have:=fF kvs k v;nofun
  refine wpAny_setItem_pairs (hsz:=i) (je p) o λh' d hs=>h _ ?_;have C:∃q,h'.get? a=some q:=let ⟨q,_,_,f,_⟩:=d;⟨q,f⟩;exact gn I (by rw[e];exact True.intro) hs C (ir j hd (rel.put k t) d)
 ·subst m n;cases (show u=Value.ref b from p);obtain⟨z,hd,xs,rel,o⟩:=LF I.hok e;have i:xs.length<=sizeLine:=by rw[← aa4 rel];exact z
  have j:(gQ kvs k v).length<=sizeLine:=by have:=fF kvs k v;nofun
  refine wpAny_setItem_heap (hsz:=i) (tupleKind_room_in1 B) (ju I.hok x) o λh' d hs=>h _ ?_;obtain⟨q,es,ep,f,h2,G,F,_,D⟩:=d;refine gn I (by rw[e];exact True.intro) hs ⟨q,f⟩ ⟨j,hd,_,(rel.put k x t).keeps λc ys w=>?_,q,es,ep,f,h2,G,F,D⟩;rw[aj (Lc w e (λz=>nomatch z))];exact w
end
section
variable       {kvs:List (Key×V)}    
theorem G1{Q:Unit->Shared->Prop}(I:Inv X pins σ H s)(e:H a=some (.dK kvs))(d:RelV (kV k) u)(l:(gP kvs k).isSome=true)(h:∀s',Inv X pins σ (upd H a (.dK (jd kvs k))) s'->Q () s') :
  wpAny (model X.prog X.w) A (delItem (.ref a) u) Q E s:=by
 obtain⟨z,hd,vs,rel,c⟩:=rV I.hok e
 refine wpAny_delItem_slot c.typeIs (by decide) PySem.F.slot_dict_delitem
  (call_meetsIn PySem.F.slot_dict_delitem c.typeIs PySem.F.entry_dict_delitem (PySem.F.args_dict_delitem_2 _ _) (meets_dict_delitem_pairs (ay X.prog X.w) a (je d)) ⟨vs,c,by rw[← rel.length];exact z,by rw[← (rel.val k).isSome_eq];exact l,λh' b hs=>h _ ?_⟩)
 have g:∃q,h'.get? a=some q:=let ⟨q,_,_,f,_⟩:=b;⟨q,f⟩;exact gn I (by rw[e];exact True.intro) hs g (ir (aas (nK kvs k) z) hd (rel.drop k) b)
theorem LG{v:V}{more:List Value}(I:Inv X pins σ H s)(e:H a=some (.dK kvs))(d:RelV (kV k) u)(l:gP kvs k=some v)(g:more=[]∨∃x,more=[x])
  (h:∀b s',Inv X pins σ (upd H a (.dK (jd kvs k))) s'->RelV v b->Q b s'):wpAny (model X.prog X.w) A (call (.builtin "dict.pop") (.ref a::u::more)) Q E s:=by
 obtain⟨z,hd,vs,rel,j⟩:=rV I.hok e;obtain⟨b,m,f⟩:=RelO.some_of (v:=v) (o:=valueAt vs k) (by rw[← l];exact rel.val k)
 have p:(keyPart u).isSome=true:=by
  cases k with
  |inl i=>obtain ⟨t,q⟩:=(show ∃t,u=Value.int i t from d);subst q;rfl
  |inr x=>obtain ⟨t,q⟩:=(show ∃t,u=Value.str x t from d);subst q;rfl
 have w:argsOk "dict.pop" ⟨.ref a::u::more,[]⟩:=by
  rcases g with q|⟨x,q⟩
  ·subst q;exact PySem.F.args_dict_pop_2 _ _
  ·subst q;exact PySem.F.args_dict_pop_3 _ _ _
 refine call_meetsIn PySem.F.slot_dict_pop j.typeIs PySem.F.entry_dict_pop w (meets_dict_pop_there (ay X.prog X.w) a (je d) more g p)
  ⟨vs,b,j,by rw[← rel.length];exact z,m,λh' c hs=>h b _ ?_ f⟩
 have r:∃q,h'.get? a=some q:=let ⟨q,_,_,n,_⟩:=c;⟨q,n⟩;exact gn I (by rw[e];exact True.intro) hs r (ir (aas (nK kvs k) z) hd (rel.drop k) c)
theorem LH(I:Inv X pins σ H s)(e:Rd H a (.dK kvs))(h:∀t s',Inv X pins σ H s'->Q (.int kvs.length t) s'):wpAny (model X.prog X.w) A (call (.builtin "len") [.ref a]) Q E s:=by
 obtain⟨z,hd,vs,rel,b⟩:=jf I.hok e;refine call_len_dict hd b (by rw[← rel.length];rw[sizeLine_eq] at z;nofun) ?_;rw[← rel.length];exact h _ _ (I.tok _)
end
theorem mP(I:Inv X pins σ H s)(g:DGet H a y o):s.TypeIs (.ref a) "dict" := by
 rcases g with ⟨kvs,k,e,_,_⟩|⟨kvs,k,b,e,_,_,_⟩
 ·obtain⟨_,_,vs,_,c⟩:=jf I.hok e;exact c.typeIs
 ·obtain⟨_,_,xs,_,c⟩:=mO I.hok e;exact c.typeIs
def wB(td ty tv:TE):TS:=λD σ H=>tv σ H λv H1=>td σ H1 λx H2=>ty σ H2 λy c=>∃a b,x=.ref a/\M4 c a y v b/\D.nx σ b
section
variable  {o i value:Expr} {pos' tpos:Pos} 
theorem Ch(n:X.A.units+1<cLine)(p:PE X o td)(hi:PE X i ty)(m:PE X value tv)(hs:swapsWith value (some (.Subscript o i pos')) pos.line X.env=pure false) :
  PS X (.Assign [.Subscript o i pos'] value pos) (wB td ty tv):=by
 intro pins s σ H D I h;refine wpAny_Assign_Subscript (thn (m pins s σ H _ I h) λr c ⟨v,H1,z,f,l⟩=>thn (p pins c σ H1 _ z l) λu b ⟨x,H2,w,e,k⟩=>thn (hi pins b σ H2 _ w k) λE C r=>?_) hs;obtain⟨y,F,t,d,a,A,ex,g,j⟩:=r;subst ex;obtain rfl:u=Value.ref a:=e;exact rX n t g d f λB q=>⟨σ,A,q,j⟩
end
theorem nL(h:Heap)(a:sysModules<h.objs.size):ObjOk P w H (h.push { cls:=.type "dict", data:=.dict #[] }) h.objs.size (.dK []):=
 ⟨aan _,beq_eq_false_iff_ne.mpr (Ne.symm (aak a)),[],.nil,Heap.DictOf.new h⟩
theorem wC(h:Heap)(a:sysModules<h.objs.size):ObjOk P w H (h.push { cls:=.type "dict", data:=.dict #[] }) h.objs.size (.dT []):=
 ⟨aan _,beq_eq_false_iff_ne.mpr (Ne.symm (aak a)),[],.nil,_,#[],0,Heap.get?_push_size _ rfl,⟨rfl,rfl,rfl⟩,rfl,rfl,abS⟩
def rY:TE:=λ_ H Q=>∀p,H p=none->Q (.ref p) (upd H p (.dK []))
def rZ:TE:=λ_ H Q=>∀p,H p=none->Q (.ref p) (upd H p (.dT []))
theorem wD:PE X (.Dict [] [] pos) rY:=λpins s σ H Q I h=>
 wpAny_Dict_empty ⟨.ref s.heap.objs.size,_,I.laid (a:=s.heap.objs.size) (o:=.dK []) (t':=s.toks) (λ_ _ q=>Heap.get?_push_of_some _ q) (aac _) (nL s.heap I.big),rfl,h _ (I.hok.fresh (aac _))⟩
theorem wF:PE X (.Dict [] [] pos) rZ:=λpins s σ H Q I h=>
 wpAny_Dict_empty ⟨.ref s.heap.objs.size,_,I.laid (a:=s.heap.objs.size) (o:=.dT []) (t':=s.toks) (λ_ _ q=>Heap.get?_push_of_some _ q) (aac _) (wC s.heap I.big),rfl,h _ (I.hok.fresh (aac _))⟩
def nM:List (TE×TE)->St->Hp->(List (V×V)->Hp->Prop)->Prop
 |[],_,H,Q=>Q [] H
 |(tk,tv)::r,σ,H,Q=>tk σ H λx H1=>tv σ H1 λy H2=>nM r σ H2 λps a=>Q ((x,y)::ps) a
abbrev VV:List (V×V)->List (Value×Value)->Prop:=Paired λp q=>RelV p.1 q.1/\RelV p.2 q.2
def PPs(X:Cx)(pos:Pos)(keys:List (Option Expr))(values:List Expr)(trs:List (TE×TE)):Prop:=
 ∀(pins:List (Addr×Obj)) (s:Shared) (σ:St) (H:Hp) (Q:List (V×V)->Hp->Prop),Inv X pins σ H s->nM trs σ H Q ->
  wpAny (model X.prog X.w) X.A (evalPairs (pairTrees keys values X.env pos)) (λvs s'=>∃ps H',Inv X pins σ H' s'/\VV ps vs/\Q ps H') X.xe s
theorem Ci :PPs X pos [] [] []:=λpins s σ H Q I h=>pairTrees_nil_walk ⟨[],H,I,.nil,h⟩
theorem wG{k v:Expr}{ks:List (Option Expr)}{vs:List Expr}{tk:TE}(j:PE X k tk)(i:PE X v tv)(hr:PPs X pos ks vs trs) :
  PPs X pos (some k::ks) (v::vs) ((tk,tv)::trs):=λpins s σ H Q I h=>
 pairTrees_cons_walk (thn (j pins s σ H _ I h) λu b ⟨x,H1,n,d,g⟩=>thn (i pins b σ H1 _ n g) λq a ⟨y,H2,m,c,f⟩=>
  thn (hr pins a σ H2 _ m f) λp r ⟨ps,o,l,rel,e⟩=>⟨(x,y)::ps,o,l,.cons ⟨d,c⟩ rel,e⟩)
def cV(kvs more:List (Key×V)):List (Key×V):=more.foldl (λacc a=>gQ acc a.1 a.2) kvs
theorem KV.merge:∀{more:List (Key×V)} {a:List (Key×Value)} {kvs:List (Key×V)} {vs:List (Key×Value)},KV more a->KV kvs vs->KV (cV kvs more) (merged vs a):=by
 intro more a kvs vs r;unfold KV at r
 induction r generalizing kvs vs with
 |nil=>intro q;exact q
 | @cons p q ps d h t c=>
  intro b
  have e:KV (gQ kvs p.1 p.2) (stored vs q.1 q.2):=by
   have:=b.put p.1 h.2;rw[← h.1];exact this
  exact c e
theorem dD:∀(more kvs:List (Key×V)),(cV kvs more).length<=kvs.length+more.length
 |[],kvs=>by show kvs.length<=kvs.length+0;nofun
 | p::r,kvs=>by
  have h1:=dD r (gQ kvs p.1 p.2);have h2:=fF kvs p.1 p.2;show (cV (gQ kvs p.1 p.2) r).length<=_;rw[abM];nofun
theorem jv{P:Program}{w:World}:∀{kvs:List (Key×V)} {e:List (Value×Value)},VV (kvs.map λkv=>(kV kv.1,kv.2)) e->∃d,Carries (ay P w) e d/\KV kvs d
 |[],_,r=>by rw[List.map_nil] at r;cases r;exact⟨[],True.intro,.nil⟩
 | p::kvs,_,r=>by
  rw[abG] at r
  cases r with
  | @cons a b as bs h t=>
   obtain⟨d,c,q⟩:=jv (P:=P) (w:=w) t;obtain⟨b1,b2⟩:=b;exact⟨(p.1,b2)::d,⟨je h.1,rfl,c⟩,.cons ⟨rfl,h.2⟩ q⟩
def wH(trs:List (TE×TE)):TE:=λσ H Q=>∀p,H p=none->nM trs σ (upd H p (.dK [])) λps H2=>H2 p=some (.dK [])/\∃kvs:List (Key×V),ps=kvs.map (λa=>(kV a.1,a.2))/\kvs.length<=15/\Q (.ref p) (upd H2 p (.dK (cV [] kvs)))
theorem Cj{keys:List (Option Expr)}{values:List Expr}(h:PPs X pos keys values trs)(b:keys.all (·.isSome)=true)(t:keys.length=values.length)(v:keys≠[])
  (f:keys.length<=15):PE X (.Dict keys values pos) (wH trs):=by
 intro pins s σ H Q I q;have r:=I.hok.fresh (aac s.heap.objs.size);have y:=I.laid (a:=s.heap.objs.size) (o:=.dK []) (h':=s.heap.push { cls:=.type "dict", data:=.dict #[] }) (t':=s.toks) (λ_ _ q=>Heap.get?_push_of_some _ q) (aac _) (nL s.heap I.big);refine wpAny_Dict_walk (knd:=ay X.prog X.w) b t v f (thn (h pins _ σ _ _ y (q _ r)) λA B A=>?_);obtain⟨ps,H2,g,rel,e,kvs,ep,lk,m⟩:=A;subst ep;obtain⟨j,c,k⟩:=jv (P:=X.prog) (w:=X.w) rel;obtain⟨z,hd,i,l,x⟩:=rV g.hok e;cases l;refine⟨j,c,x,λh' d hs=>⟨.ref s.heap.objs.size,_,?_,rfl,m⟩⟩
 have n:(cV [] kvs).length<=sizeLine:=by
  have h1:=dD kvs [];rw[List.length_nil] at h1;rw[sizeLine_eq];nofun
 have u:∃q,h'.get? s.heap.objs.size=some q:=let ⟨q,_,_,p,_⟩:=d;⟨q,p⟩;exact gn g (by rw[e];exact True.intro) hs u (ir n hd (k.merge .nil) d)
structure M1(X:Cx)(o:Expr)(m:Str)(apos:Pos)(e:Expr)(cpos:Pos):Prop where
 base:attributeBase o m X.env (eval o X.env)=eval o X.env
 few:((backTo cpos (starEach [e] X.env)).all (λx=>!x.1)&&(backToKw cpos (keywordEach [] X.env)).all (λx=>x.1.isSome)
  && decide (([e]:List Expr).length+([]:List Keyword).length+(if ([]:List Keyword).isEmpty then 0 else 1)<30))=true
 line:(apos.endLine==cpos.line)=true
 trees:backTo cpos (starEach [e] X.env)=[(false,eval e X.env)]
def IsD(H:Hp)(a:Addr):Prop:=(∃kvs,Rd H a (.dK kvs))∨∃kvs,Rd H a (.dT kvs)
theorem Am(I:Inv X pins σ H s)(d:IsD H a) :
  s.TypeIs (.ref a) "dict" /\ (∀b,Value.ref a=.ref b->∃ob,s.heap.get? b=some ob/\ob.dict=none)/\(a==sysModules)=false:=by
 rcases d with ⟨kvs,e⟩|⟨kvs,e⟩
 ·obtain⟨_,hd,vs,_,c⟩:=jf I.hok e;refine⟨c.typeIs,λb q=>?_,hd⟩;cases q;obtain⟨ob,_,_,h1,h2,_⟩:=c;exact⟨ob,h1,h2.2.1⟩
 ·obtain⟨_,hd,xs,_,c⟩:=mO I.hok e;refine⟨c.typeIs,λb q=>?_,hd⟩;cases q;obtain⟨ob,_,_,h1,h2,_⟩:=c;exact⟨ob,h1,h2.2.1⟩
section
variable        {r:Value}   
theorem G2(j:A.units+1<cLine)(I:Inv X pins σ H s)(g:DGet H a y o)(i:RelV y u)(h:∀f s',Inv X pins σ H s'->RelV (o.getD .non) f->Q f s') :
  wpAny (model X.prog X.w) A (call (.builtin "dict.get") [.ref a,u]) Q E s:=by
 rcases g with ⟨kvs,k,e,d,l⟩|⟨kvs,k,b,e,d,m,l⟩
 ·subst d;obtain⟨z,hd,vs,rel,c⟩:=jf I.hok e;refine call_meetsIn PySem.F.slot_dict_get c.typeIs PySem.F.entry_dict_get (PySem.F.args_dict_get_2 _ _) (meets_dict_get (ay X.prog X.w) a (je i) hd) ⟨_,c.mapOf,h _ _ (I.tok _) ?_⟩;rw[l];exact(rel.val k).getD rfl
 ·subst d;cases (show u=Value.ref b from i);obtain⟨z,hd,xs,rel,c⟩:=mO I.hok e;refine call_meetsIn PySem.F.slot_dict_get c.typeIs PySem.F.entry_dict_get (PySem.F.args_dict_get_2 _ _) (meetsH_dict_get (tupleKind (ay X.prog X.w)) a b hd) ⟨tupleKind_room_in1 j,k,xs,ju I.hok m,c,h _ _ (I.tok _) ?_⟩;rw[l];exact(rel.val k).getD rfl
end
def r8(td ty:TE):TE:=λσ H Q=>td σ H λx H1=>∃a,x=.ref a/\IsD H1 a/\ty σ H1 λy H2=>∃o,DGet H2 a y o/\Q (o.getD .non) H2
def nN(td ty:TE):TE:=λσ H Q=>td σ H λx H1=>∃a,x=.ref a/\IsD H1 a/\ty σ H1 λy H2=>∃kvs k v,H2 a=some (.dK kvs)/\y=kV k/\gP kvs k=some v/\Q v (upd H2 a (.dK (jd kvs k)))
section
variable  {o f:Expr}  {tx:TE}
theorem wI(q:X.A.units+1<cLine)(r:PE X o td)(t:PE X e ty)(m:M1 X o "get" apos e cpos):PE X (.Call (.Attribute o "get" apos) [e] [] cpos) (r8 td ty):=by
 intro pins s σ H Q I h;refine wpAny_Call_method m.base m.few m.line PySem.F.plainAttrs_dict PySem.F.slot_dict_get PySem.F.type_dict_get (thn (r pins s σ H _ I h) λu j z=>?_);obtain⟨x,H1,c,l,a,ex,d,p⟩:=z;subst ex;obtain rfl:u=Value.ref a:=l;obtain⟨i,f,_⟩:=Am c d;refine⟨i,f,?_⟩;rw[m.trees];refine abv rfl (Calls.evalArgs_plain (Calls.spliced_cons (thn (t pins j σ H1 _ c p) λC B ⟨y,H2,w,k,ov,g,n⟩=>Calls.spliced_nil ?_)));exact G2 q w g k λz A v b=>⟨_,H2,v,b,n⟩
theorem wJ(r:PE X o td)(t:PE X e ty)(m:M1 X o "pop" apos e cpos):PE X (.Call (.Attribute o "pop" apos) [e] [] cpos) (nN td ty):=by
 intro pins s σ H Q I h;refine wpAny_Call_method m.base m.few m.line PySem.F.plainAttrs_dict PySem.F.slot_dict_pop PySem.F.type_dict_pop (thn (r pins s σ H _ I h) λu i C=>?_);obtain⟨x,H1,c,n,a,ex,d,q⟩:=C;subst ex;obtain rfl:u=Value.ref a:=n;obtain⟨g,f,_⟩:=Am c d;refine⟨g,f,?_⟩;rw[m.trees];refine abv rfl (Calls.evalArgs_plain (Calls.spliced_cons (thn (t pins i σ H1 _ c q) λF E ⟨y,H2,B,j,kvs,k,v,z,w,l,p⟩=>Calls.spliced_nil ?_)));subst w;exact LG B z j l (.inl rfl) λC D A b=>⟨v,_,A,b,p⟩
end
section
variable       {kvs:List (Key×V)}  
theorem wK(I:Inv X pins σ H s)(e:Rd H a (.dK kvs))(h:∀p s',H p=none->Inv X pins σ (upd H p (.dK kvs)) s'->Q (.ref p) s'):wpAny (model X.prog X.w) A (call (.type "dict") [.ref a]) Q E s:=by
 obtain⟨z,hd,vs,rel,f⟩:=jf I.hok e;refine kt_call_dict hd f (by rw[← rel.length];exact z) λh' c hs=>?_;refine h _ _ (I.hok.fresh (aac _)) (I.laid (a:=s.heap.objs.size) (o:=.dK kvs) (t':=s.toks) (λb q d=>?_) (aac _) (ir z (beq_eq_false_iff_ne.mpr (Ne.symm (aak I.big))) rel c));exact(hs.2 b (aak (aag d))).trans (Heap.get?_push_of_some _ d)
end
end L2
namespace Att
open PySem PySem.W PySem.Calls PyProof.Rows
variable{P:Params}{h:Heap}{n:Nat}
theorem iu :∀(ns:List Int) (vs:List Value),WellAll P h vs (ns.map WData.int)->IntsAre vs ns:=by
 intro ns
 induction ns with
 | nil=>
  intro vs w;rw[List.map_nil] at w;cases w;exact .nil
 | cons n ns c=>
  intro vs w;rw[abG] at w
  cases w with
  | cons a b=>
   cases a;exact .cons _ _ (c _ b)
theorem r9{l:OpenLaw}(u:l.most=some n){args:List WData}{b:List Value}
  (c:l.row.toRowW.claim.pre args=true) (j:WellAll P h b args) :
  ∃a vs ns,b=[Value.ref a]/\args=[WData.list (ns.map WData.int)]/\h.get? a=some { cls:=.type "list", data:=.seq vs.toArray }/\IntsAre vs ns/\ns.length<=n:=by
 have k:WShape.hasAll [] args [.list .int]=true:=(pre_splitW c).1;have m:l.pre.holds [] { args:=args }=true:=(pre_splitW c).2;obtain⟨d,r,rfl,h1,h2⟩:=hasAllW_cons k;obtain rfl:=hasAllW_nil h2;obtain⟨xs,rfl,v⟩:=hasW_list h1;obtain⟨ns,rfl⟩:=items_int v
 have e:ns.length<=n:=by
  unfold OpenLaw.pre at m
  have i:(WTm.not (.lt (.lit (.int (n:Int))) (.len (.arg 0)))).holds [] { args:=[.list (ns.map .int)] }=true:=by
   have i:=(holds_andW m).1;rw[u] at i;exact i
  have g:=condW_of i (w_not (w_lt w_lit (w_len_list (w_arg rfl))));rw[abD] at g;refine Nat.le_of_not_lt λq=>?_;have s:(n:Int)<((ns.length:Nat):Int):=by nofun
  first
   |(rw[decide_eq_true s] at g;exact absurd g (by decide))
   |(simp at g;nofun)
 cases j with
 | cons p o=>
  cases o
  cases p with
  |list t f=>exact ⟨_,_,ns,rfl,rfl,t,iu ns _ f,e⟩
theorem sd(l:OpenLaw)(args:List WData):l.row.toRowW.claim.post args (.bool true) args=true:=
 postW_of (r:=l.row.toRowW) (X:=(true==true))
  (show WShape.has [] (.bool true) .bool=true by first|rfl|decide|simp[WShape.has,WShape.arms,WShape.armsAll])
  (show (WTm.eq .res (.lit (.bool true))).value [] { args:=args,res:=some (.bool true),after:=args }=some (.bool (true==true)) from w_eq_bool (w_res rfl) w_lit) rfl
theorem attach_call{l:OpenLaw}{q:Program}{loose:List Str}{XP:(Str->Option Value)->Heap->Prop}{y:World->Heap->Prop}{d:DefRec}
  (C:l.most=some n) (s:d.params.defaults=[])
  (call:∀(w:World) (s₀ b:Shared) (mg k:Str->Option Value) (fa:Addr) (o:Obj) (pm j doc:Value) (a:Addr) (vs:List Value) (ns:List Int),
   Ground q loose [] XP w s₀ mg k b.heap->y w b.heap ->
   b.heap.get? fa=some o->o.data=.func (docDef d.name d.params d.body d.scope pm j doc)->b.heap.CodeRec j d.name->mg d.name=some (.ref fa) ->
   b.heap.get? a=some { cls:=.type "list", data:=.seq vs.toArray }->IntsAre vs ns->ns.length<=n->b.gens=#[] ->
   codeAny (model l.prog w) callerA (.call (.ref fa) ⟨[.ref a],[]⟩) (λr s'=>r=.ok (.ret (.bool true))/\OldK b.heap s'.heap/\s'.os=b.os/\AllBare s'.gens) b) :
  WalkO q loose XP y l.row.toRowW d [] (λf vs=>PySem.call f vs):=by
 intro w s₀ b mg k G Y fa o pm j doc J kV B hd t x p F args u as e v z m E;obtain rfl:J=.none:=Dflts.none x s;obtain rfl:kV=.none:=Dflts.noKw x;obtain⟨a,vs,ns,rfl,rfl,g,c,i⟩:=r9 C e m;refine enter_call (codeAny_mono (call w s₀ b mg k fa o pm j doc a vs ns G Y B (fd_plain hd) t p g c i F) λr s' A=>?_);obtain⟨rfl,h2,I,H⟩:=A;exact⟨.inl ⟨.bool true,.bool true,[],rfl,λ_=>rfl,.bool true,sd l _,λ_=>⟨List.Pairwise.nil,λ_ D=>(nomatch D)⟩⟩,h2,I,H⟩
section
variable {prog:Program} {w:World} {A:Around} {E:Value->Shared->Prop} {s:Shared} {K:Frag}
end
end Att
namespace L2
open PySem PySem.Spec PyProof.Rows
variable{P:Program}{w:World}{mg:Str->Option Value}{k:Nat}{a f p:Addr}{fd:FuncData}{x qual y:Str}{sp:Sp}{X:Cx}{st:Stmt}{ps T F:List Str}{A:Around}{H H':Hp}{xs:List V}{E:Value->Shared->Prop}{s:Shared}{elt iter tg:Expr}{ifs:List Expr}{scope:Scope}{pos:Pos}{env:Env}{pins:List (Addr×Obj)}{σ:St}{ixs:List Nat}{v:V}{wi:TI}{g:TG}{tc:TT}{te:TE}{Q:VK}
theorem lp:∀{vs:List Value} {ns:List Int},IntsAre vs ns->Vals (ns.map V.int) vs
 |_,_,.nil=>.nil
 |_,_,.cons n t h=>.cons ⟨t,rfl⟩ (lp h)
def LI(H:Hp):Prop:=∀b,H b=none∨∃o xs,H b=some (.frz o (.lst xs))
theorem wL{K:Frag}{N:Str->Option Value}{CX:CXT}{fa:Addr}{c:Shared}{vs:List Value}{ns:List Int}
  (KX:K.In c.heap) (E:c.heap.Ns mainGlobals mg) (g:c.heap.Ns builtinsNs N) (R:∀x:Str,x ≠ "__name__" -> N x=bootBuiltins x) (G:c.heap.NoLimit) (hg:c.gens=#[])
  (J:c.heap.get? a=some { cls:=.type "list", data:=.seq vs.toArray }) (hi:IntsAre vs ns) (W:ns.length<=sizeLine) (hr:Room k callerA)
  (F:∀base:Heap,K.In base->base.Ns mainGlobals mg->FnOk P w K mg base CX k fa fd [x] sp) (l:∀(s:Shared) (u:Value),BindsTo s fd ⟨[u],[]⟩ [(x,u)])
  (O:∀H:Hp,LI H->SqL K H a (ns.map V.int)->sp [.ref a] H (λv _=>v=.bl true) λ_ _ _=>False)
  (S:∀H e s',CX [] H c (λ_ _ _=>False) e s'->False) :
  codeAny (model P w) callerA (.call (.ref fa) ⟨[.ref a],[]⟩) (λr s'=>r=.ok (.ret (.bool true))/\OldK c.heap s'.heap/\s'.os=c.os/\AllBare s'.gens) c:=by
 have U:=lp hi;have C:=hi.length
 -- from an abstract heap in L nothing but A i may be y
 have core:∀H:Hp,LI H->SqL K H a (ns.map V.int)->HOk P w H c.heap->(∀b,H b≠none->b=a)->(H a≠none->K.lookup a=none) ->
   codeAny (model P w) callerA (.call (.ref fa) ⟨[.ref a],[]⟩) (λr s'=>r=.ok (.ret (.bool true))/\OldK c.heap s'.heap/\s'.os=c.os/\AllBare s'.gens) c:=by
  intro H X hS hok Y hK;have f:∀{b:Addr} {o:Obj},c.heap.get? b=some o->H b=none->(wa c.heap H).get? b=some o:=λe n=>wb e n
  have M:∀{b:Addr} {o:Obj} {es:Array DictEntry} {ep:Nat},c.heap.get? b=some o->o.data=.dict es ep->H b=none:=fun {b o es ep} e d=>by
   cases q:H b with
   |none=>rfl
   | some u=>
    have T:b=a:=Y b (by rw[q];simp);subst T;rw[J] at e;cases e;have d':Data.seq vs.toArray _=Data.dict es ep:=d;cases d'
  have j:∀{b:Addr} {m:Str->Option Value},c.heap.Ns b m->(wa c.heap H).Ns b m:=fun {b m} ⟨o,es,ep,e,d,r⟩=>⟨o,es,ep,f e (M e d),d,r⟩
  have I:K.In (wa c.heap H):=λb o e=>f (KX b o e) (by
   cases q:H b with
   |none=>rfl
   | some u=>
    have T:b=a:=Y b (by rw[q];simp);subst T;rw[hK (by rw[q];simp)] at e;cases e)
  have hM:Mod K mg (wa c.heap H):=⟨I,j E,⟨N,j g,R⟩,let ⟨mc,h1,h2⟩:=G;⟨mc,j h1,h2⟩⟩;have e0:Env0 P w K mg (wa c.heap H) callerA [] c H:=⟨rfl,hM,λb o e=>Bn e,Nat.le_of_eq (rf _ _),trivial,λb g=>absurd (show b∈([]:List Addr) from g) (by simp),hok,.of_eq hg⟩;refine codeAny_mono ((F _ I (j E)).run callerA [] c H ⟨[.ref a],[]⟩ [.ref a] [.ref a] _ _ hr e0 (l c (.ref a)) (.cons rfl .nil) (O H X hS)) λr s' h=>?_
  cases r with
  |error e=>exact (S H e s' h).elim
  | ok fl=>
   cases fl with
   |next=>exact False.elim h
   |brk=>exact False.elim h
   |cont=>exact False.elim h
   | ret u=>
    obtain⟨v,H',os,bare,un,D,r',q⟩:=h;have q':v=.bl true:=q;subst q';obtain rfl:u=Value.bool true:=r';refine⟨rfl,OldK.of_keep λb o e=>?_,os,bare⟩
    cases q:H b with
    |none=>exact un.keep b o e q (by intro z;exact absurd (show b∈([]:List Addr) from z) (by simp)) (by simp)
    | some u=>
     rcases X b with z|⟨ob,xs,z⟩
     ·rw[q] at z;cases z
     ·have z2:=un.frzs b ob _ z;obtain⟨Z,_⟩:=hok b _ z;obtain⟨e2,_⟩:=D b _ z2;rw[e] at Z;cases Z;exact e2
 cases Q:K.lookup a with
 | some o=>
  -- A i is one of A p own B
  have e:=KX a o Q;rw[J] at e;cases e;refine core (λ_=>none) (λ_=>.inl rfl) (.inr ⟨_,vs.toArray,_,Q,rfl,rfl,rfl,by rw[abN,C];exact W,(by exists U)⟩) (λb u z=>by have t:(none:Option HO)=some u:=z;cases t) (λb z=>absurd rfl z) λz=>absurd rfl z
 | none=>
  refine core (λb=>if b=a then some (.frz { cls:=.type "list", data:=.seq vs.toArray } (.lst (ns.map V.int))) else none) (λb=>?_) (.inl (.inr ⟨{ cls:=.type "list", data:=.seq vs.toArray },if_pos rfl⟩)) (λb u z=>?_) (λb z=>?_) λ_=>Q
  ·by_cases g:b=a
   ·exact .inr ⟨_,_,if_pos g⟩
   ·exact .inl (if_neg g)
  ·by_cases g:b=a
   ·have t:=(if_pos g).symm.trans z;cases t;subst g;exact⟨J,by rw[abD];exact W,vs,_,U,J⟩
   ·have t:=(if_neg g).symm.trans z;cases t
  ·by_cases g:b=a
   ·exact g
   ·exact absurd (if_neg g) z
theorem walk_of{l:PySem.W.OpenLaw}{n:Nat}{q:Program}{loose:List Str}{XP:(Str->Option Value)->Heap->Prop}{y:World->Heap->Prop}{d:DefRec}{K:Params->Frag}{CX:World->CXT}{sp:World->Sp}
  (A:l.most=some n) (m:n<=sizeLine) (r:d.params.defaults=[]) (hr:Room k callerA)
  (E:∀(w:World) (h:Heap),y w h->(K w.params).In h)
  (F:∀(w:World) (mg:Str->Option Value) (fa:Addr) (h:Heap),(K w.params).In h->h.Ns mainGlobals mg->mg d.name=some (.ref fa) ->
   ∃fd:FuncData,(∀(s:Shared) (u:Value),BindsTo s fd ⟨[u],[]⟩ [(x,u)]) /\
    ∀base:Heap,(K w.params).In base->base.Ns mainGlobals mg->FnOk l.prog w (K w.params) mg base (CX w) k fa fd [x] (sp w))
  (j:∀(w:World) (H:Hp) (a:Addr) (ns:List Int),ns.length<=n->LI H->SqL (K w.params) H a (ns.map V.int)->sp w [.ref a] H (λv _=>v=.bl true) λ_ _ _=>False)
  (t:∀(w:World) (H:Hp) (s:Shared) (e:Value) (s':Shared),CX w [] H s (λ_ _ _=>False) e s'->False) :
  PySem.W.WalkO q loose XP y l.row.toRowW d [] (λf vs=>PySem.call f vs):=by
 refine Att.attach_call A r λw s₀ g mg M fa o pm O doc a vs ns G Y N hd C p i c b B=>?_;have z:=E w _ Y;obtain⟨fd,D,L⟩:=F w mg fa _ z G.T.g p;exact wL z G.T.g G.T.b G.T.builtins G.T.nolimit B i c (aas b m) hr L D (λH J I=>j w H a ns b J I) λH e s'=>t w H g e s'
def cD(s:Stmt):Arguments:=match s with
 |.FunctionDef _ a _ _ _ _ _ _ _ _=>a
 |_=>{ posonlyargs:=[],args:=[],vararg:=none,kwonlyargs:=[],kw_defaults:=[],kwarg:=none,defaults:=[] }
def bu(s:Stmt):List Stmt:=match s with
 |.FunctionDef _ _ b _ _ _ _ _ _ _=>b
 |_=>[]
def aw(s:Stmt):Scope:=match s with
 |.FunctionDef _ _ _ _ _ _ a _ _ _=>a
 |_=>{ kind:=.function,names:=[],isGenerator:=false,isCoroutine:=false }
abbrev CX0:CXT:=λ_ _ _ _ _ _=>False
abbrev E0:XK:=λ_ _ _=>False
theorem wM :im CX0 X E0:=λ_ _ _ _ _ _ _ h=>h.elim
structure Fun(K:Frag)(x qual:Str)(st:Stmt)(f:Addr)(fd:FuncData):Prop where
 ex:∃(oc:Value) (od:Option Addr) (kV doc pm:Value) (an:Option Addr) (cdv ct:Value) (osl:Array (Option Value)),
  fd=PySem.W.fnOf x qual (cD st) (bu st) (aw st) .none kV doc pm an cdv ct/\K.lookup f=some ⟨oc,od,.func fd,osl⟩/\PySem.W.codeIn K cdv qual=true
 kp:PySem.W.keepIn K (.ref f)=true
section
variable   {K:Frag}  {base:Heap}
theorem Fun.ok{N:List Str}(F:Fun K x qual st f fd)(S:FnScope N ps (aw st))(len:∀vs H Q E,sp vs H Q E->vs.length=ps.length)
  (a:∀(cdv:Value) (A:Around) (outer:List Env) (s:Shared) (H:Hp) (vs:List V) (Q:VK) (E:XK),Room k (A.deeper (envOfC qual (aw st) s.heap.objs.size f cdv))->sp vs H Q E ->
   ∃t,PSs (rP CX0 P w K mg base N qual (aw st) f cdv A outer s H E).nox (bu st) t/\t { nx:=λ_ H'=>Q .non H',rt:=Q } (start N vs) H):FnOk P w K mg base CX0 (k+1) f fd ps sp:=by
 obtain⟨oc,od,kV,doc,pm,an,cdv,ct,osl,rfl,lk,c⟩:=F.ex;refine LA lk c S len λA outer s H vs Q E hr b=>?_;obtain⟨t,h,q⟩:=a cdv A outer s H vs Q E hr b;exact⟨t,h.nox,q⟩
theorem Fun.binds(F:Fun K x qual st f fd)
  (h:∀(kV doc pm:Value) (an:Option Addr) (cdv ct:Value) (us:List Value),us.length=ps.length->bindArgs (PySem.W.fnOf x qual (cD st) (bu st) (aw st) .none kV doc pm an cdv ct) ⟨us,[]⟩=pure (ps.zip us)):Binds K fd ps []:=by
 obtain⟨oc,od,kV,doc,pm,an,cdv,ct,osl,rfl,lk,a⟩:=F.ex;exact .all (h kV doc pm an cdv ct)
theorem An{oc:Value}{od an:Option Addr}{osl:Array (Option Value)}{kV doc pm cdv ct:Value}(l:K.lookup f=some ⟨oc,od,.func (PySem.W.fnOf x qual (cD st) (bu st) (aw st) .none kV doc pm an cdv ct),osl⟩)
  (c:PySem.W.codeIn K cdv qual=true) (k:PySem.W.keepIn K (.ref f)=true):Fun K x qual st f (PySem.W.fnOf x qual (cD st) (bu st) (aw st) .none kV doc pm an cdv ct):=⟨⟨oc,od,kV,doc,pm,an,cdv,ct,osl,rfl,l,c⟩,k⟩
end
theorem LJ(hr:Room k A):A.units+1<cLine:=Nat.lt_of_le_of_lt (Nat.add_le_add_left (by decide:1<=64) _) hr.units
def Same(H H':Hp):Prop:=∀b o,H b=some o->H' b=some o
theorem Same.refl(H:Hp):Same H H:=λ_ _ h=>h
theorem Same.trans{H1 H2:Hp}(a:Same H H1)(b:Same H1 H2):Same H H2:=λc o h=>b c o (a c o h)
theorem Same.free(e:Same H H'){l:Addr}(h:H' l=Option.none):H l=Option.none:=by
 cases q:H l with
 |none=>rfl
 | some o=>
  rw[e l o q] at h;cases h
theorem Same.seq{K:Frag}(e:Same H H')(h:SqL K H a xs):SqL K H' a xs:=by
 rcases h with (h|⟨o,h⟩)|h
 ·exact .inl (.inl (e _ _ h))
 ·exact .inl (.inr ⟨o,e _ _ h⟩)
 ·exact .inr h
section
variable {κ:Type} [DecidableEq κ]
end
section
variable {prog:Program}    {R:Result->Shared->Prop} 
theorem lq{target:Expr}{it acc:Value}(I:Nat->Shared->Prop)
  (l:∀n s,I n s->wpAny (model prog w) A (pyNext it) (λr d=>match r with
   |none=>R (.ok .next) d
   | some v=>wpAny (model prog w) A (letOwnedTupleGo target it v) (λ_ b=>wpAny (model prog w) A (assign target env v) (λ_ g=>
     wpAny (model prog w) A (forIn ifs true λc r=>if r=true then do let ok ← isTrue c env (eval c env);pure (ForInStep.yield ok) else pure (ForInStep.yield r)) (λok a=>
      if ok=true then wpAny (model prog w) A (eval elt env) (λx f=>
       wpAny (model prog w) A (call (.builtin "list.append") [acc,x]) (λ_ e=>∃m,m<n/\I m e) (λ_ _=>False) f) (λ_ _=>False) a
      else ∃m,m<n/\I m a) (λ_ _=>False) g) (λ_ _=>False) b) (λ_ _=>False) d) (λ_ _=>False) s)
  (n:Nat) (h:I n s) :
  codeAny (model prog w) A (.compLoop (.ListComp elt [⟨target,iter,ifs,0⟩] scope pos) 0 it acc env) R s:=by
 refine codeAny_loop rfl I (λn s t=>?_) n h;show wpAny _ A ((compTurn (.ListComp elt [⟨target,iter,ifs,0⟩] scope pos) 0 it acc env).onRaise (λx=>do noteFrame x env;theTreesLotGoes x)) _ _ s;refine wpAny_noted ?_;rw[compTurn_list];refine aaa (wpAny_standAt (aaa (abp (l n s t) (λr d j=>?_) λ_ _ h'=>h'.elim)))
 cases r with
 |none=>exact aaf j
 | some v=>
  refine aaa (abp j (λ_ b k=>?_) λ_ _ h'=>h'.elim);refine aaa (abp k (λ_ g q=>aaa (abp q (λok a i=>?_) λ_ _ h'=>h'.elim)) λ_ _ h'=>h'.elim)
  cases ok with
  |false=>exact aaf ⟨rfl,i⟩
  | true=>
   exact aaa (aaa (abp i (λx f p=>aaa (abp p (λ_ e o=>aaf (aaf ⟨rfl,o⟩)) λ_ _ h'=>h'.elim)) λ_ _ h'=>h'.elim))
end
def F7(X:Cx)(ifs:List Expr)(t:TT):Prop:=
 ∀(pins:List (Addr×Obj)) (s:Shared) (σ:St) (H:Hp) (Q:Bool->Hp->Prop),Inv X pins σ H s->t σ H Q ->
  wpAny (model X.prog X.w) X.A (forIn ifs true λc r=>if r=true then do let ok ← isTrue c X.env (eval c X.env);pure (ForInStep.yield ok) else pure (ForInStep.yield r)) (TP X pins σ Q) X.xe s
def LK:TT:=λ_ H Q=>Q true H
theorem Ck :F7 X [] LK:=λ_ _ _ H _ I h=>wpAny_tests_nil ⟨H,I,h⟩
theorem Cm{c:Expr}{t:TT}(h:PT X c t):F7 X [c] t:=λpins s σ H Q I q=>wpAny_tests_one (h pins s σ H Q I q)
def bo(X:Cx)(N:List Str)(scope:Scope)(cl:List (Str×Addr))(C:Addr)(s:Shared)(H:Hp)(fp:List Addr):Cx:=
 { X with N:=N,s₀:=s,H₀:=H,env:=compEnvC scope cl C X.env,outer:=X.stack,ex:=fp,fn:=λ_=>false,pn:=[],xe:=λ_ _=>False }
def lr(σ:St)(ixs:List Nat):St:=ixs.map λi=>(σ[i]?).getD none
structure CompScope(X:Cx)(T F:List Str)(ixs:List Nat)(scope:Scope):Prop where
 kind:scope.kind=.function
 nocell:∀y∈scope.names,y.2≠.cell
 names:∀y∈scope.names,y.2=.local->scope.names.lookup y.1=some .local
 cap:∀(j:Nat) (i:Nat) (x:Str),ixs[j]?=some i->F[j]?=some x->X.N[i]?=some x/\scope.names.lookup x=some .free
 len:ixs.length=F.length
 out:∀y∈scope.names,y.2=.free->X.env.scope.names.lookup y.1=some .cell∨X.env.scope.names.lookup y.1=some .free
def aG(env:Env):List (Str×NameKind)->List (Str×Addr)->List (Str×Addr)
 |[],a=>a
 |(n,k)::r,a=>if k==.free then aG env r ((n,(env.cells.lookup n).getD 0)::a) else aG env r a
theorem jY(h:∀y∈scope.names,y.2=.free->∃c,env.cells.lookup y.1=some c):closureFor scope env=pure (aG env scope.names []):=by
 unfold closureFor
 have gen:∀(l:List (Str×NameKind)) (a:List (Str×Addr)),(∀y∈l,y.2=.free->∃c,env.cells.lookup y.1=some c) ->
   (do
    let mut a:=a
    for (name,kind) in l do
     if kind==.free then a:=(name,← cellOf env name)::a
    return a:Sem (List (Str×Addr)))=pure (aG env l a):=by
  intro l
  induction l with
  |nil=>intro a _;rfl
  | cons p r g=>
   intro a i;obtain⟨n,k⟩:=p;have hr:=λy j=>i y (aae _ j);by_cases d:k=.free
   ·obtain⟨c,f⟩:=i (n,k) aab d;have f:env.cells.lookup n=some c:=f;have e:=g ((n,(env.cells.lookup n).getD 0)::a) hr;subst d;simp only[aG,List.forIn_cons,f,cellOf] at e ⊢;simpa using e
   ·have e:=g a hr;have b:(k==NameKind.free)=false:=(by exists d);simp only[aG,List.forIn_cons,b,if_neg Bool.false_ne_true] at e ⊢;simpa using e
 exact gen scope.names [] h
theorem dE{env:Env}:∀{l:List (Str×NameKind)} {cs:List (Str×Addr)} {x:Str} {c:Addr},(∀y∈l,y.2=.free->∃c,env.cells.lookup y.1=some c)->(∀x c,cs.lookup x=some c->env.cells.lookup x=some c) ->
  (aG env l cs).lookup x=some c->env.cells.lookup x=some c
 |[],cs,x,c,_,a,h=>a x c h
 | (n,k)::r,cs,x,c,g,a,h=>by
  have hr:=λy i=>g y (aae _ i);unfold aG at h;split at h
  ·rename_i j;have b:k=.free:=(by exists j);obtain⟨m,d⟩:=g (n,k) aab b;have d:env.cells.lookup n=some m:=d;refine dE hr (λf c' h'=>?_) h;rw[aaF] at h';split at h'
   ·rename_i e;have e:f=n:=(by exists e);subst e;rw[d] at h' ⊢;simpa using h'
   ·exact a f c' h'
  ·exact dE hr a h
theorem eX{env:Env}:∀{l:List (Str×NameKind)} {cs:List (Str×Addr)} {x:Str},((x,NameKind.free)∈l∨∃c,cs.lookup x=some c)->∃c,(aG env l cs).lookup x=some c
 | [],cs,x,h=>by
  rcases h with h|h
  ·cases h
  ·exact h
 | (n,k)::r,cs,x,h=>by
  unfold aG;split
  ·rename_i a;have b:k=.free:=(by exists a);refine eX ?_;rcases h with h|h
   ·rcases abI.mp h with e|h
    ·have e:x=n:=by injection e
     subst e;exact .inr ⟨(env.cells.lookup x).getD 0,by rw[aaF];simp⟩
    ·exact .inl h
   ·obtain⟨c,h⟩:=h;refine .inr ?_;rw[aaF];split
    ·exact⟨_,rfl⟩
    ·exact⟨c,h⟩
  ·rename_i a;refine eX ?_;rcases h with h|h
   ·rcases abI.mp h with e|h
    ·have e:NameKind.free=k:=by injection e
     subst e;simp at a
    ·exact .inl h
   ·exact .inr h
theorem dF{env:Env}:∀{names:List (Str×NameKind)} {x:Str} {q:NameKind},
  (names.map λ(n,k)=>if (k==NameKind.free&&env.scope.kind==.function&&env.kindOf n==some .cell) then (n,NameKind.cell) else (n,k)).lookup x=some q ->
  names.lookup x=some q∨(q=.cell/\names.lookup x=some .free)
 |[],_,_,h=>by simp at h
 | (n,k)::r,x,q,h=>by
  have c:=@dF env r x q;rw[abG] at h;dsimp only at h;by_cases b:(k==NameKind.free&&env.scope.kind==.function&&env.kindOf n==some .cell)=true
  ·rw[if_pos b,aaF] at h;rw[aaF]
   cases a:x==n with
   | true=>
    rw[a] at h
    have d:k=.free:=by
     simp only[Bool.and_eq_true] at b;simpa using b.1.1
    exact .inr ⟨(aaj h).symm,by rw[d]⟩
   |false=>rw[a] at h;exact c h
  ·rw[if_neg b,aaF] at h;rw[aaF]
   cases a:x==n with
   |true=>rw[a] at h;exact .inl h
   |false=>rw[a] at h;exact c h
theorem gF{env:Env}:∀{names:List (Str×NameKind)} {x:Str},names.lookup x=some .free ->
  (names.map λ(n,k)=>if (k==NameKind.free&&env.scope.kind==.function&&env.kindOf n==some .cell) then (n,NameKind.cell) else (n,k)).lookup x=some .cell ∨
  (names.map λ(n,k)=>if (k==NameKind.free&&env.scope.kind==.function&&env.kindOf n==some .cell) then (n,NameKind.cell) else (n,k)).lookup x=some .free
 |[],_,h=>by simp at h
 | (n,k)::r,x,h=>by
  have b:=@gF env r x;rw[abG];dsimp only;rw[aaF] at h;by_cases c:(k==NameKind.free&&env.scope.kind==.function&&env.kindOf n==some .cell)=true
  ·rw[if_pos c,aaF]
   cases a:x==n with
   |true=>exact .inl rfl
   |false=>rw[a] at h;exact b h
  ·rw[if_neg c,aaF]
   cases a:x==n with
   |true=>rw[a] at h;exact .inr h
   |false=>rw[a] at h;exact b h
def gR(no:Nat)(ixs:List Nat)(wi:TI)(g:TG)(tc:TT)(te:TE):TE:=λσ H Q=>wi σ H λJ H1=>∀D,H1 D=none->∃W:Nat->Nat->List V->St->Hp->Prop,
 (∃m,W 0 m [] (List.replicate no none++lr σ ixs) (upd H1 D (.lst [])))/\∀i m acc e H',W i m acc e H' ->
  (J.stop i H'/\Q (.ref D) H') ∨
  (J.go i H'/\∃N:List V->St->Hp->Prop,(∀c d H2,N c d H2->∃f,f<m/\W (i+1) f c d H2) /\
   ∀x H2,J.yld i H' x H2->g x e H2 λa l=>tc a l λb k=>if b=true then te a k λy j=>j D=some (.lst acc)/\acc.length<sizeLine/\N (acc++[y]) a (upd j D (.lst (acc++[y]))) else N acc a k)
section
variable         {fp:List Addr}
theorem Cn(I:Inv X pins σ H s)(S:CompScope X T F ixs scope)(a:∀b∈fp,rn X pins H b)(j:∀b∈fp,∃o,s.heap.get? b=some o) :
  (bo X (T++F) scope (aG X.env scope.names []) s.heap.objs.size s H fp).Ok:=by
 have i:∀y∈scope.names,y.2=.free->∃c,X.env.cells.lookup y.1=some c:=λy m k=>by
  rcases S.out y m k with e|e
  ·exact I.ok.has _ (.inl e)
  ·exact I.ok.has _ (.inr e)
 have f:∀x c,(aG X.env scope.names []).lookup x=some c->X.env.cells.lookup x=some c:=λx c h=>dE i (λ_ _ z=>by simp at z) h;refine⟨I.ok.mod,S.kind,I.ok.glob,I.ok.blt,aac _,λx y c h1 h2=>I.ok.inj x y c (f x c h1) (f y c h2),λx d=>?_,λ_ _ z=>(nomatch z),I.ok.hd,I.ok.frames,.inl rfl,λb g=>⟨?_,λx c e=>?_⟩,I.bs,aas I.ok.bsz I.sz,λb o e g=>?_,λb g l=>?_,I.stack,I.stkFree⟩
 ·have d:(relabel scope X.env).names.lookup x=some .cell∨(relabel scope X.env).names.lookup x=some .free:=d
  have k:scope.names.lookup x=some .free:=by
   rcases d with d|d
   ·rcases dF d with q|⟨_,q⟩
    ·exact absurd rfl (S.nocell _ (aaS q))
    ·exact q
   ·rcases dF d with q|⟨z,_⟩
    ·exact q
    ·cases z
  exact eX (.inl (aaS k))
 ·obtain⟨o,n⟩:=j b g;exact aak (aag n)
 ·exact(a b g).2.2.2.2.1 x c (f x c e)
 ·rcases (a b g).2.2.2.1 with z|z
  ·exact I.ok.noex b o e z
  ·exact absurd (aao (aag e) (aas I.ok.bsz z)) (aaO _)
 ·rcases abI.mp (I.stkSub b l) with e|z
  ·exact(a b g).2.1 e
  ·exact(a b g).2.2.1 z
theorem se{j:Nat}(h:(lr σ ixs)[j]?=some (some v)):∃i,ixs[j]?=some i/\σ[i]?=some (some v):=by
 unfold lr at h;rw[List.getElem?_map] at h
 cases e:ixs[j]? with
 |none=>rw[e] at h;cases h
 | some i=>
  rw[e] at h;refine⟨i,rfl,?_⟩;have h:(σ[i]?).getD none=some v:=aaj h
  cases q:σ[i]? with
  |none=>rw [q] at h;cases h
  |some u=>rw [q] at h;exact congrArg some h
theorem wN(I:Inv X pins σ H s)(S:CompScope X T F ixs scope)(C:∀b∈fp,rn X pins H b)(D:∀b∈fp,∃o,s.heap.get? b=some o){h':Heap}{t':Nat}{m:Str->Option Value}
  (B:∀b o,s.heap.get? b=some o->h'.get? b=some o) (O:h'.Ns s.heap.objs.size m) :
  Inv (bo X (T++F) scope (aG X.env scope.names []) s.heap.objs.size s H fp) [] (List.replicate T.length none++lr σ ixs) H { s with heap:=h',toks:=t' }:=by
 have ok:=Cn I S C D
 have l:∀y∈scope.names,y.2=.free->∃c,X.env.cells.lookup y.1=some c:=λy J w=>by
  rcases S.out y J w with e|e
  ·exact I.ok.has _ (.inl e)
  ·exact I.ok.has _ (.inr e)
 have f:∀x c,(aG X.env scope.names []).lookup x=some c->X.env.cells.lookup x=some c:=λx c h=>dE l (λ_ _ z=>by simp at z) h;have a:∀c v,s.heap.IsCell c v->h'.IsCell c v:=λc v ⟨o,M,hd⟩=>⟨o,B c o M,hd⟩;refine⟨ok,rfl,I.bare,Un.kept B,⟨m,O,λj x v A n V=>?_⟩,λx c e=>?_,I.hok.fresh (aac _),λx c e=>I.freeC x c (f x c e),λp L=>absurd (show p∈([]:List (Addr×Obj)) from L) (by simp),I.hok.kept B,?_⟩
 ·have t:T.length<=j:=by
   refine Nat.le_of_not_lt λt=>?_;rw[List.getElem?_append_left (by exists t),List.getElem?_replicate] at n;split at n <;> cases n
  rw[List.getElem?_append_right (by exists t),aaV] at n;have A:(T++F)[j]?=some x:=A;rw[List.getElem?_append_right t] at A;obtain⟨i,hi,K⟩:=se n;obtain⟨R,w⟩:=S.cap _ i x hi A;obtain⟨U,N,P⟩:=I.loc;have E:=aaS w;have d:X.env.scope.names.lookup x=some .cell∨X.env.scope.names.lookup x=some .free:=S.out _ E rfl;obtain⟨u,G,lk⟩:=P i x v R K (d.elim (λz=>.inr (.inl z)) λz=>.inr (.inr z));refine⟨u,G,?_⟩;rcases lk with ⟨r,_⟩|⟨_,c,Q,g⟩
  ·have r:X.env.scope.names.lookup x=some .local:=r;rcases d with z|z
   ·rw[r] at z;cases z
   ·rw[r] at z;cases z
  ·obtain⟨c',k⟩:=eX (env:=X.env) (cs:=[]) (.inl E)
   have e:c'=c:=by
    have:=f x c' k;rw[Q] at this;exact(aaj this).symm
   subst e;exact .inr ⟨gF w,c',k,a c' _ g⟩
 ·obtain⟨v,q⟩:=I.cell x c (f x c e);exact⟨v,a c v q⟩
 ·show _=(T++F).length;rw[abH,aaV,abH,lr,abD,S.len]
theorem nO{pos':Pos}(hc:X.calm=true)(S:CompScope X T F ixs scope)
  (hi:PI X tg iter wi)
  (hg:∀C s H fp,PG (bo X (T++F) scope (aG X.env scope.names []) C s H fp) tg g)
  (ht:∀C s H fp,F7 (bo X (T++F) scope (aG X.env scope.names []) C s H fp) ifs tc)
  (he:∀C s H fp,PE (bo X (T++F) scope (aG X.env scope.names []) C s H fp) elt te)
  (hs:∀x,foldedSetIterable iter X.env x=pure x) {use:Option (Value->Sem Unit)} {QQ:Value->Shared->Prop}      (I:Inv X pins σ H s) (h:gR T.length ixs wi g tc te σ H Q)
  (fine:∀(D C:Addr) (G:Hp) (E:Shared) (f:Flow),(∃m,E.heap.Ns C m)->G C=none->C≠X.env.locals->(∀x c,X.env.cells.lookup x=some c->c≠C)->X.s₀.heap.objs.size<=C->(∀p∈X.pn++pins,p.1≠C) ->
   (∀h7,Heap.SameBut C E.heap h7->Inv X pins σ G { E with heap:=h7 })->Q (.ref D) G->compPost (model X.prog X.w) X.A X.xe use QQ (.ref D) C (.ok f) E) :
  wpAny (model X.prog X.w) X.A (comprehension (.ListComp elt [⟨tg,iter,ifs,0⟩] scope pos) scope X.env pos' (newList []) false (eval iter X.env) use) QQ X.xe s:=by
 have hall:∀y∈scope.names,y.2=.free->∃c,X.env.cells.lookup y.1=some c:=λy hy hf=>by
  rcases S.out y hy hf with e|e
  ·exact I.ok.has _ (.inl e)
  ·exact I.ok.has _ (.inr e)
 refine wpAny_comprehension_free (use:=use) (cl:=aG X.env scope.names []) rfl hs (jY hall) S.kind S.names (thn (hi pins s σ H _ I h) λv s1 h1=>thn h1 λitv A h2=>?_);obtain⟨it,fp,tn,J,H2,e,I2,TT,st2,f2,q2⟩:=h2;subst e;refine aaK ?_
 -- the list is laid
 have U:Inv X pins σ (upd H2 A.heap.objs.size (.lst [])) { A with heap:=A.heap.push { cls:=.type "list", dict:=none,data:=.seq ([]:List Value).toArray } }:=
  I2.laid (t':=A.toks) (λb u q=>Heap.get?_push_of_some _ q) (aac _) ⟨aan _,[],0,.nil,Heap.get?_push_size _ rfl⟩
 have hD:H2 A.heap.objs.size=none:=I2.hok.fresh (aac _);have hfo:∀b∈fp,∃o,A.heap.get? b=some o:=λb a=>let ⟨o,e,_⟩:=TT.obj _ _ st2 b a;⟨o,e⟩;have neD:∀b∈fp,b≠A.heap.objs.size:=λb a=>by obtain⟨o,e⟩:=hfo b a;exact aak (aag e)
 have f3:∀b∈fp,rn X pins (upd H2 A.heap.objs.size (.lst [])) b:=λb a=>by
  obtain⟨a1,a2⟩:=f2 b a;exact⟨by rw[aj (neD b a)];exact a1,a2⟩
 obtain⟨W,⟨m0,w0⟩,turn⟩:=q2 A.heap.objs.size hD;generalize hs3:({ A with heap:=A.heap.push { cls:=.type "list", dict:=none,data:=.seq ([]:List Value).toArray } }:Shared)=l at U ⊢;generalize hH3:upd H2 A.heap.objs.size (.lst [])=H3 at U f3 w0
 have hfo3:∀b∈fp,∃o,l.heap.get? b=some o:=λb a=>by
  obtain⟨o,e⟩:=hfo b a;rw[← hs3];exact⟨o,Heap.get?_push_of_some _ e⟩
 have st3:tn 0 l.heap:=TT.keep _ _ _ st2 λb a o e=>by rw[← hs3];exact Heap.get?_push_of_some _ e
 refine wpAny_newFunctionEnv S.nocell (by intro y hy;simp at hy) (λh4 hns4 hsb4=>?_) S.kind;have old:∀b o,l.heap.get? b=some o->h4.get? b=some o:=λb o e=>hsb4.extBut b o (aak (aag e)) (Heap.get?_push_of_some _ e);have J4:=wN U S f3 hfo3 (t':=l.toks+([]:List (Str×Value)).length) old hns4;generalize hs4:({ l with heap:=h4,toks:=l.toks+([]:List (Str×Value)).length }:Shared)=s4 at J4 ⊢;have st4:tn 0 s4.heap:=by rw[← hs4];exact TT.keep _ _ _ st3 λb a o e=>old b o e
 have hg':=hg l.heap.objs.size l H3 fp;have ht':=ht l.heap.objs.size l H3 fp;have he':=he l.heap.objs.size l H3 fp;generalize O:bo X (T++F) scope (aG X.env scope.names []) l.heap.objs.size l H3 fp=Y at J4 hg' ht' he';have yA:Y.A=X.A:=by rw[← O];rfl
 have yP:Y.prog=X.prog:=by rw[← O];rfl
 have Z:Y.w=X.w:=by rw[← O];rfl
 have yK:Y.K=X.K:=by rw[← O];rfl
 have yC:Y.calm=true:=by rw[← O];exact hc
 have yE:Y.env=compEnvC scope (aG X.env scope.names []) l.heap.objs.size X.env:=by rw[← O];rfl
 have yX:Y.xe=λ_ _=>False:=by rw[← O];rfl
 have fY:∀{H':Hp},(∀b∈fp,H' b=none)->∀b∈fp,rn Y [] H' b:=λhn b a=>by
  have k:=J4.ok;rw[← O] at k ⊢;exact⟨hn b a,(k.exf b a).1,k.exfs b a,.inl a,(k.exf b a).2,λp hp=>absurd (show p∈([]:List (Addr×Obj)) from hp) (by simp)⟩
 have P:codeAny (model X.prog X.w) X.A (.compLoop (.ListComp elt [⟨tg,iter,ifs,0⟩] scope pos) 0 (.ref it) (.ref A.heap.objs.size) (compEnvC scope (aG X.env scope.names []) l.heap.objs.size X.env))
   (compPost (model X.prog X.w) X.A X.xe use QQ (.ref A.heap.objs.size) l.heap.objs.size) s4:=by
  refine lq (λn s'=>∃i acc t H',Inv Y [] t H' s'/\tn i s'.heap/\(∀b∈fp,H' b=none)/\W i n acc t H') ?_ m0 ⟨0,[],_,H3,J4,st4,λb a=>(f3 b a).1,w0⟩;rintro n s5 ⟨i,acc,L,G,J5,st5,fr5,w5⟩;rcases turn i n acc L G w5 with ⟨stop,qn⟩|⟨go,N,hN,step⟩
  ·have fin:=TT.done Y yP Z yK yC i [] s5 L G (λ_ _=>False) J5 (fY fr5) st5 stop;rw[yA] at fin;refine thn fin λr E r=>?_;obtain⟨hr,J6⟩:=r;subst hr
   -- the block is left
   obtain⟨m,hm,_⟩:=id J6.loc;have hm:E.heap.Ns l.heap.objs.size m:=by rw[yE] at hm;exact hm
   have w:=J6.base;have M:=J6.os;have j:=J6.free;have hbare:=J6.bare;have hok6:HOk X.prog X.w G E.heap:=by have:=J6.hok;rw[yP,Z] at this;exact this
   rw[yE] at j;have j:G l.heap.objs.size=none:=j;rw[← O] at w M;have w:Un (frs X.stack) fp H3 G l.heap E.heap:=w;have M:E.os=l.os:=M;have ltC:∀b o,l.heap.get? b=some o->b≠l.heap.objs.size:=λb o e=>aak (aag e);refine fine _ _ G E _ ⟨m,hm⟩ j ?hl ?hcl U.sz ?hpn (λh7 R=>?_) qn
   case hl=>exact λz=>aaO _ (z ▸ U.lt)
   case hcl=>exact λx c e z=>by obtain⟨v,o,ho,_⟩:=U.cell x c e;exact ltC c o ho z
   case hpn=>exact λp hp z=>ltC p.1 p.2 (U.pin p hp).1 z
   have same:∀b,b<l.heap.objs.size->h7.get? b=E.heap.get? b:=λb a=>R.2 b (aak a)
   have hok7:HOk X.prog X.w G h7:=λb o e=>by
    refine(hok6 b o e).stay (λc w' hc q=>(R.2 c ?_).trans q) (λ_ q=>q) λ_ _ q=>q;rintro rfl;rcases hc with z|z
    ·rw[← z,j] at e;cases e
    ·rw[j] at z;cases z
   have un7:Un (frs X.stack) fp H3 G l.heap h7:=
    ⟨λb o e n a hx=>(same b (aag e)).trans (w.keep b o e n a hx),λb o e n a hx=>by
     obtain⟨sl,q⟩:=w.slot b o e n a hx;exact⟨sl,(same b (aag e)).trans q⟩,w.free,λb o e hx=>by
     obtain⟨o',q⟩:=w.there b o e hx;exact⟨o',(same b (aag e)).trans q⟩,w.tups,w.frzs,w.tbls⟩
   exact U.call' (s':={ E with heap:=h7 }) M un7 hok7 hbare λb a=>by
    obtain⟨_,a2,a3,a4,a5,a6⟩:=f3 b a;exact⟨a4,a2,a5,a6⟩
  ·have nx:=TT.item Y yP Z yK yC i [] s5 L G (λ_ _=>False) J5 (fY fr5) st5 go;rw[yA] at nx;refine thn nx λr E x0=>?_;obtain⟨u,hr,h6⟩:=x0;subst hr;refine thn h6 λ_ s7 x1=>?_;obtain⟨x,H7,J7,r7,y7,st7,fr7⟩:=x1;have J7':=J7.pinned (fY fr7) (TT.obj _ _ st7);have asg:=hg' _ s7 L H7 x u _ J7' r7 (step x H7 y7);rw[yA,yP,Z,yE,yX] at asg;refine thn asg λ_ s8 x2=>?_;obtain⟨K,H8,J8,q8⟩:=x2;have tst:=ht' _ s8 K H8 _ J8 q8;rw[yA,yP,Z,yE,yX] at tst;refine thn tst λb s9 ⟨H9,J9,q9⟩=>?_
   have again:∀{s':Shared} {B:List V} {t:St} {H':Hp},Inv Y ([]++jp fp s7.heap) t H' s'->N B t H'->∃m,m<n/\∃i acc t H',Inv Y [] t H' s'/\tn i s'.heap/\(∀b∈fp,H' b=none)/\W i m acc t H':=fun {s' B t H'} K7 n7=>by
    obtain⟨m',hm,w7⟩:=hN B t H' n7;refine⟨m',hm,i+1,B,t,H',K7.unpinned,TT.keep _ _ _ st7 λb a o e=>(K7.pin (b,o) (aal _ (aal _ (eW a e)))).1,λb a=>?_,w7⟩;obtain⟨o,e,d⟩:=TT.obj _ _ st7 b a;exact(K7.pin (b,o) (aal _ (aal _ (eW a e)))).2.1
   cases b with
   | false=>
    rw[if_neg abK] at q9 ⊢;exact again J9 q9
   | true=>
    rw[if_pos rfl] at q9 ⊢;have elv:=he' _ s9 K H9 _ J9 q9;rw[yA,yP,Z,yE,yX] at elv;refine thn elv λu10 s10 x3=>?_;obtain⟨y,H10,J10,r10,q10⟩:=x3;obtain⟨hl,hz,qN⟩:=q10;have app:=ll (X:=Y) ([]++jp fp s7.heap) s10 K H10 (.ref A.heap.objs.size) [y] (.ref A.heap.objs.size) [u10] (λ_ H'=>N (acc++[y]) K H') J10 rfl (.cons r10 .nil) ⟨_,acc,y,rfl,rfl,hl,hz,qN⟩;rw[yA,yP,Z,yX] at app;exact thn app λ_ s11 ⟨_,H11,J11,_,q11⟩=>again J11 q11
 exact codeAny_compStart_list P (TT.self _ 0 _ _ _ st4 P)
theorem Co(i:X.calm=true)(S:CompScope X T F ixs scope)
  (hi:PI X tg iter wi)
  (d:∀C s H fp,PG (bo X (T++F) scope (aG X.env scope.names []) C s H fp) tg g)
  (b:∀C s H fp,F7 (bo X (T++F) scope (aG X.env scope.names []) C s H fp) ifs tc)
  (e:∀C s H fp,PE (bo X (T++F) scope (aG X.env scope.names []) C s H fp) elt te)
  (hs:autoParam (∀x,foldedSetIterable iter X.env x=pure x) L2.aI._auto_1) :
  PE X (.ListComp elt [⟨tg,iter,ifs,0⟩] scope pos) (gR T.length ixs wi g tc te):=by
 intro pins s σ H Q I h;rw[eval_ListComp];exact nO i S hi d b e hs I h λD C l n f ⟨m,c⟩ _ _ _ _ _ a q=>⟨m,c,λj k=>⟨.ref D,l,a j k,rfl,q⟩⟩
theorem Cp{i:Nat}{py c:Pos}(O:X.calm=true)(S:CompScope X T F ixs scope)
  (hi:PI X tg iter wi)
  (L:∀C s H fp,PG (bo X (T++F) scope (aG X.env scope.names []) C s H fp) tg g)
  (G:∀C s H fp,F7 (bo X (T++F) scope (aG X.env scope.names []) C s H fp) ifs tc)
  (N:∀C s H fp,PE (bo X (T++F) scope (aG X.env scope.names []) C s H fp) elt te)
  (hs:∀x,foldedSetIterable iter X.env x=pure x) (Q:X.N.Nodup) (k:X.N[i]?=some y) (hx:Loc X.env.scope y)
  (j:swapsWith (.ListComp elt [⟨tg,iter,ifs,0⟩] scope pos) (some (.Name y py)) c.line X.env=pure true) (M:X.fn y=true∨X.env.scope.names.lookup y=some .local) :
  PS X (.Assign [.Name y py] (.ListComp elt [⟨tg,iter,ifs,0⟩] scope pos) c) (pM (gR T.length ixs wi g tc te) (fE i)):=by
 intro pins s σ H D I h;rw[exec_Assign_Name_used _ _ _ _ j];refine aaa (wpAny_standAt (aaa ?_));show wpAny _ X.A (do let _ ← comprehension (.ListComp elt [⟨tg,iter,ifs,0⟩] scope pos) scope X.env _ (newList []) false (eval iter X.env) (some (assign (.Name y py) X.env))) _ _ s;refine aaa (thn (nO (use:=some (assign (.Name y py) X.env)) (QQ:=λ_ s'=>SP X pins D .next s') O S hi L G N hs I h λu C t n f ⟨m,K⟩ fC p r v B d q=>?_) λ_ s' J=>aaf (aaf J));have V:Inv X pins σ t n:=d n.heap (Heap.SameBut.refl _ _);refine wpAny_assign_Name (kX V Q k hx (show RelV (.ref u) (.ref u) from rfl) (λA U W=>?_) M);obtain⟨a,w,l⟩:=W
 have R:C≠a:=by
  rcases l with rfl|l
  ·exact p
  ·exact λz=>r y a l z.symm
 refine⟨m,K.sameBut w R,λW E=>⟨_,t,?_,q⟩⟩;exact U.turned (t':=A.toks) (λb o P e=>(E.2 b P).trans e) fC p (.inr v) r B
end
def Its(z:Str):It:=⟨λi _=>i<z.cps.size,λi H x H'=>H'=H/\∃c,z.cps.toList[i]?=some c/\x=.str ⟨#[c]⟩,λi _=>i=z.cps.size⟩
theorem nP{K:Frag}(nm:String)(hnm:["enumerate", "zip", "dict_itemiterator", "dict_reverseitemiterator", "odict_iterator", "itertools.zip_longest", "itertools.pairwise"].contains nm=false)(it:Addr)(z:Str)(t:Tok)
  (W:∀A:Around,A.handled=none->Walks P w A it [it] [it] z.cps.size (SignAt z) (λi h=>h.IsStrIter it nm z t i))
  (hself:∀(A:Around) (i:Nat) (s:Shared) (Q:Value->Shared->Prop) (E:Value->Shared->Prop),s.heap.IsStrIter it nm z t i->Q (.ref it) s->wpAny (model P w) A (pyIter (.ref it)) Q E s):Turn P w K tg (Its z) [it] it (λi h=>h.IsStrIter it nm z t i) where
 mem:=by simp
 obj:=λi h st b hb=>by
  have e:b=it:=(by exists hb);subst e;obtain⟨o,e,c,d⟩:=st;exact⟨o,e,λv q=>by rw[d] at q;cases q⟩
 keep:=λi h h' st k=>by
  obtain⟨o,e,r⟩:=st;exact⟨o,k it (by simp) o e,r⟩
 item:=by
  intro X hP hw hK hc i pins s σ H E I hf st hg;subst hP hw hK;obtain⟨f0,f1,f2,f3,f4,f5⟩:=hf it (by simp);refine(W X.A (I.ok.hd hc)).item i s _ _ hg st λv h' tk hv st' kk=>?_;obtain⟨c,u,hcx,rfl⟩:=hv;have I1:Inv X pins σ H { s with heap:=h',toks:=tk }:=I.turned (λb o hb e=>kk b o (by exists hb) e) f0 f1 f3 f4 f5;obtain⟨o,e,cl,d⟩:=id st';exact⟨_,rfl,kZ (s:={ s with heap:=h',toks:=tk }) e cl d hnm ⟨.str ⟨#[c]⟩,H,I1,⟨u,rfl⟩,⟨rfl,c,(by exists hcx),rfl⟩,st',λb hb=>(hf b hb).1⟩⟩
 done:=by
  intro X hP hw hK hc i pins s σ H E I hf st hg;subst hP hw hK;obtain⟨f0,f1,f2,f3,f4,f5⟩:=hf it (by simp);have hg:i=z.cps.size:=hg;subst hg;exact(W X.A (I.ok.hd hc)).done s _ _ st λh' tk kk=>⟨rfl,I.turned (λb o hb e=>kk b o (by exists hb) e) f0 f1 f3 f4 f5⟩
 self:=λA i s Q E st h=>hself A i s Q E st h
def LL(tl:TE):TI:=λσ H R=>tl σ H λx H1=>∃z,x=.str z/\R (Its z) H1
theorem G3{l:Expr}{tl:TE}(j:PE X l tl):PI X tg l (LL tl):=by
 intro pins s σ H R I h;refine thn (j pins s σ H _ I h) λv a y=>?_;obtain⟨x,H1,c,g,i⟩:=y;obtain⟨z,e,q⟩:=i;subst e;obtain⟨t,rfl⟩:=g
 have fp:∀b∈[a.heap.objs.size],rn X pins H1 b:=λb k=>by
  have e:b=a.heap.objs.size:=(by exists k);subst e;exact c.fpOk (aac _) (c.hok.fresh (aac _))
 cases f:z.cps.all (·<128)
 ·exact wpAny_pyIter_wide f ⟨a.heap.objs.size,[a.heap.objs.size],_,_,H1,rfl,c.kept (t':=a.toks) λb o e=>Heap.get?_push_of_some _ e,nP "str_iterator" (by decide) _ z t (λA d=>Walks.strWide d _ z t) (λ_ _ _ _ _ st h=>wpAny_pyIter_striter_wide st h),⟨_,Heap.get?_push_size _ rfl,rfl,rfl⟩,fp,q⟩
 ·exact wpAny_pyIter_ascii f ⟨a.heap.objs.size,[a.heap.objs.size],_,_,H1,rfl,c.kept (t':=a.toks) λb o e=>Heap.get?_push_of_some _ e,nP "str_ascii_iterator" (by decide) _ z t (λA d=>Walks.strAscii d _ z t) (λ_ _ _ _ _ st h=>wpAny_pyIter_striter_ascii st h),⟨_,Heap.get?_push_size _ rfl,rfl,rfl⟩,fp,q⟩
section
variable {no:Nat}        {D:Addr}
end
def isT(t T:String):Bool:=t==T || (t == "bool" && T == "int")
def okT(T:String):Prop:=T = "str" ∨ T = "int" ∨ T = "bool" ∨ T = "list" ∨ T = "tuple" ∨ T = "dict" ∨ T = "NoneType"
theorem G4{K:Frag}{t T:String}(a:okT t)(b:okT T):PySem.W.kitOne K (.type t) (.type T)=some (isT t T):=by
 rcases a with rfl|rfl|rfl|rfl|rfl|rfl|rfl <;> rcases b with rfl|rfl|rfl|rfl|rfl|rfl|rfl <;> rfl
theorem mQ(bs:List Bool):TruthOf P w A (λi v=>∃b,bs[i]?=some b/\v=Value.bool b) (λi=>bs.getD i false):=by
 intro i v s Q E d c;obtain⟨b,a,rfl⟩:=d;have e:bs.getD i false=b:=by rw[List.getD_eq_getElem?_getD,a];rfl
 exact aaJ (by rw[← e];exact c)
theorem si{bs:List Bool}:(List.range bs.length).all (λi=>bs.getD i false)=bs.all id:=by
 rw[abu,abY,abY];constructor
 ·intro h b a;obtain⟨i,hi,e⟩:=List.mem_iff_getElem.mp a;have:=h i (ab0.mpr hi);rw[List.getD_eq_getElem?_getD,List.getElem?_eq_getElem hi,e] at this;exact this
 ·intro h i hi;have hi:=ab0.mp hi;rw[List.getD_eq_getElem?_getD,List.getElem?_eq_getElem hi];exact h _ (aaR hi)
theorem sj{bs:List Bool}:(List.range bs.length).any (λi=>bs.getD i false)=bs.any id:=by
 rw[abu,aa0,aa0];constructor
 ·rintro⟨i,hi,h⟩;have hi:=ab0.mp hi;rw[List.getD_eq_getElem?_getD,List.getElem?_eq_getElem hi] at h;exact⟨_,aaR hi,h⟩
 ·rintro⟨b,a,h⟩;obtain⟨i,hi,e⟩:=List.mem_iff_getElem.mp a;refine⟨i,ab0.mpr hi,?_⟩;rw[List.getD_eq_getElem?_getD,List.getElem?_eq_getElem hi,e];exact h
theorem wO{bs:List Bool}:∀{us:List Value},Vals (bs.map V.bl) us->us.length=bs.length/\∀(i:Nat) (v:Value),us[i]?=some v->∃b,bs[i]?=some b/\v=Value.bool b:=by
 intro us r;have d:=r.length;rw[abD] at d;refine⟨d.symm,λi v h=>?_⟩;have hi:i<us.length:=(List.getElem?_eq_some_iff.mp h).1;have a:i<bs.length:=by nofun
 obtain⟨u,c,e⟩:=r.get (i:=i) (x:=.bl bs[i]) (by simp[a]);rw[h] at c;cases c;exact⟨bs[i],by simp[a],e⟩
theorem jw{bs:List Bool}(I:Inv X pins σ H s)(u:SqL X.K H p (bs.map V.bl))(A:Around)(B:A.handled=none){r:Bool}
  (fn:(List Nat)->(Nat->Bool)->Bool) (hr:fn (List.range bs.length) (λi=>bs.getD i false)=r) (q:Q (.bl r) H) :
  wpAny (model X.prog X.w) A (pyIter (.ref p)) (λit a=>∃I fp j n P St k,it=.ref I/\Walks X.prog X.w A I fp j n P St/\St 0 a.heap/\TruthOf X.prog X.w A P k /\
   ∀h' tk,(∀b o,b∉j->a.heap.get? b=some o->h'.get? b=some o)->EP X pins σ Q (.bool (fn (List.range n) k)) { a with heap:=h',toks:=tk }) E s:=by
 obtain⟨its,l,pl,C⟩:=I.list u;obtain⟨x,f⟩:=wO l;refine wpAny_pyIter_list pl.isList ?_
 have ne:p≠s.heap.objs.size:=by
  obtain⟨o,d,_⟩:=pl.isList;exact aak (aag d)
 have c:=Walks.list (prog:=X.prog) (w:=X.w) B s.heap.objs.size p ne its.toArray
 have g:Walks X.prog X.w A s.heap.objs.size [s.heap.objs.size,p] [s.heap.objs.size] bs.length (λi v=>∃b,bs[i]?=some b/\v=Value.bool b) (λi h=>h.IsListIter s.heap.objs.size p i/\h.IsList p its.toArray):=by
  have e:its.toArray.size=bs.length:=by simp[x]
  rw[e] at c;exact { sub:=c.sub,frame:=c.frame,item:=λi s Q E hi st y=>c.item i s Q E hi st λv h' tk t=>y v h' tk (f i v (by exists t)),done:=c.done,self:=c.self }
 refine⟨s.heap.objs.size,_,_,_,_,_,_,rfl,g,⟨⟨_,Heap.get?_push_size _ rfl,rfl,rfl⟩,?_⟩,mQ bs,λh' tk m=>?_⟩
 ·obtain⟨o,d,r⟩:=pl.isList;exact⟨o,Heap.get?_push_of_some _ d,r⟩
 ·refine⟨.bl r,H,I.kept (h':=h') (t':=tk) λb o e=>m b o ?_ (Heap.get?_push_of_some _ e),by rw[← hr];rfl,q⟩;intro z;have z:b=s.heap.objs.size:=(by exists z);exact absurd (aag e) (by rw[z];exact aaO _)
theorem wQ(c:X.calm=true):CallR X (.builtin "all") (λxs H Q=>∃(p:Addr) (bs:List Bool),xs=[.ref p]/\SqL X.K H p (bs.map V.bl)/\Q (.bl (bs.all id)) H):=by
 intro pins s σ H xs us Q I r h;obtain⟨p,bs,rfl,b,q⟩:=h;obtain⟨u,rfl,a⟩:=dZ r;cases a;exact call_all_walk (jw I b X.A.in1 (I.ok.hd c) (λl f=>l.all f) si q)
theorem wR(c:X.calm=true):CallR X (.builtin "any") (λxs H Q=>∃(p:Addr) (bs:List Bool),xs=[.ref p]/\SqL X.K H p (bs.map V.bl)/\Q (.bl (bs.any id)) H):=by
 intro pins s σ H xs us Q I r h;obtain⟨p,bs,rfl,b,q⟩:=h;obtain⟨u,rfl,a⟩:=dZ r;cases a;exact call_any_walk (jw I b X.A.in1 (I.ok.hd c) (λl f=>l.any f) sj q)
theorem p8:OpR X (compareOp .In) (λx y H Q=>∃(c:Nat) (j:Str),x=.str ⟨#[c]⟩/\y=.str j/\Q (.bl (decide (c∈j.cps.toList))) H):=by
 intro pins s σ H x y v u Q I b a h;obtain⟨c,j,rfl,rfl,q⟩:=h;exact rF pins s σ H _ _ v u Q I b a ⟨_,j,rfl,rfl,by rw[PySem.StrLaws.found_one];exact q⟩
theorem jZ:OpR X (compareOp .NotIn) (λx y H Q=>∃(c:Nat) (j:Str),x=.str ⟨#[c]⟩/\y=.str j/\Q (.bl (!decide (c∈j.cps.toList))) H):=by
 intro pins s σ H x y v u Q I b a h;obtain⟨c,j,rfl,rfl,q⟩:=h;exact lg pins s σ H _ _ v u Q I b a ⟨_,j,rfl,rfl,by rw[PySem.StrLaws.found_one];exact q⟩
theorem j1(h:x.cps.toList=y.cps.toList):x=y:=by
 cases x with|mk a=>cases y with|mk b=>exact congrArg Str.mk (Array.toList_inj.mp h)
theorem ao(x:Str):x.length=x.cps.toList.length:=by simp[Str.length]
theorem cZ(x y:Str):(x++y).cps.toList=x.cps.toList++y.cps.toList:=by
 show (x.cps++y.cps).toList=_;simp
def eC{α:Type}(xs:List α)(lo hi:Option Int):List α:=(xs.drop (HT.sIx xs.length 0 lo)).take (HT.sIx xs.length xs.length hi - HT.sIx xs.length 0 lo)
theorem sliceRange_one(a b:Nat):sliceRange (a:Int) (b:Int) 1=(List.range (b - a)).map λk=>a+k:=by
 unfold sliceRange;simp only[show (1:Int) > 0 by decide,if_true]
 have e:(if (a:Int)<(b:Int) then ((b:Int) - (a:Int)+1 - 1) / 1 else 0).toNat=b - a:=by
  split <;> (try rw[Int.ediv_one]) <;> nofun
 rw[e];refine aay λk _=>?_;nofun
theorem p9(lo hi:Option Int)(n:Nat):Builtin.Str.strSliceIndices lo hi 1 n=(List.range (HT.sIx n n hi - HT.sIx n 0 lo)).map λk=>HT.sIx n 0 lo+k:=by
 unfold Builtin.Str.strSliceIndices;rw[← sliceRange_one];simp only[show (1:Int) > 0 by decide,if_true]
 congr 1
 ·cases lo with
  |none=>rfl
  |some v=>rw [← HT.clip_eq];dsimp only;split <;> nofun
 ·cases hi with
  |none=>rfl
  |some v=>rw [← HT.clip_eq];dsimp only;split <;> nofun
theorem jx{α:Type}(xs:List α)(a:Nat):∀k:Nat,a+k<=xs.length->((List.range k).map λj=>a+j).filterMap (λi=>xs[i]?)=(xs.drop a).take k
 |0,_=>by simp
 | k+1,h=>by
  have b:a+k<xs.length:=by nofun
  rw[aba,aad,List.filterMap_append,jx xs a k (by nofun),List.take_add_one]
  congr 1
  simp[List.getElem?_drop,b]
theorem sk(x:Str)(lo hi:Option Int):(Txt.slice x lo hi).cps.toList=eC x.cps.toList lo hi:=by
 have a:x.cps.toList.length=x.length:=by simp[Str.length]
 have h1:=HT.sIx_le x.length 0 (aan _) lo;have h2:=HT.sIx_le x.length x.length (aac _) hi;unfold Txt.slice eC;rw[a,p9];split
 ·rename_i b;simp only[beq_self_eq_true,Bool.true_and,List.length_map,List.length_range,beq_iff_eq] at b;have d:HT.sIx x.length 0 lo=0:=by nofun
  have c:HT.sIx x.length x.length hi=x.length:=by nofun
  rw[d,c,abj,Nat.sub_zero,aai (by nofun)]
 ·show (List.filterMap (λi=>x.cps[i]?) _).toArray.toList=_;have e:(λi:Nat=>x.cps[i]?)=λi:Nat=>x.cps.toList[i]?:=by funext i;simp
  rw[e];by_cases h:HT.sIx x.length 0 lo<=HT.sIx x.length x.length hi
  ·rw[jx x.cps.toList _ _ (by rw[a];nofun)]
  ·have f:HT.sIx x.length x.length hi - HT.sIx x.length 0 lo=0:=by nofun
   rw[f];simp
def M5:V->Option Int->Option Int->Hp->VK->Prop:=λx lo hi H Q=>∃z,x=.str z/\z.length<=sizeLine/\∀y:Str,y.cps.toList=eC z.cps.toList lo hi->Q (.str y) H
theorem G5:SlR X M5:=by
 intro pins s σ H x v vl vu lo hi sl Q I f hs pl e h;obtain⟨z,rfl,g,q⟩:=h;obtain⟨t,rfl⟩:=f;refine⟨"str", _,F.slot_str_getitem.lookup,typeIs_str _ _ _,?_⟩
 have fin:(Txt.slice z lo hi).length<=sizeLine/\∀t' k,EP X pins σ Q (.str (Txt.slice z lo hi) t') { s with toks:=k }:=
  ⟨aas (Txt.slice_le z _ _) g,λt' k=>⟨.str _,H,I.tok k,⟨t',rfl⟩,q _ (sk z lo hi)⟩⟩
 obtain⟨o,a,b,hd⟩:=hs
 cases pl with
 | none=>
  cases e with
  |none=>exact abq (l:=none) (u:=none) (st:=none) ⟨o,a,b,hd⟩ rfl (post_val_or_str fin)
  |int j c=>exact abq (l:=none) (u:=some (j,c)) (st:=none) ⟨o,a,b,hd⟩ rfl (post_val_or_str fin)
 | int i d=>
  cases e with
  |none=>exact abq (l:=some (i,d)) (u:=none) (st:=none) ⟨o,a,b,hd⟩ rfl (post_val_or_str fin)
  |int j c=>exact abq (l:=some (i,d)) (u:=some (j,c)) (st:=none) ⟨o,a,b,hd⟩ rfl (post_val_or_str fin)
theorem sn:∀{zs:List Str} {us:List Value},Vals (zs.map V.str) us->∃l:List (Str×Tok),us=strValues l/\l.map (·.1)=zs
 | [],_,r=>by
  rw[List.map_nil] at r;cases r;exact⟨[],rfl,rfl⟩
 | z::zs,_,r=>by
  rw[abG] at r
  cases r with
  | cons b a=>
   obtain⟨t,rfl⟩:=b;obtain⟨l,rfl,rfl⟩:=sn a;exact⟨(z,t)::l,rfl,rfl⟩
def wU(K:Frag):V->List V->Hp->VK->Prop:=λx vs H Q=>∃(z:Str) (p:Addr) (zs:List Str),x=.str z/\vs=[.ref p]/\SqL K H p (zs.map V.str)/\(zs.map (·.length)).sum+zs.length*z.length<=16777216/\Q (.str (Builtin.Str.glued z zs)) H
theorem Cq:MtR X "str.join" (wU X.K):=by
 intro pins s σ H x vs v us Q I a b h;obtain⟨z,p,zs,rfl,rfl,f,d,q⟩:=h;obtain⟨t,rfl⟩:=a;obtain⟨u,rfl,c⟩:=dZ b;cases c;obtain⟨its,r,pl,g⟩:=I.list f;obtain⟨l,rfl,e⟩:=sn r;exact SC.join pl.isList e (joinOk_of d) λt' k=>⟨.str _,H,I.tok k,⟨t',rfl⟩,q⟩
theorem fQ(zs:List Str):(Builtin.Str.glued Str.empty zs).cps.toList=(zs.map λz=>z.cps.toList).flatten:=by
 unfold Builtin.Str.glued
 have gen:∀(l:List Str) (a:Array Nat),(l.foldl (λacc p=>acc++Str.empty.cps++p.cps) a).toList=a.toList++(l.map λz=>z.cps.toList).flatten:=by
  intro l
  induction l with
  |nil=>intro a;simp
  |cons y l b=>intro a;rw [List.foldl_cons,b];simp [Str.empty]
 rw[gen]
 cases zs with
 |nil=>simp[Str.empty]
 |cons y l=>simp
inductive DV where
 |non|bl (b:Bool)|int (i:Int)|str (x:Str)|lst (xs:List DV)|tup (xs:List DV)
mutual
inductive Deep(K:Frag)(H:Hp):V->DV->Prop where
 |non:Deep K H .non .non
 |bl (b:Bool):Deep K H (.bl b) (.bl b)
 |int (i:Int):Deep K H (.int i) (.int i)
 |str (x:Str):Deep K H (.str x) (.str x)
 |lst {a:Addr} {xs:List V} {ds:List DV}:SqL K H a xs->Deeps K H xs ds->Deep K H (.ref a) (.lst ds)
 |tup {a:Addr} {xs:List V} {ds:List DV}:SqT K H a xs->Deeps K H xs ds->Deep K H (.ref a) (.tup ds)
inductive Deeps(K:Frag)(H:Hp):List V->List DV->Prop where
 |nil:Deeps K H [] []
 |cons {x:V} {d:DV} {xs:List V} {ds:List DV}:Deep K H x d->Deeps K H xs ds->Deeps K H (x::xs) (d::ds)
end
mutual
def deq:DV->DV->Bool
 |.non,.non=>true
 |.bl a,.bl b=>a==b
 |.bl a,.int b=>(if a then 1 else 0)==b
 |.int a,.bl b=>a==(if b then 1 else 0)
 |.int a,.int b=>a==b
 |.str a,.str b=>a==b
 |.lst a,.lst b=>deqs a b
 |.tup a,.tup b=>deqs a b
 |_,_=>false
def deqs:List DV->List DV->Bool
 |[],[]=>true
 |a::r,b::s=>deq a b&&deqs r s
 |_,_=>false
end
mutual
def dep:DV->Nat
 |.lst a=>deps a+1
 |.tup a=>deps a+1
 |_=>0
def deps:List DV->Nat
 |[]=>0
 |a::r=>max (dep a) (deps r)
end
mutual
theorem nQ:∀d:DV,deq d d=true
 |.non=>rfl
 |.bl b=>beq_self_eq_true b
 |.int i=>beq_self_eq_true i
 |.str x=>beq_self_eq_true x
 |.lst xs=>deqs_refl xs
 |.tup xs=>deqs_refl xs
theorem deqs_refl:∀ds:List DV,deqs ds ds=true
 |[]=>rfl
 |d::ds=>abU.mpr ⟨nQ d,deqs_refl ds⟩
end
theorem Deeps.length{K:Frag}{H:Hp}{xs:List V}{ds:List DV}(h:Deeps K H xs ds):xs.length=ds.length:=
 Deeps.rec (motive_1:=λ_ _ _=>True) (motive_2:=λxs ds _=>xs.length=ds.length) trivial (λ_=>trivial) (λ_=>trivial) (λ_=>trivial) (λ_ _ _=>trivial) (λ_ _ _=>trivial) rfl (λ_ _ _ t=>congrArg (·+1) t) h
theorem Deeps.get{K:Frag}{H:Hp}:∀{xs:List V} {ds:List DV} {i:Nat} {x:V},Deeps K H xs ds->xs[i]?=some x->∃d,ds[i]?=some d/\Deep K H x d/\dep d<=deps ds
 |_,_,_,_,.nil,e=>by simp at e
 | _,_,0,_,.cons h _,e=>by
  simp at e;subst e;exact⟨_,rfl,h,by simp only[deps];nofun⟩
 | _,_,i+1,x,.cons h t,e=>by
  obtain⟨d,h1,h2,a⟩:=Deeps.get (i:=i) (x:=x) t (by exists e);exact⟨d,(by exists h1),h2,by simp only[deps];nofun⟩
theorem jy:∀{ds es:List DV},ds.length=es.length->(List.range ds.length).all (λj=>deq (ds.getD j .non) (es.getD j .non))=deqs ds es:=by
 intro ds
 induction ds with
 | nil=>intro es h;cases es with
  |nil=>rfl
  |cons _ _=>simp at h
 | cons d ds a=>
  intro es h
  cases es with
  |nil=>simp at h
  | cons e es=>
   have h':ds.length=es.length:=(by exists h);rw[abM,List.range_succ_eq_map,aaQ,List.all_map];exact congrArg (deq d e&&·) (a h')
theorem j2:∀{ds es:List DV},ds.length≠es.length->deqs ds es=false
 |[],[],h=>absurd rfl h
 |[],_::_,_=>rfl
 |_::_,[],_=>rfl
 | d::ds,e::es,h=>by
  have h':ds.length≠es.length:=(by exists h);show (deq d e&&deqs ds es)=false;rw[j2 h',Bool.and_false]
theorem wV{ds es:List DV}:((List.range (min ds.length es.length)).all (λj=>deq (ds.getD j .non) (es.getD j .non))&&ds.length==es.length)=deqs ds es:=by
 by_cases h:ds.length=es.length
 ·rw[← jy h,← h,Nat.min_self];simp
 ·rw[j2 h];simp[h]
theorem Inv.seq_inj(I:Inv X pins σ H s){ys:List V}(h:SqL X.K H a xs)(h':SqT X.K H a ys):False:=by
 obtain⟨its,_,p,_⟩:=I.list h;obtain⟨its',_,d,_⟩:=I.tuple h';obtain⟨o,e,c,_⟩:=p.isList;obtain⟨o',b,c',_⟩:=d;rw[e] at b;cases b;rw[c] at c';injection c' with z
 exact absurd z (by decide)
theorem Deep.inj(I:Inv X pins σ H s){x:V}{d e:DV}(h:Deep X.K H x d):Deep X.K H x e->d=e:=by
 refine Deep.rec (motive_1:=λx d _=>∀e,Deep X.K H x e->d=e) (motive_2:=λxs ds _=>∀es,Deeps X.K H xs es->ds=es) ?_ ?_ ?_ ?_ (λh _ t e h'=>?_) (λh _ t e h'=>?_) ?_ (λ_ _ h t e h'=>?_) h e
 ·intro e h';cases h';rfl
 ·intro _ e h';cases h';rfl
 ·intro _ e h';cases h';rfl
 ·intro _ e h';cases h';rfl
 ·cases h' with
  | lst h2 t'=>
   have e:=I.list_inj h h2;subst e;rw[t _ t']
  |tup h2 _=>exact (I.seq_inj h h2).elim
 ·cases h' with
  | tup h2 t'=>
   have e:=I.tuple_inj h h2;subst e;rw[t _ t']
  |lst h2 _=>exact (I.seq_inj h2 h).elim
 ·intro e h';cases h';rfl
 ·cases h' with|cons h2 a=>rw[h _ h2,t _ a]
theorem Deeps.inj(I:Inv X pins σ H s){xs:List V}{ds es:List DV}(h:Deeps X.K H xs ds):Deeps X.K H xs es->ds=es:=
 Deeps.rec (motive_1:=λ_ _ _=>True) (motive_2:=λxs ds _=>∀es,Deeps X.K H xs es->ds=es) trivial (λ_=>trivial) (λ_=>trivial) (λ_=>trivial) (λ_ _ _=>trivial) (λ_ _ _=>trivial) (λes h'=>by cases h';rfl) (λh _ _ t es h'=>by cases h' with|cons h2 a=>rw[h.inj I h2,t _ a]) h es
theorem lv(I:Inv X pins σ H s):∀(n:Nat) (d e:DV) (x y:V) (u v:Value) (A:Around),dep d<=n->A.units+n<cLine->Deep X.K H x d->Deep X.K H y e->RelV x u->RelV y v ->
  SeqAt.RcAt A s u v (deq d e)/\SeqAt.RcNeAt A s u v (!deq d e)/\SeqAt.EqAt A s u v (deq d e):=by
 intro n
 induction n with
 | zero=>
  intro d e x y u v A hd Z z r q f;have c:A.units<cLine:=by nofun
  cases z with
  |lst _ _=>simp only [dep] at hd;nofun
  |tup _ _=>simp only [dep] at hd;nofun
  | non=>
   cases q
   cases r with
   |non=>cases f;exact⟨SeqAt.RcAt.none_none,SeqAt.RcNeAt.none_none,SeqAt.EqAt.same _⟩
   |bl b=>cases f;exact⟨SeqAt.RcAt.none_bool b,SeqAt.RcNeAt.none_bool b,SeqAt.EqAt.none_bool b⟩
   |int b=>obtain⟨t,rfl⟩:=f;exact⟨SeqAt.RcAt.none_int b t,SeqAt.RcNeAt.none_int b t,SeqAt.EqAt.none_int b t⟩
   |str b=>obtain⟨t,rfl⟩:=f;exact⟨SeqAt.RcAt.none_str b t,SeqAt.RcNeAt.none_str b t,SeqAt.EqAt.none_str b t⟩
   |lst h _=>cases f;obtain⟨its,_,p,_⟩:=I.list h;exact⟨SeqAt.RcAt.none_list p.isList c,SeqAt.RcNeAt.none_list p.isList c,SeqAt.EqAt.none_list p.isList c⟩
   |tup h _=>cases f;obtain⟨its,_,p,_⟩:=I.tuple h;exact⟨SeqAt.RcAt.none_tuple p c,SeqAt.RcNeAt.none_tuple p c,SeqAt.EqAt.none_tuple p c⟩
  | bl a=>
   cases q
   cases r with
   |non=>cases f;exact⟨SeqAt.RcAt.bool_none a,SeqAt.RcNeAt.bool_none a,SeqAt.EqAt.bool_none a⟩
   |bl b=>cases f;exact⟨SeqAt.RcAt.bool_bool a b,SeqAt.RcNeAt.bool_bool a b,SeqAt.EqAt.bool_bool a b⟩
   |int b=>obtain⟨t,rfl⟩:=f;exact⟨SeqAt.RcAt.bool_int a b t,SeqAt.RcNeAt.bool_int a b t,SeqAt.EqAt.bool_int a b t⟩
   |str b=>obtain⟨t,rfl⟩:=f;exact⟨SeqAt.RcAt.bool_str a b t,SeqAt.RcNeAt.bool_str a b t,SeqAt.EqAt.bool_str a b t⟩
   |lst h _=>cases f;obtain⟨its,_,p,_⟩:=I.list h;exact⟨SeqAt.RcAt.bool_list a p.isList c,SeqAt.RcNeAt.bool_list a p.isList c,SeqAt.EqAt.bool_list a p.isList c⟩
   |tup h _=>cases f;obtain⟨its,_,p,_⟩:=I.tuple h;exact⟨SeqAt.RcAt.bool_tuple a p c,SeqAt.RcNeAt.bool_tuple a p c,SeqAt.EqAt.bool_tuple a p c⟩
  | int a=>
   obtain⟨t',rfl⟩:=q
   cases r with
   |non=>cases f;exact⟨SeqAt.RcAt.int_none a t',SeqAt.RcNeAt.int_none a t',SeqAt.EqAt.int_none a t'⟩
   |bl b=>cases f;exact⟨SeqAt.RcAt.int_bool a t' b,SeqAt.RcNeAt.int_bool a t' b,SeqAt.EqAt.int_bool a t' b⟩
   |int b=>obtain⟨t,rfl⟩:=f;exact⟨SeqAt.RcAt.int_int a t' b t,SeqAt.RcNeAt.int_int a t' b t,SeqAt.EqAt.int_int a t' b t⟩
   |str b=>obtain⟨t,rfl⟩:=f;exact⟨SeqAt.RcAt.int_str a t' b t,SeqAt.RcNeAt.int_str a t' b t,SeqAt.EqAt.int_str a t' b t⟩
   |lst h _=>cases f;obtain⟨its,_,p,_⟩:=I.list h;exact⟨SeqAt.RcAt.int_list a t' p.isList c,SeqAt.RcNeAt.int_list a t' p.isList c,SeqAt.EqAt.int_list a t' p.isList c⟩
   |tup h _=>cases f;obtain⟨its,_,p,_⟩:=I.tuple h;exact⟨SeqAt.RcAt.int_tuple a t' p c,SeqAt.RcNeAt.int_tuple a t' p c,SeqAt.EqAt.int_tuple a t' p c⟩
  | str a=>
   obtain⟨t',rfl⟩:=q
   cases r with
   |non=>cases f;exact⟨SeqAt.RcAt.str_none a t',SeqAt.RcNeAt.str_none a t',SeqAt.EqAt.str_none a t'⟩
   |bl b=>cases f;exact⟨SeqAt.RcAt.str_bool a t' b,SeqAt.RcNeAt.str_bool a t' b,SeqAt.EqAt.str_bool a t' b⟩
   |int b=>obtain⟨t,rfl⟩:=f;exact⟨SeqAt.RcAt.str_int a t' b t,SeqAt.RcNeAt.str_int a t' b t,SeqAt.EqAt.str_int a t' b t⟩
   |str b=>obtain⟨t,rfl⟩:=f;exact⟨SeqAt.RcAt.str_str a t' b t,SeqAt.RcNeAt.str_str a t' b t,SeqAt.EqAt.str_str a t' b t⟩
   |lst h _=>cases f;obtain⟨its,_,p,_⟩:=I.list h;exact⟨SeqAt.RcAt.str_list a t' p.isList c,SeqAt.RcNeAt.str_list a t' p.isList c,SeqAt.EqAt.str_list a t' p.isList c⟩
   |tup h _=>cases f;obtain⟨its,_,p,_⟩:=I.tuple h;exact⟨SeqAt.RcAt.str_tuple a t' p c,SeqAt.RcNeAt.str_tuple a t' p c,SeqAt.EqAt.str_tuple a t' p c⟩
 | succ n O=>
  intro d e x y u v A hd Z z r q f;have c:A.units<cLine:=by nofun
  have items:∀{xs ys:List V} {ds es:List DV} {us vs:List Value},Deeps X.K H xs ds->Deeps X.K H ys es->deps ds<=n->Vals xs us->Vals ys vs->∀j (h1:j<us.toArray.size) (h2:j<vs.toArray.size),SeqAt.EqAt A.in1 s us.toArray[j] vs.toArray[j] (deq (ds.getD j .non) (es.getD j .non)):=by
   intro xs ys ds es us vs E D hn o i j h1 h2;have G:j<us.length:=(by exists h1);have F:j<vs.length:=(by exists h2);have N:=o.length;have M:=i.length;have ex:xs[j]?=some (xs[j]'(by nofun)):=List.getElem?_eq_getElem (by nofun);have Q:ys[j]?=some (ys[j]'(by nofun)):=List.getElem?_eq_getElem (by nofun);obtain⟨d1,w,T,b1⟩:=E.get ex;obtain⟨d2,e2,p2,b2⟩:=D.get Q;obtain⟨L,f1,S⟩:=o.get ex;obtain⟨K,f2,R⟩:=i.get Q
   have g1:us.toArray[j]=L:=by
    have:us[j]?=some us[j]:=List.getElem?_eq_getElem G;rw[f1] at this;simpa using (aaj this).symm
   have g2:vs.toArray[j]=K:=by
    have:vs[j]?=some vs[j]:=List.getElem?_eq_getElem F;rw[f2] at this;simpa using (aaj this).symm
   rw[g1,g2,List.getD_eq_getElem?_getD,List.getD_eq_getElem?_getD,w,e2];exact(O d1 d2 _ _ L K A.in1 (by nofun) (by show A.units+1+n<cLine;nofun) T p2 S R).2.2
  by_cases B:dep d<=0
  ·exact O d e x y u v A (by nofun) (by nofun) z r q f
  cases z with
  |non=>simp only [dep] at B;nofun
  |bl _=>simp only [dep] at B;nofun
  |int _=>simp only [dep] at B;nofun
  |str _=>simp only [dep] at B;nofun
  | @lst a xs ds h t=>
   cases q;simp only[dep] at hd;obtain⟨its,o,p,Y⟩:=I.list h
   cases r with
   |non=>cases f;exact⟨SeqAt.RcAt.list_none p.isList c,SeqAt.RcNeAt.list_none p.isList c,SeqAt.EqAt.list_none p.isList c⟩
   |bl b=>cases f;exact⟨SeqAt.RcAt.list_bool b p.isList c,SeqAt.RcNeAt.list_bool b p.isList c,SeqAt.EqAt.list_bool b p.isList c⟩
   |int b=>obtain⟨k,rfl⟩:=f;exact⟨SeqAt.RcAt.list_int b k p.isList c,SeqAt.RcNeAt.list_int b k p.isList c,SeqAt.EqAt.list_int b k p.isList c⟩
   |str b=>obtain⟨k,rfl⟩:=f;exact⟨SeqAt.RcAt.list_str b k p.isList c,SeqAt.RcNeAt.list_str b k p.isList c,SeqAt.EqAt.list_str b k p.isList c⟩
   | tup h' _=>
    cases f;obtain⟨its',_,l,_⟩:=I.tuple h';exact⟨SeqAt.RcAt.list_tuple p.isList l c,SeqAt.RcNeAt.list_tuple p.isList l c,SeqAt.EqAt.list_tuple p.isList l c⟩
   | @lst b ys es h' t'=>
    cases f;obtain⟨its',i,l,C⟩:=I.list h';have N:=o.length;have M:=i.length;have W:=t.length;have U:=t'.length
    have g:SeqAt.RcAt A s (.ref a) (.ref b) (deqs ds es)/\SeqAt.RcNeAt A s (.ref a) (.ref b) (!deqs ds es):=by
     by_cases P:ds.length=es.length
     ·have w:(List.range its.toArray.size).all (λj=>deq (ds.getD j .non) (es.getD j .non))=deqs ds es:=by
       rw[← jy P,show its.toArray.size=ds.length by simp;nofun]
      rw[← w];exact⟨SeqAt.RcAt.lists p.isList l.isList (by simp;nofun) c (items t t' (by nofun) o i),SeqAt.RcNeAt.lists p.isList l.isList (by simp;nofun) c (items t t' (by nofun) o i)⟩
     ·rw[j2 P];exact⟨SeqAt.RcAt.lists_lengths p.isList l.isList (by simp;nofun) c,SeqAt.RcNeAt.lists_lengths p.isList l.isList (by simp;nofun) c⟩
    refine⟨g.1,g.2,?_⟩;show SeqAt.EqAt A s (.ref a) (.ref b) (deqs ds es);by_cases m:a=b
    ·subst m;have J:=I.list_inj h h';subst J;rw[Deeps.inj I t t',deqs_refl];exact SeqAt.EqAt.same _
    ·exact SeqAt.EqAt.of_refs m g.1
  | @tup a xs ds h t=>
   cases q;simp only[dep] at hd;obtain⟨its,o,p,Y⟩:=I.tuple h
   cases r with
   |non=>cases f;exact⟨SeqAt.RcAt.tuple_none p c,SeqAt.RcNeAt.tuple_none p c,SeqAt.EqAt.tuple_none p c⟩
   |bl b=>cases f;exact⟨SeqAt.RcAt.tuple_bool b p c,SeqAt.RcNeAt.tuple_bool b p c,SeqAt.EqAt.tuple_bool b p c⟩
   |int b=>obtain⟨k,rfl⟩:=f;exact⟨SeqAt.RcAt.tuple_int b k p c,SeqAt.RcNeAt.tuple_int b k p c,SeqAt.EqAt.tuple_int b k p c⟩
   |str b=>obtain⟨k,rfl⟩:=f;exact⟨SeqAt.RcAt.tuple_str b k p c,SeqAt.RcNeAt.tuple_str b k p c,SeqAt.EqAt.tuple_str b k p c⟩
   | lst h' _=>
    cases f;obtain⟨its',_,l,_⟩:=I.list h';exact⟨SeqAt.RcAt.tuple_list p l.isList c,SeqAt.RcNeAt.tuple_list p l.isList c,SeqAt.EqAt.tuple_list p l.isList c⟩
   | @tup b ys es h' t'=>
    cases f;obtain⟨its',i,l,C⟩:=I.tuple h';have N:=o.length;have M:=i.length;have W:=t.length;have U:=t'.length
    have w:((List.range (min its.toArray.size its'.toArray.size)).all (λj=>deq (ds.getD j .non) (es.getD j .non))&&its.toArray.size==its'.toArray.size)=deqs ds es:=by
     rw[← wV,show its.toArray.size=ds.length by simp;nofun,show its'.toArray.size=es.length by simp;nofun]
    have g:SeqAt.RcAt A s (.ref a) (.ref b) (deqs ds es)/\SeqAt.RcNeAt A s (.ref a) (.ref b) (!deqs ds es):=by
     rw[← w];exact⟨SeqAt.RcAt.tuples p l c (items t t' (by nofun) o i),SeqAt.RcNeAt.tuples p l c (items t t' (by nofun) o i)⟩
    refine⟨g.1,g.2,?_⟩;show SeqAt.EqAt A s (.ref a) (.ref b) (deqs ds es);by_cases m:a=b
    ·subst m;have J:=I.tuple_inj h h';subst J;rw[Deeps.inj I t t',deqs_refl];exact SeqAt.EqAt.same _
    ·exact SeqAt.EqAt.of_refs m g.1
def M6(K:Frag):R2:=λx y H Q=>∃d e,Deep K H x d/\Deep K H y e/\dep d<=40/\Q (.bl (deq d e)) H
def M7(K:Frag):R2:=λx y H Q=>∃d e,Deep K H x d/\Deep K H y e/\dep d<=40/\Q (.bl (!deq d e)) H
theorem G6(g:X.A.units+64<cLine):OpR X (compareOp .Eq) (M6 X.K):=by
 intro pins s σ H x y v u Q I b a h;obtain⟨d,e,hd,f,c,q⟩:=h;exact(lv I 40 d e x y v u X.A c (by nofun) hd f b a).1 _ _ _ _ ⟨.bl _,H,I,rfl,q⟩
theorem G7(g:X.A.units+64<cLine):OpR X (compareOp .NotEq) (M7 X.K):=by
 intro pins s σ H x y v u Q I b a h;obtain⟨d,e,hd,f,c,q⟩:=h;exact(lv I 40 d e x y v u X.A c (by nofun) hd f b a).2.1 _ _ _ _ ⟨.bl _,H,I,rfl,q⟩
structure Own(P:Program)(w:World)(K:Frag)(mg:Str->Option Value)(base:Heap)(x:Str)(k:Nat)(ps:List Str)(sp:Sp):Prop where
 ex:∃(f:Addr) (fd:FuncData),FnOk P w K mg base CX0 k f fd ps sp/\mg x=some (.ref f)/\PySem.W.keepIn K (.ref f)=true/\Binds K fd ps []
def Glo(mg:Str->Option Value)(x:Str)(v:V):Prop:=∃u,mg x=some u/\RelV v u
theorem G8{e:Expr}{es:List Expr}{t:TA}{p:Pos}(O:Own X.prog X.w X.K X.mg X.base x k ps sp)(hr:Room k X.A)(l:PA X (e::es) t)(g:autoParam (Gl X x) L2.aR._auto_1)
  (b:autoParam ((x==("__debug__" : Str))=false) L2.aD._auto_1) (i:autoParam (starEach (e::es) X.env=(false,eval e X.env)::starEach es X.env) L2.aR._auto_1) (a:autoParam ((backTo pos (starEach es X.env)).any (·.1)=false) L2.aR._auto_1) :
  PE X (.Call (.Name x p) (e::es) [] pos) (pU sp [] E0 t):=by
 obtain⟨f,fd,F,c,d,j⟩:=O.ex;exact BZ F hr g c d j .nil wM l b i a
theorem Ao(h:Glo X.mg x v)(b:autoParam (Gl X x) L2.aR._auto_1)(hd:autoParam ((x==("__debug__" : Str))=false) L2.aD._auto_1):PE X (.Name x pos) (tC v):=by
 obtain⟨u,a,r⟩:=h;exact Bp b a r hd
theorem LM{T:String}(c:X.mg x=none)(a:bootBuiltins x=some (.type T))(d:autoParam (Gl X x) L2.aR._auto_1)(b:autoParam (x ≠ "__name__") L2.aD._auto_1)(hd:autoParam ((x==("__debug__" : Str))=false) L2.aD._auto_1):PE X (.Name x pos) (tC (.ty T)):=
 Bq d c a rfl b hd
def G9(K:Frag):V->Option Int->Option Int->Hp->VK->Prop:=λx lo hi H Q=>M5 x lo hi H Q∨M3 K x lo hi H Q∨MY K x lo hi H Q
theorem Ap:SlR X (G9 X.K):=G5.or (Cf.or GS)
def F8(K:Frag):List V->Hp->VK->Prop:=λxs H Q=>(∃z,xs=[.str z]/\z.length<=sizeLine/\Q (.int z.length) H)∨(∃p ys,xs=[.ref p]/\(SqL K H p ys∨SqT K H p ys)/\Q (.int ys.length) H)∨(∃a kvs,xs=[V.ref a]/\Rd H a (.dK kvs)/\Q (.int kvs.length) H)
theorem qa:CallR X (.builtin "len") (λxs H Q=>∃a kvs,xs=[V.ref a]/\Rd H a (.dK kvs)/\Q (.int kvs.length) H):=by
 intro pins s σ H xs us Q I r h;obtain⟨a,kvs,rfl,c,q⟩:=h;obtain⟨u,rfl,b⟩:=dZ r;cases b;exact LH I c λt s' d=>⟨.int kvs.length,H,d,⟨t,rfl⟩,q⟩
theorem DGet.kR{kvs:List (Key×V)}{k:Key}(e:Rd H a (.dK kvs)):DGet H a (kV k) (gP kvs k):=.inl ⟨kvs,k,e,rfl,rfl⟩
theorem so:CallR X (.builtin "len") (F8 X.K):=li.or (lh.or qa)
def LN:List V->Hp->VK->Prop:=λxs H Q=>∃i j,xs=[.int i,.int j]/\Q (.int (if j > i then j else i)) H
def LO:List V->Hp->VK->Prop:=λxs H Q=>∃i j,xs=[.int i,.int j]/\Q (.int (if j<i then j else i)) H
theorem sq(a:X.calm=true):CallR X (.builtin "max") LN:=rH a
theorem sr(a:X.calm=true):CallR X (.builtin "min") LO:=rJ a
def KW(K:Frag):List V->Hp->VK->Prop:=λxs H Q=>∃(p:Addr) (bs:List Bool),xs=[.ref p]/\SqL K H p (bs.map V.bl)/\Q (.bl (bs.all id)) H
def KY(K:Frag):List V->Hp->VK->Prop:=λxs H Q=>∃(p:Addr) (bs:List Bool),xs=[.ref p]/\SqL K H p (bs.map V.bl)/\Q (.bl (bs.any id)) H
theorem su(a:X.calm=true):CallR X (.builtin "all") (KW X.K):=wQ a
theorem sv(a:X.calm=true):CallR X (.builtin "any") (KY X.K):=wR a
def rInS:R2:=λx y H Q=>∃(c:Nat) (j:Str),x=.str ⟨#[c]⟩/\y=.str j/\Q (.bl (decide (c∈j.cps.toList))) H
def Cr:R2:=λx y H Q=>∃(c:Nat) (j:Str),x=.str ⟨#[c]⟩/\y=.str j/\Q (.bl (!decide (c∈j.cps.toList))) H
def M8(K:Frag):R2:=λx y H Q=>rInS x y H Q∨rIn K false x y H Q
def sx(K:Frag):R2:=λx y H Q=>Cr x y H Q∨rIn K true x y H Q
theorem Ha:OpR X (compareOp .In) (M8 X.K):=OpR.or p8 rT
theorem sy:OpR X (compareOp .NotIn) (sx X.K):=OpR.or jZ lf
section
variable    {R:Bool->Hp->Prop} {QA:List V->Hp->Prop} {D:Ends} {K:Frag}
end
theorem bp{o:HO}(a:H p=none):Same H (upd H p o):=λb u h=>by rw[aj (cx h a)];exact h
theorem SqT.same{K:Frag}(h:SqT K H a xs)(e:Same H H'):SqT K H' a xs:=by
 rcases h with (h|⟨o,h⟩)|h
 ·exact .inl (.inl (e _ _ h))
 ·exact .inl (.inr ⟨o,e _ _ h⟩)
 ·exact .inr h
def Cs(N:List Str)(names:List (Str×NameKind)):List Str->List Nat->Bool
 |[],[]=>true
 |x::F,i::ixs=>(N[i]?==some x)&&(names.lookup x==some .free)&&Cs N names F ixs
 |_,_=>false
theorem nR{N:List Str}{names:List (Str×NameKind)}:∀{F:List Str} {ixs:List Nat},Cs N names F ixs=true->ixs.length=F.length /\
  ∀(j i:Nat) (x:Str),ixs[j]?=some i->F[j]?=some x->N[i]?=some x/\names.lookup x=some .free
 |[],[],_=>⟨rfl,λj i x h=>by simp at h⟩
 |[],_::_,h=>(abK h).elim
 |_::_,[],h=>(abK h).elim
 | y::F,k::ixs,h=>by
  obtain⟨h,c⟩:=abU.mp h;obtain⟨h1,h2⟩:=abU.mp h;replace h1:=eq_of_beq h1;replace h2:=eq_of_beq h2;obtain⟨l,r⟩:=nR c;refine⟨by rw[abM,abM,l],λj i x a b=>?_⟩
  cases j with
  | zero=>
   simp at a b;subst a b;exact⟨h1,h2⟩
  |succ j=>exact r j i x (by exists a) (by exists b)
def M9(names out:List (Str×NameKind)):Bool:=names.all λy=>(y.2 != .cell)&&(y.2 != .local || names.lookup y.1==some .local)&&(y.2 != .free || out.lookup y.1==some .cell || out.lookup y.1==some .free)
theorem CompScope.of(kind:scope.kind=.function)(h1:Cs X.N scope.names F ixs=true)(h2:M9 scope.names X.env.scope.names=true):CompScope X T F ixs scope:=by
 obtain⟨l,c⟩:=nR h1;unfold M9 at h2;rw[abY] at h2;refine⟨kind,λy a=>?_,λy a e=>?_,λj i x=>c j i x,l,λy a e=>?_⟩
 ·have:=h2 y a;simp only[Bool.and_eq_true] at this;simpa using this.1.1
 ·have:=h2 y a;simp only[Bool.and_eq_true] at this;have q:=this.1.2;rw[e] at q;simpa using q
 ·have:=h2 y a;simp only[Bool.and_eq_true] at this;have q:=this.2;rw[e] at q;simpa using q
def KZ(K:Frag):R2:=λx y H Q=>rEq x y H Q∨M6 K x y H Q
def K0(K:Frag):R2:=λx y H Q=>rNe x y H Q∨M7 K x y H Q
theorem Hb(a:X.A.units+64<cLine):OpR X (compareOp .Eq) (KZ X.K):=Ls.or (G6 a)
theorem Hc(a:X.A.units+64<cLine):OpR X (compareOp .NotEq) (K0 X.K):=Lu.or (G7 a)
end L2
namespace L2
open PySem
variable{α:Type}
theorem sA{xs:List α}{i:Int}(b:0<=i)(h:i<xs.length):∃c,atI xs i=some c/\c∈xs:=by
 obtain⟨k,rfl⟩:=aaY b;have a:k<xs.length:=by nofun
 exact⟨xs[k],bf (List.getElem?_eq_getElem a),aaR a⟩
theorem nS{xs:List α}{lo hi:Option Int}{c:α}(h:c∈eC xs lo hi):c∈xs:=List.mem_of_mem_drop (abg h)
theorem Cu(xs:List α)(lo hi:Option Int):(eC xs lo hi).length<=xs.length:=by
 unfold eC;rw[aah,aaB];nofun
theorem dG(xs:List α)(k:Nat):eC xs none (some (k:Int))=xs.take k:=by
 unfold eC;rw[HT.sIx_none,HT.sIx_nat,Nat.sub_zero,abj];by_cases h:k<=xs.length
 ·rw[Nat.min_eq_left h]
 ·rw[Nat.min_eq_right (by nofun),aai (aac _),aai (by nofun)]
theorem lw(xs:List α)(k:Nat):eC xs (some (k:Int)) none=xs.drop k:=by
 unfold eC;rw[HT.sIx_none,HT.sIx_nat];by_cases h:k<=xs.length
 ·rw[Nat.min_eq_left h,aai (by rw[aaB];nofun)]
 ·rw[Nat.min_eq_right (by nofun),List.drop_of_length_le (aac _),List.drop_of_length_le (by nofun)];simp
theorem j3{z:Str}{l:List Nat}(h:z.cps.toList=l):z.length=l.length:=by rw[← h];simp[Str.length]
end L2
namespace L2
open PySem PySem.Spec PyProof.Rows
variable{o tg l:Expr}{es:List Expr}{to tl:TE}{name:Str}{apos cpos:Pos}{T:String}{r:V->List V->Hp->VK->Prop}
section
variable {X:Cx}
theorem Hd(K:Frag)(a:X.A.units+64<cLine)(h:autoParam (X.K=K) L2.aR._auto_1):OpR X (compareOp .Eq) (KZ K):=by subst h;exact Hb a
theorem He(K:Frag)(a:X.A.units+64<cLine)(h:autoParam (X.K=K) L2.aR._auto_1):OpR X (compareOp .NotEq) (K0 K):=by subst h;exact Hc a
theorem Cv(K:Frag)(h:autoParam (X.K=K) L2.aR._auto_1):SlR X (G9 K):=by subst h;exact Ap
theorem sB(K:Frag)(h:autoParam (X.K=K) L2.aR._auto_1):CallR X (.builtin "len") (F8 K):=by subst h;exact so
theorem sC(K:Frag)(a:X.calm=true)(h:autoParam (X.K=K) L2.aR._auto_1):CallR X (.builtin "all") (KW K):=by subst h;exact su a
theorem sD(K:Frag)(a:X.calm=true)(h:autoParam (X.K=K) L2.aR._auto_1):CallR X (.builtin "any") (KY K):=by subst h;exact sv a
theorem wW(K:Frag)(h:autoParam (X.K=K) L2.aR._auto_1):MtR X "str.join" (wU K):=by subst h;exact Cq
theorem Hf{e:Expr}{t:TA}{id:String}(K:Frag)(g:PlainAttrs T)(slot:Slot T name id)(f:typeOf (.builtin id)=pure (.type "method_descriptor"))(j:MtR X id r)(i:PE X o to)(k:PA X (e::es) t)
  (l:autoParam (X.K=K) L2.aR._auto_1) (c:autoParam (attributeBase o name X.env (eval o X.env)=eval o X.env) L2.aR._auto_1)
  (d:autoParam (((backTo cpos (starEach (e::es) X.env)).all (λx=>!x.1)&&(backToKw cpos (keywordEach [] X.env)).all (λx=>x.1.isSome)
   && decide ((e::es).length+([]:List Keyword).length+(if ([]:List Keyword).isEmpty then 0 else 1)<30))=true) L2.aR._auto_1)
  (b:autoParam ((apos.endLine==cpos.line)=true) L2.aR._auto_1) (hs:autoParam (starEach (e::es) X.env=(false,eval e X.env)::starEach es X.env) L2.aR._auto_1) (a:autoParam ((backTo cpos (starEach es X.env)).any (·.1)=false) L2.aR._auto_1) :
  PE X (.Call (.Attribute o name apos) (e::es) [] cpos) (tBM K T r to t):=by subst l;exact LC g slot f j i k c d b hs a
theorem Cw{id:String}(K:Frag)(d:PlainAttrs T)(slot:Slot T name id)(c:typeOf (.builtin id)=pure (.type "method_descriptor"))(f:MtR X id r)(e:PE X o to)
  (g:autoParam (X.K=K) L2.aR._auto_1) (b:autoParam (attributeBase o name X.env (eval o X.env)=eval o X.env) L2.aR._auto_1) (a:autoParam ((apos.endLine==cpos.line)=true) L2.aR._auto_1):PE X (.Call (.Attribute o name apos) [] [] cpos) (KU K T r to):=by subst g;exact GY d slot c f e b a
theorem Cy{k:Nat}{t:TGs}{n:Nat}{pos:Pos}(K:Frag)(c:X.calm=true)(h:PGs X es t)(d:autoParam (X.K=K) L2.aR._auto_1)
  (b:autoParam ((assignEach es X.env).length=n) L2.aR._auto_1) (a:autoParam ((assignEach es X.env).findIdx? (·.1)=none) L2.aR._auto_1):PG X (.Tuple es k pos) (Gw K n t):=by subst d;exact Gx c h b a
theorem wX(K:Frag)(a:PE X l tl)(b:autoParam (X.K=K) L2.aR._auto_1):PI X tg l (wn K tl):=by subst b;exact BF a
theorem Cz(K:Frag)(a:PE X l tl)(b:autoParam (X.K=K) L2.aR._auto_1):PI X tg l (KL K tl):=by subst b;exact GB a
end
end L2
namespace L2
open PySem
end L2
namespace L2
theorem dH{α:Type}:∀zs:List α,(zs.map λ_=>1).sum=zs.length
 |[]=>rfl
 |z::zs=>by rw[abG,List.sum_cons,dH zs,abM];nofun
end L2
namespace L2
open PySem PySem.Spec PyProof.Rows
variable{e a b c o tg iter l:Expr}{es:List Expr}{env:Env}{pos p apos cpos:Pos}{X:Cx}{te ta tb to tl:TE}{t:TA}{x name:Str}{k i:Nat}{ps:List Str}{sp:Sp}{r:List V->Hp->VK->Prop}{T:String}{op op':CmpOp}{tc tA tB':TT}{r':R2}{trs:List (TE×TE)}{wi:TI}{g:TG}{st:Stmt}{u:TS}{body:List Stmt}
def bg:Expr->Bool
 |.Starred _ _=>false
 |_=>true
theorem bc(h:bg e=true):starEach (e::es) env=(false,eval e env)::starEach es env:=by
 cases e <;> first|rfl|(cases h)
theorem c8(h:es.all bg=true):(backTo pos (starEach es env)).any (·.1)=false:=by
 induction es with
 |nil=>rfl
 | cons e es a=>
  rw[aaQ,abR] at h;rw[bc h.1];have:=a h.2;simpa [backTo] using this
theorem pa_c(b:PE X e te)(hr:PA X es t)(a:autoParam (bg e=true) L2.aR._auto_1):PA X (e::es) (c7 te t):=BX b hr (bc a)
theorem CA(O:Own X.prog X.w X.K X.mg X.base x k ps sp)(hr:Room k X.A)(d:PA X (e::es) t)(c:autoParam (Gl X x) L2.aR._auto_1)(b:autoParam ((e::es).all bg=true) L2.aR._auto_1)
  (a:autoParam ((x==("__debug__" : Str))=false) L2.aD._auto_1):PE X (.Call (.Name x p) (e::es) [] pos) (pU sp [] E0 t):=by
 have h:=b;rw[aaQ,abR] at h;exact G8 O hr d c a (bc h.1) (c8 h.2)
theorem sE{id:String}(i:CallR X (.builtin id) r)(f:X.mg x=none)(c:bootBuiltins x=some (.builtin id))(j:PA X (e::es) t)(g:autoParam (Gl X x) L2.aR._auto_1)(a:autoParam ((e::es).all bg=true) L2.aR._auto_1)(d:autoParam (x ≠ "__name__") L2.aD._auto_1)
  (b:autoParam ((x==("__debug__" : Str))=false) L2.aD._auto_1):PE X (.Call (.Name x p) (e::es) [] pos) (tCB r t):=by
 have h:=a;rw[aaQ,abR] at h;exact wy i g f c j d b (bc h.1) (c8 h.2)
theorem sG(i:CallR X (.type T) r)(f:X.mg x=none)(c:bootBuiltins x=some (.type T))(j:PA X (e::es) t)(g:autoParam (Gl X x) L2.aR._auto_1)(a:autoParam ((e::es).all bg=true) L2.aR._auto_1)(d:autoParam (x ≠ "__name__") L2.aD._auto_1)
  (b:autoParam ((x==("__debug__" : Str))=false) L2.aD._auto_1):PE X (.Call (.Name x p) (e::es) [] pos) (tCB r t):=by
 have h:=a;rw[aaQ,abR] at h;exact rR i g f c j d b (bc h.1) (c8 h.2)
structure BE(X:Cx)(e:Expr)(t:TE):Prop where h:PE X e t
structure BT(X:Cx)(e:Expr)(t:TT):Prop where h:PT X e t
structure BW(X:Cx)(e:Expr)(t:TT):Prop where h:PW X e t
structure BA(X:Cx)(es:List Expr)(t:TA):Prop where h:PA X es t
structure BS(X:Cx)(s:Stmt)(t:TS):Prop where h:PS X s t
structure BSs(X:Cx)(s:List Stmt)(t:TS):Prop where h:PSs X s t
structure BG(X:Cx)(e:Expr)(t:TG):Prop where h:PG X e t
structure BGs(X:Cx)(es:List Expr)(t:TGs):Prop where h:PGs X es t
structure BI(X:Cx)(tg e:Expr)(t:TI):Prop where h:PI X tg e t
structure BO(X:Cx)(e:Option Expr)(t:TO):Prop where h:PO X e t
structure BIf(X:Cx)(es:List Expr)(t:TT):Prop where h:F7 X es t
structure BPs(X:Cx)(pos:Pos)(ks:List (Option Expr))(vs:List Expr)(t:List (TE×TE)):Prop where h:PPs X pos ks vs t
structure BOp(X:Cx)(f:Value->Value->Sem Value)(r:R2):Prop where h:OpR X f r
structure BCall(X:Cx)(f:Value)(r:List V->Hp->VK->Prop):Prop where h:CallR X f r
structure BMt(X:Cx)(id:String)(r:V->List V->Hp->VK->Prop):Prop where h:MtR X id r
theorem Aq(i:Nat)(c:X.N[i]?=some x)(b:Vis X.env.scope x)(hd:autoParam ((x==("__debug__" : Str))=false) L2.aD._auto_1)(a:autoParam ((x==("__classdict__" : Str))=false) L2.aD._auto_1):BE X (.Name x pos) (ei i):=⟨Gi c b hd a⟩
theorem we_vl(i:Nat)(c:autoParam (X.N[i]?=some x) L2.aR._auto_1)(b:autoParam (X.env.scope.names.lookup x=some .local) L2.aR._auto_1)(hd:autoParam ((x==("__debug__":Str))=false) L2.aD._auto_1)(a:autoParam ((x==("__classdict__":Str))=false) L2.aD._auto_1):BE X (.Name x pos) (ei i):=Aq i c (.inl b) hd a
theorem Ar{i j pos}:BE X (.Constant (.int i) j pos) (tC (.int i)):=⟨Gj⟩
theorem LP{b j pos}:BE X (.Constant (.bool b) j pos) (tC (.bl b)):=⟨Ld⟩
theorem Hg{j pos}:BE X (.Constant .none j pos) (tC .non):=⟨Gk⟩
theorem Au{x j pos}:BE X (.Constant (.str x) j pos) (tC (.str x)):=⟨Gm⟩
theorem Hi{v:V}(h:Glo X.mg x v)(a:X.env.kindOf x=some .globalImplicit)(hd:autoParam ((x==("__debug__" : Str))=false) L2.aD._auto_1):BE X (.Name x pos) (tC v):=⟨Ao h a hd⟩
theorem LQ(c:X.mg x=none)(a:bootBuiltins x=some (.type T))(d:X.env.kindOf x=some .globalImplicit)(b:autoParam (x ≠ "__name__") L2.aD._auto_1)(hd:autoParam ((x==("__debug__" : Str))=false) L2.aD._auto_1):BE X (.Name x pos) (tC (.ty T)):=⟨LM c a d b hd⟩
theorem LR{op:Operator}{r:R2}(c:BOp X (binaryOp op) r)(e:BE X a ta)(d:BE X b tb):BE X (.BinOp a op b pos) (tOp r ta tb):=⟨Lq c.h e.h d.h⟩
theorem Av(b:BE X a ta):BE X (.UnaryOp .USub a pos) (tUn (rU λi=>.int (-i)) ta):=⟨Lr GJ b.h⟩
theorem Hj(b:BE X a ta):BE X (.UnaryOp .Not a pos) (Bt ta):=⟨Gu b.h⟩
theorem Hk{op}{t:TE}(h:BE X a t):BE X (.BoolOp op [a] pos) t:=⟨Gr h.h⟩
theorem Hl{rest:List Expr}(d:BE X a ta)(c:BE X (.BoolOp .And (b::rest) pos) tb):BE X (.BoolOp .And (a::b::rest) pos) (Bs ta tb):=⟨Gs d.h c.h⟩
theorem Hm{r:R2}(c:BOp X (compareOp op) r)(f:BE X a ta)(e:BE X b tb)(d:behindInMarks op b=false):BE X (.Compare a [op] [b] pos) (tOp r ta tb):=⟨BN c.h f.h e.h d⟩
theorem wY{tc:TE}{r:R2}(e:BOp X (compareOp op) r)(d:BOp X (compareOp op') r')(j:BE X a ta)(i:BE X b tb)(g:BE X c tc)(f:lastMarks [op,op'] [b,c]=false):BE X (.Compare a [op,op'] [b,c] pos) (k6 r r' ta tb tc):=⟨wo e.h d.h j.h i.h g.h f⟩
theorem LS(d:BT X c tA)(f:BE X a ta)(e:BE X b tb):BE X (.IfExp c a b pos) (tIf tA ta tb):=⟨wc d.h f.h e.h⟩
theorem Hn(O:Own X.prog X.w X.K X.mg X.base x k ps sp)(hr:Room k X.A)(d:BA X (e::es) t)(c:X.env.kindOf x=some .globalImplicit)(b:(e::es).all bg=true)
  (a:autoParam ((x==("__debug__" : Str))=false) L2.aD._auto_1):BE X (.Call (.Name x p) (e::es) [] pos) (pU sp [] E0 t):=⟨CA O hr d.h c b a⟩
theorem wZ{id:String}(i:BCall X (.builtin id) r)(f:X.mg x=none)(c:bootBuiltins x=some (.builtin id))(j:BA X (e::es) t)(g:X.env.kindOf x=some .globalImplicit)(a:(e::es).all bg=true)(d:autoParam (x ≠ "__name__") L2.aD._auto_1)
  (b:autoParam ((x==("__debug__" : Str))=false) L2.aD._auto_1):BE X (.Call (.Name x p) (e::es) [] pos) (tCB r t):=⟨sE i.h f c j.h g a d b⟩
theorem w8(i:BCall X (.type T) r)(f:X.mg x=none)(c:bootBuiltins x=some (.type T))(j:BA X (e::es) t)(g:X.env.kindOf x=some .globalImplicit)(a:(e::es).all bg=true)(d:autoParam (x ≠ "__name__") L2.aD._auto_1)
  (b:autoParam ((x==("__debug__" : Str))=false) L2.aD._auto_1):BE X (.Call (.Name x p) (e::es) [] pos) (tCB r t):=⟨sG i.h f c j.h g a d b⟩
theorem nT(h:es.all bg=true)(a:es.length<29):((backTo pos (starEach es env)).all (λx=>!x.1)&&(backToKw pos (keywordEach [] env)).all (λx=>x.1.isSome)
      && decide (es.length+([]:List Keyword).length+(if ([]:List Keyword).isEmpty then 0 else 1)<30))=true:=by
  have h1:(backTo pos (starEach es env)).all (λx=>!x.1)=true:=by
    clear a
    induction es with
    |nil=>rfl
    | cons e es b=>
      rw[aaQ,abR] at h;rw[bc h.1];exact b h.2
  rw[h1];exact decide_eq_true (aaL a)
theorem CB{id:String}{r:V->List V->Hp->VK->Prop}(K:Frag)(f:PlainAttrs T)(slot:Slot T name id)(c:typeOf (.builtin id)=pure (.type "method_descriptor"))(i:BMt X id r)(g:BE X o to)(k:BA X (e::es) t)
  (l:X.K=K) (b:attributeBase o name X.env (eval o X.env)=eval o X.env) (d:(e::es).all bg=true) (j:(e::es).length<29) (a:(apos.endLine==cpos.line)=true):BE X (.Call (.Attribute o name apos) (e::es) [] cpos) (tBM K T r to t):=by
 have h:=d;rw[aaQ,abR] at h;exact⟨Hf K f slot c i.h g.h k.h l b (nT d j) a (bc h.1) (c8 h.2)⟩
theorem w9{id:String}{r:V->List V->Hp->VK->Prop}(K:Frag)(d:PlainAttrs T)(slot:Slot T name id)(c:typeOf (.builtin id)=pure (.type "method_descriptor"))(f:BMt X id r)(e:BE X o to)
  (g:X.K=K) (b:attributeBase o name X.env (eval o X.env)=eval o X.env) (a:(apos.endLine==cpos.line)=true):BE X (.Call (.Attribute o name apos) [] [] cpos) (KU K T r to):=⟨Cw K d slot c f.h e.h g b a⟩
theorem xa{lo hi:Option Expr}{tl th:TO}{p2:Pos}(K:Frag)(c:BE X e te)(b:BO X lo tl)(a:BO X hi th)(d:X.K=K):BE X (.Subscript e (.Slice lo hi none p2) pos) (tSl (G9 K) te tl th):=⟨nJ (Cv K d) c.h b.h a.h⟩
theorem Ho(h:BA X es t):BE X (.List es pos) (KQ t):=⟨GR h.h⟩
theorem Hq{a}(h:BA X es t):BE X (.Tuple es a pos) (KP t):=⟨GQ h.h⟩
theorem CC :BE X (.Dict [] [] pos) rY:=⟨wD⟩
theorem sH{k:Option Expr}{keys:List (Option Expr)}{values:List Expr}(h:BPs X pos (k::keys) values trs)(a:(k::keys).all (·.isSome)=true)(c:(k::keys).length=values.length)(b:(k::keys).length<=15):BE X (.Dict (k::keys) values pos) (wH trs):=⟨Cj h.h a c (λz=>nomatch z) b⟩
theorem CD :BPs X pos [] [] []:=⟨Ci⟩
theorem xb{k v:Expr}{ks:List (Option Expr)}{vs:List Expr}{tk tv:TE}(b:BE X k tk)(a:BE X v tv)(hr:BPs X pos ks vs trs):BPs X pos (some k::ks) (v::vs) ((tk,tv)::trs):=⟨wG b.h a.h hr.h⟩
theorem CF{T F:List Str}{ixs:List Nat}{scope:Scope}{elt:Expr}{ifs:List Expr}(d:X.calm=true)(S:CompScope X T F ixs scope)(hi:BI X tg iter wi)
  (b:∀C s H fp,BG (bo X (T++F) scope (aG X.env scope.names []) C s H fp) tg g) (a:∀C s H fp,BIf (bo X (T++F) scope (aG X.env scope.names []) C s H fp) ifs tc) (c:∀C s H fp,BE (bo X (T++F) scope (aG X.env scope.names []) C s H fp) elt te)
  (hs:∀x,foldedSetIterable iter X.env x=pure x):BE X (.ListComp elt [⟨tg,iter,ifs,0⟩] scope pos) (gR T.length ixs wi g tc te):=
 ⟨Co d S hi.h (λC s H fp=>(b C s H fp).h) (λC s H fp=>(a C s H fp).h) (λC s H fp=>(c C s H fp).h) hs⟩
theorem Hr:BA X [] jc:=⟨GP⟩
theorem wa_c(b:BE X e te)(hr:BA X es t)(a:bg e=true):BA X (e::es) (c7 te t):=⟨pa_c b.h hr.h a⟩
theorem CG:BO X none mM:=⟨B9⟩
theorem CH(h:BE X e te):BO X (some e) (B8 te):=⟨Ca h.h⟩
theorem CI:BIf X [] LK:=⟨Ck⟩
theorem CJ{t:TT}(h:BT X c t):BIf X [c] t:=⟨Cm h.h⟩
theorem Hs{r:R2}(c:BOp X (compareOp op) r)(f:BE X a ta)(e:BE X b tb)(d:behindInMarks op b=false):BT X (.Compare a [op] [b] pos) (rG (tOp r ta tb)):=⟨BP c.h f.h e.h d⟩
theorem xc{tc:TE}{r:R2}(e:BOp X (compareOp op) r)(d:BOp X (compareOp op') r')(j:BE X a ta)(i:BE X b tb)(g:BE X c tc)(f:lastMarks [op,op'] [b,c]=false):BT X (.Compare a [op,op'] [b,c] pos) (rG (k6 r r' ta tb tc)):=⟨g0 e.h d.h j.h i.h g.h f⟩
theorem Ht(b:BT X a tA):BT X (.UnaryOp .Not a pos) (Lf tA):=⟨Gq b.h⟩
theorem wt_w{t:TT}(h:BW X e t):BT X e t:=⟨h.h.pt⟩
theorem CK(b:BT X a tA):BW X (.BoolOp .And [a] pos) tA:=⟨Br b.h⟩
theorem Hu(b:BT X a tA):BW X (.BoolOp .Or [a] pos) tA:=⟨Go b.h⟩
theorem Hv{rest:List Expr}(d:BT X a tA)(c:BW X (.BoolOp .And (b::rest) pos) tB'):BW X (.BoolOp .And (a::b::rest) pos) (Le tA tB'):=⟨Gp d.h c.h⟩
theorem LU{rest:List Expr}(d:BT X a tA)(c:BW X (.BoolOp .Or (b::rest) pos) tB'):BW X (.BoolOp .Or (a::b::rest) pos) (tOr tA tB'):=⟨Lg d.h c.h⟩
theorem CL{f:Expr}{as:List Expr}{ks:List Keyword}{t:TE}(h:BE X (.Call f as ks pos) t):BT X (.Call f as ks pos) (tB t):=⟨Gn h.h (by intro _;cases f <;> rfl)⟩
def LV(K:Frag)(ta:TE):TT:=λσ H Q=>ta σ H λx H'=>∃k,KN K x H' k/\Q k H'
theorem CM{t:TE}(K:Frag)(h:BE X (.Name x pos) t)(a:X.K=K):BT X (.Name x pos) (LV K t):=by subst a;exact⟨nH h.h (λ_=>rfl)⟩
theorem CN(b:X.N.Nodup)(hi:X.N[i]?=some x)(hx:Loc X.env.scope x)(a:X.fn x=true∨X.env.scope.names.lookup x=some .local):BG X (.Name x pos) (fE i):=⟨BC b hi hx a⟩
theorem CO:BGs X [] KJ:=⟨BD⟩
theorem xf{t:TG}{u:TGs}(h1:BG X e t)(h2:BGs X es u)(hs:(assignEach (e::es) X.env).map (·.2)=assign e X.env::(assignEach es X.env).map (·.2)):BGs X (e::es) (rl t u):=⟨wl h1.h h2.h hs⟩
theorem Hw{t:TGs}{n:Nat}(K:Frag)(c:X.calm=true)(h:BGs X es t)(d:X.K=K)(b:(assignEach es X.env).length=n)(a:(assignEach es X.env).findIdx? (·.1)=none):BG X (.Tuple es k pos) (Gw K n t):=⟨Cy K c h.h d b a⟩
theorem Hx{i:Expr}{b:TE}(c:BE X o to)(hi:BE X i b)
  (d:∀v,assign (.Subscript o i pos) X.env v=(do
   let ov ← holding [v] (eval o X.env)
   let a ← holding [v,ov] (eval i X.env)
   standAt pos
   holding [v,ov,a] (setItem ov a v)
   release [v,ov,a] [])):BG X (.Subscript o i pos) (Ln to b Ce):=⟨Gy c.h hi.h wA d⟩
theorem CP(K:Frag)(a:BE X l tl)(b:X.K=K):BI X tg l (wn K tl):=⟨wX K a.h b⟩
theorem Hy(K:Frag)(a:BE X l tl)(b:X.K=K):BI X tg l (KL K tl):=⟨Cz K a.h b⟩
theorem Hz(K:Frag)(a:BE X l tl)(b:X.K=K):BI X tg l (LL tl):=⟨G3 a.h⟩
theorem sI{ta:TA}(d:X.env.kindOf "range" = some .globalImplicit)(c:X.mg "range" = none)(e:BA X [a] ta)(b:bg a=true):BI X tg (.Call (.Name "range" p) [a] [] pos) (BH ta):=⟨rq d c e.h (bc b)⟩
theorem sJ{ta:TA}(f:X.env.kindOf "range" = some .globalImplicit)(e:X.mg "range" = none)(g:BA X [a,b] ta)(d:bg a=true)(c:bg b=true):BI X tg (.Call (.Name "range" p) [a,b] [] pos) (BJ ta):=
 ⟨rA f e g.h (by rw[bc d,bc c];rfl) (by rw[bc c];rfl)⟩
theorem CQ:BSs X [] Bu:=⟨Bv⟩
theorem CS{t:TS}(h:BS X st t):BSs X [st] t:=⟨Bw h.h⟩
theorem xg{rest:List Stmt}{t:TS}(h1:BS X st t)(h2:BSs X rest u):BSs X (st::rest) (Li t u):=⟨we h1.h h2.h⟩
theorem xh :BS X (.Break pos) rh:=⟨wf⟩
theorem mR :BS X (.Continue pos) Bx:=⟨mK⟩
theorem CT(a:BE X e te)(hs:swapsWith e none pos.line X.env=pure false):BS X (.Expr e pos) (wg te):=⟨By a.h hs⟩
theorem HA(a:BE X e te):BS X (.Return (some e) pos) (Lj te):=⟨Gv a.h⟩
theorem CU :BS X (.Return none pos) Bz:=⟨BB⟩
theorem LW{a b:List Stmt}{t:TS}(d:BT X c tc)(f:BSs X a t)(e:BSs X b u):BS X (.If c a b pos) (Lk tc t u):=⟨Ll d.h f.h e.h⟩
theorem HB{pos':Pos}(c:X.N.Nodup)(hi:X.N[i]?=some x)(hx:Loc X.env.scope x)(b:BE X e te)(hs:swapsWith e (some (.Name x pos')) pos.line X.env=pure false)(a:X.fn x=true∨X.env.scope.names.lookup x=some .local) :
  BS X (.Assign [.Name x pos'] e pos) (pM te (fE i)):=⟨GA c hi hx b.h hs a⟩
theorem HC(c:BE X e te)(b:BG X tg g)(hs:swapsWithSole [tg] e pos.line X.env=pure false)(a:swappedStores [tg] e X.env=pure none)(h1:(assignEach [tg] X.env).map (·.2)=[assign tg X.env]):BS X (.Assign [tg] e pos) (pM te g):=⟨Gz c.h b.h hs a h1⟩
theorem HD{tb:TS}(a:PassesOwn (model X.prog X.w) X.A X.env X.xe)(c:X.calm=true)(hi:BI X tg iter wi)(b:BG X tg g)(d:BSs X body tb)(hs:∀x,foldedSetIterable iter X.env x=pure x):BS X (.For tg iter body [] pos) (Lo wi g tb):=⟨GC a c hi.h b.h d.h hs⟩
theorem xi{tb:TS}(a:PassesOwn (model X.prog X.w) X.A X.env X.xe)(b:BT X c tc)(d:BSs X body tb):BS X (.While c body [] pos) (rm tc tb):=⟨wm a b.h d.h⟩
theorem CV:BOp X (binaryOp .Sub) (rI0 λi j=>.int (i - j)):=⟨GE⟩
theorem CW:BOp X (binaryOp .Mult) (rI CMul λi j=>.int (i*j)):=⟨GG⟩
theorem xj:BOp X (binaryOp .FloorDiv) (rI BK λi j=>.int (i / j)):=⟨BL⟩
theorem CY:BOp X (binaryOp .Mod) (rI (λ_ j=>0<j) λi j=>.int (i % j)):=⟨GH⟩
theorem CZ:BOp X (binaryOp .Pow) (rI F0 λi j=>.int (i ^ j.toNat)):=⟨GI⟩
theorem HE(K:Frag)(a:X.A.units+64<cLine)(h:X.K=K):BOp X (compareOp .Eq) (KZ K):=⟨Hd K a h⟩
theorem HF(K:Frag)(a:X.A.units+64<cLine)(h:X.K=K):BOp X (compareOp .NotEq) (K0 K):=⟨He K a h⟩
def Na:R2:=λx y H Q=>y=.non/\Q (.bl (decide (x=.non))) H
def HG:R2:=λx y H Q=>y=.non/\Q (.bl (!decide (x=.non))) H
theorem C5:BOp X (compareOp .Is) Na:=⟨GK⟩
theorem xk:BOp X (compareOp .IsNot) HG:=⟨BM⟩
theorem HH(K:Frag)(h:X.K=K):BCall X (.builtin "len") (F8 K):=⟨sB K h⟩
theorem HI(a:X.calm=true):BCall X (.builtin "max") LN:=⟨sq a⟩
theorem HJ(a:X.calm=true):BCall X (.builtin "min") LO:=⟨sr a⟩
theorem HK(K:Frag)(a:X.calm=true)(h:X.K=K):BCall X (.builtin "all") (KW K):=⟨sC K a h⟩
theorem HL(K:Frag)(a:X.calm=true)(h:X.K=K):BCall X (.builtin "any") (KY K):=⟨sD K a h⟩
theorem C6(K:Frag)(h:X.K=K):BMt X "str.join" (wU K):=⟨wW K h⟩
theorem sK(K:Frag)(h:X.K=K):BMt X "list.append" eB:=⟨ll⟩
theorem Fun.okB{P:Program}{w:World}{K:Frag}{mg:Str->Option Value}{base:Heap}{qual:Str}{f:Addr}{fd:FuncData}{N:List Str}(F:Fun K x qual st f fd)(S:FnScope N ps (aw st))(len:∀vs H Q E,sp vs H Q E->vs.length=ps.length)
  (a:∀(cdv:Value) (A:Around) (outer:List Env) (s:Shared) (H:Hp) (vs:List V) (Q:VK) (E:XK),Room k (A.deeper (envOfC qual (aw st) s.heap.objs.size f cdv))->sp vs H Q E ->
   ∃t,BSs (rP CX0 P w K mg base N qual (aw st) f cdv A outer s H E).nox (bu st) t/\t { nx:=λ_ H'=>Q .non H',rt:=Q } (start N vs) H):FnOk P w K mg base CX0 (k+1) f fd ps sp:=
 F.ok S len λcdv A outer s H vs Q E hr h=>by
  obtain⟨t,h1,h2⟩:=a cdv A outer s H vs Q E hr h;exact⟨t,h1.h,h2⟩
end L2
namespace L2
open PySem
end L2
set_option maxHeartbeats 4000000
namespace KS
open PySem PySem.Spec PyProof.Rows
variable{xs order:Array Nat}{i j mask finger moves ep n c slot g:Nat}{led plain L:Bool}{hs:Array Int}{prog:Program}{w:World}{K α:Type}{A A':Around}{E Q:Value->Shared->Prop}{s:Shared}{h h':Heap}{a I pl:Addr}{o op:Obj}{es:Array (Int×Value)}{x:Value}{pls:Array Value}{Q':Option (Value×Nat)->Shared->Prop}
def Ris(xs:Array Nat):Prop:=xs.toList.Pairwise (·<·)
theorem Ris.lt(h:Ris xs){d:Nat}(a:i<j)(b:j<xs.size):xs.getD i d<xs.getD j d:=by
 have hi:i<xs.size:=ab3 a b;have q:=abZ.mp h i j (by exists hi) (by exists b) a;rw[Array.getD_eq_getD_getElem?,Array.getD_eq_getD_getElem?,Array.getElem?_eq_getElem hi,Array.getElem?_eq_getElem b];simpa using q
theorem j4{xs:Array Nat}{j:Nat}(h:Ris xs):∀(f lo hi:Nat),lo<=hi->hi<=xs.size->hi - lo<=f->(∀k,k<lo->xs.getD k j<j)->(∀k,hi<=k->k<xs.size->j<=xs.getD k j) ->
  SetTable.below.go xs j f lo hi<=xs.size/\(∀k,k<SetTable.below.go xs j f lo hi->xs.getD k j<j)/\∀k,SetTable.below.go xs j f lo hi<=k->k<xs.size->j<=xs.getD k j
 | 0,lo,hi,a,b,c,p,q=>by
  have e:hi=lo:=by nofun
  subst e;exact⟨b,p,q⟩
 | f+1,lo,hi,a,b,c,p,q=>by
  have n:SetTable.below.go xs j (f+1) lo hi=if lo<hi then (if xs.getD ((lo+hi) / 2) j<j then SetTable.below.go xs j f ((lo+hi) / 2+1) hi else SetTable.below.go xs j f lo ((lo+hi) / 2)) else lo:=rfl;rw[n];by_cases g:lo<hi
  ·rw[if_pos g];have o:(lo+hi) / 2<hi:=by nofun
   by_cases l:xs.getD ((lo+hi) / 2) j<j
   ·rw[if_pos l];refine j4 h f _ hi (by nofun) b (by nofun) (λk m=>?_) q;by_cases e:k=(lo+hi) / 2
    ·rw[e];exact l
    ·exact ab3 (h.lt (i:=k) (j:=(lo+hi) / 2) (by nofun) (by nofun)) l
   ·rw[if_neg l];refine j4 h f lo _ (by nofun) (by nofun) (by nofun) p λk m hs=>?_;by_cases e:k=(lo+hi) / 2
    ·rw[e];nofun
    ·have:=h.lt (i:=(lo+hi) / 2) (j:=k) (d:=j) (by nofun) hs;nofun
  ·rw[if_neg g];have e:hi=lo:=by nofun
   subst e;exact⟨b,p,q⟩
theorem gp(h:Ris xs)(j:Nat):SetTable.below xs j<=xs.size/\(∀k,k<SetTable.below xs j->xs.getD k j<j)/\∀k,SetTable.below xs j<=k->k<xs.size->j<=xs.getD k j:=
 j4 h _ _ _ (aan _) (aac _) (by nofun) (λk a=>absurd a (abr _)) λk a hs=>absurd hs (by nofun)
theorem qb(h:Ris xs):SetTable.below xs 0=0:=by
 obtain⟨_,b,_⟩:=gp h 0;by_cases e:SetTable.below xs 0=0
 ·exact e
 ·exact absurd (b 0 (by nofun)) (abr _)
theorem qc(h:Ris xs){p:Nat}(e:xs[i]?=some p):SetTable.below xs (p+1)=i+1:=by
 obtain⟨hi,ep⟩:=Array.getElem?_eq_some_iff.mp e;obtain⟨a,b,c⟩:=gp h (p+1);have g:∀d,xs.getD i d=p:=λd=>by rw[Array.getD_eq_getD_getElem?,e];rfl
 by_cases l:SetTable.below xs (p+1)<=i
 ·have:=c i l hi;rw[g] at this;nofun
 ·by_cases r:SetTable.below xs (p+1)=i+1
  ·exact r
  ·have h1:=b (i+1) (by nofun);have h2:=h.lt (i:=i) (j:=i+1) (d:=p+1) (by nofun) (by nofun);rw[g] at h2;nofun
def NotIn(xs:Array Nat)(j:Nat):Prop:=xs[SetTable.below xs j]?≠some j
theorem qd(h:Ris xs)(n:NotIn xs j):Ris (SetTable.insertAt xs (SetTable.below xs j) j):=by
 obtain⟨a,b,c⟩:=gp h j;unfold NotIn at n;generalize SetTable.below xs j=p at a b c n
 have e:(SetTable.insertAt xs p j).toList=xs.toList.take p++j::xs.toList.drop p:=by
  unfold SetTable.insertAt;simp[Array.toList_extract,List.extract_eq_drop_take,Array.length_toList];exact aai (by rw[aaB,abO];exact aac _)
 have lo:∀x∈xs.toList.take p,x<j:=by
  intro x g;obtain⟨k,f⟩:=List.mem_iff_getElem?.mp g;rw[List.getElem?_take] at f;split at f
  ·rename_i m;have:=b k m;rw[Array.getD_eq_getD_getElem?,← Array.getElem?_toList,f] at this;exact this
  ·cases f
 have hi:∀x∈xs.toList.drop p,j<x:=by
  intro x g;obtain⟨k,f⟩:=List.mem_iff_getElem?.mp g;rw[List.getElem?_drop] at f
  have hs:p+k<xs.size:=by
   have:=(List.getElem?_eq_some_iff.mp f).1;simpa using this
  have q:=c (p+k) (by nofun) hs;rw[Array.getD_eq_getD_getElem?,← Array.getElem?_toList,f] at q;have q:j<=x:=q;rcases Nat.lt_or_ge j x with z|z
  ·exact z
  ·have ex:x=j:=by nofun
   subst ex;exfalso;by_cases o:k=0
   ·subst o;exact n (by rw[← Array.getElem?_toList];exact f)
   ·have g1:=h.lt (i:=p) (j:=p+k) (d:=x) (by nofun) hs;have g2:=c p (aac _) (by nofun);have g3:xs.getD (p+k) x=x:=by rw[Array.getD_eq_getD_getElem?,← Array.getElem?_toList,f];rfl
    nofun
 unfold Ris;rw[e];refine List.pairwise_append.mpr ⟨List.Pairwise.sublist (aaZ p _) h,List.pairwise_cons.mpr ⟨hi,List.Pairwise.sublist (List.drop_sublist p _) h⟩,λx g y l=>?_⟩;rcases abI.mp l with rfl|l
 ·exact lo x g
 ·exact ab3 (lo x g) (hi y l)
theorem lx(t:SetTable)(p:SetTable.Probe):(t.advance p).dummy=p.dummy:=by
 unfold SetTable.advance;split
 ·rfl
 ·rfl
theorem gq{t:SetTable}{f:Nat->Int}{h:Int}:∀(a:Nat) (p:SetTable.Probe) (j:Nat) (d:Option Nat),(∀x,p.dummy=some x->NotIn t.place x)->SetTable.probe.go t f h a p=some (.empty j d)->NotIn t.place j/\∀x,d=some x->NotIn t.place x
 |0,p,j,d,_,e=>by unfold SetTable.probe.go at e;cases e
 | a+1,p,j,d,g,e=>by
  unfold SetTable.probe.go at e
  have ns:∀{s:SetTable.Slot},t.slot p.j=s->(∀i,s≠.live i)->NotIn t.place p.j:=by
   intro s es hs k;unfold SetTable.slot at es;dsimp only at es;rw[if_pos (by rw[k];simp)] at es;exact hs _ es.symm
  cases b:t.slot p.j with
  | empty=>
   rw[b] at e;have e:=aaj e;injection e with m l
   subst m l;exact⟨ns b (λi z=>nomatch z),g⟩
  | dummy=>
   rw[b] at e;refine gq a _ j d (λx c=>?_) e;rw[lx] at c;have c:some p.j=some x:=c;injection c with c
   rw[← c];exact ns b λi z=>nomatch z
  | live i=>
   rw[b] at e;dsimp only at e;split at e
   ·cases e
   ·exact gq a _ j d (λx c=>g x (by rw[lx] at c;exact c)) e
theorem qe{t:SetTable}{h:Int}{b:Bool}(e:t.freeSlot h=some (j,b)):NotIn t.place j:=by
 unfold SetTable.freeSlot at e;split at e
 ·rename_i a d f;obtain⟨h1,h2⟩:=gq _ _ _ _ (λx c=>by cases (show (none:Option Nat)=some x from c)) f;have e:=aaj e;have g:d.getD a=j:=congrArg Prod.fst e;subst g
  cases d with
  |none=>exact h1
  |some x=>exact h2 x rfl
 ·cases e
theorem C7(t:SetTable)(es:Array (Int×Value))(h:Int)(x:Value)(hr:t.plain=true->Ris t.place):(layNew t es h x).2.1.plain=true->Ris (layNew t es h x).2.1.place:=by
 unfold layNew;split
 ·rename_i slot b e;dsimp only;unfold SetTable.orStandIn;split
  ·intro a;have a:t.plain=true:=a;exact qd (hr a) (qe e)
  ·exact λz=>by cases z
 ·exact λz=>by cases z
theorem xl{t:SetTable}(h:SetTable.laid mask finger moves led plain hs=some (t,order)):Ris t.place:=by
 unfold SetTable.laid at h
 cases e:SetTable.layClean mask hs with
 |none=>rw[e] at h;cases h
 | some owner=>
  rw[e] at h;have h':=aaj h;rw[← congrArg (λp=>p.1.place) h'];dsimp only;unfold Ris;rw[List.toList_toArray,List.pairwise_map];refine List.Pairwise.filterMap _ (R:=(·<·)) (λa j d b f i c=>?_) List.pairwise_lt_range;obtain⟨y,_,rfl⟩:=Option.map_eq_some_iff.mp f;obtain⟨g,_,rfl⟩:=Option.map_eq_some_iff.mp c;exact d
theorem sL(t:SetTable)(es:Array (Int×Value))(a:Nat):(relayAll t es a).2.1.plain=true->Ris (relayAll t es a).2.1.place:=by
 unfold relayAll;split
 ·rename_i t' order e;dsimp only;split
  ·exact λ_=>xl (show SetTable.laid _ _ _ t.led t.plain _=some (t',order) from e)
  ·exact λz=>by cases z
 ·exact λz=>by cases z
theorem C8(t:SetTable)(es:Array (Int×Value))(h:Int)(x:Value):(layNew t es h x).2.1.led=t.led/\((layNew t es h x).2.1.plain=true->t.plain=true):=by
 unfold layNew;split
 ·dsimp only;unfold SetTable.orStandIn;split
  ·exact⟨rfl,λz=>z⟩
  ·exact⟨rfl,λz=>by cases z⟩
 ·exact⟨rfl,λz=>by cases z⟩
theorem xm{t:SetTable}(h:SetTable.laid mask finger moves led plain hs=some (t,order)):t.led=led/\t.plain=plain:=by
 unfold SetTable.laid at h
 cases e:SetTable.layClean mask hs with
 |none=>rw[e] at h;cases h
 | some owner=>
  rw[e] at h;have h':=aaj h;exact⟨(congrArg (λp=>p.1.led) h').symm,(congrArg (λp=>p.1.plain) h').symm⟩
theorem sM(t:SetTable)(es:Array (Int×Value))(a:Nat):(relayAll t es a).2.1.led=t.led/\((relayAll t es a).2.1.plain=true->t.plain=true):=by
 unfold relayAll;split
 ·rename_i t' order e;have q:=xm (show SetTable.laid _ _ _ t.led t.plain _=some (t',order) from e);dsimp only;split
  ·exact⟨q.1,λz=>by rw[q.2] at z;exact z⟩
  ·exact⟨rfl,λz=>by cases z⟩
 ·exact⟨rfl,λz=>by cases z⟩
section
variable    [DecidableEq K] (knd:KeyKind prog w K)
def SetZ(h:Heap)(a:Addr)(σ:List K)(L:Bool):Prop:=
 ∃o es ep t,h.get? a=some o/\o.ExactSet/\o.data=.set es ep t/\ElemsOf knd es.toList/\(∀k,k∈σ↔∃e∈es.toList,knd.is k e.2=true)/\es.size<scanBound/\t.fits es.size=true/\es.size=σ.length/\σ.Nodup/\t.led=L/\(t.plain=true->Ris t.place)
def dedup1(σ:List K)(k:K):List K:=if k∈σ then σ else σ++[k]
variable {knd}   
theorem nodup_snoc{σ:List K}{k:K}(h:σ.Nodup)(c:k∉σ):(σ++[k]).Nodup:=by
 rw[abP];refine⟨h,by simp,λx b y a e=>?_⟩;have a:y=k:=(by exists a);rw[e,a] at b;exact c b
theorem SetZ.at{σ:List K}(c:SetZ knd h a σ L)(k:∀o,h.get? a=some o->h'.get? a=some o):SetZ knd h' a σ L:=by
 obtain⟨o,es,ep,t,b,r⟩:=c;exact⟨o,es,ep,t,k o b,r⟩
theorem Nb{t:SetTable}(c:h.get? a=some o)(hd:o.data=.set es ep t)(b:Array (Int×Value))(t':SetTable) :
  (h.update a (Obj.putSet b t')).get? a=some { o with data:=.set b (ep+1) t' }:=by
 have q:=Heap.get?_update_self (Obj.putSet b t') c (by rw[putSet_of b t' hd];rfl);rw[putSet_of b t' hd] at q;exact q
theorem C9{g:Bool->Sem Unit}(J:∀(b:Bool) (i:Shared) (Q':Unit->Shared->Prop),Q' () i->wpAny (model prog w) A (g b) Q' E i)
      {t:SetTable} (F:s.heap.get? a=some o) (hex:o.ExactSet) (hd:o.data=.set es ep t)
  {c:Array (Int×Value)} {d:SetTable} {v:List K}  (u:ElemsOf knd c.toList) (H:∀x,x∈v↔∃e∈c.toList,knd.is x e.2=true)
  (y:c.size<scanBound) (M:d.fits c.size=true) (G:c.size=v.length) (r:v.Nodup) (j:d.led=L) (B:d.plain=true->Ris d.place) {f:Bool} {R:Option Bool->Shared->Prop}
  (h:∀h',Heap.SameBut a s.heap h'->SetZ knd h' a v L->R (some true) { s with heap:=h' }) :
  wpAny (model prog w) A (do
    storeSet a c d
    if (!f&&d.tooFull)=true then do
      g (relayAll d c (SetTable.grown c.size)).2.2
      storeSet a (relayAll d c (SetTable.grown c.size)).1 (relayAll d c (SetTable.grown c.size)).2.1
      pure (some true)
     else pure (some true)) R E s:=by
 refine aaa (wpAny_storeSet_of F hd ?_ (fits_of_scanBound y));have g1:=Nb F hd c d;have b1:=Heap.SameBut.update s.heap a (Obj.putSet c d);split
 ·have p:=relayAll_perm d c (SetTable.grown c.size);have m:=relayAll_fits d c (SetTable.grown c.size);have l:=sM d c (SetTable.grown c.size);have k:=sL d c (SetTable.grown c.size);generalize N:relayAll d c (SetTable.grown c.size)=Y at p m l k ⊢;obtain⟨n,D,I⟩:=Y;dsimp only at p m l k ⊢;have z:n.size=c.size:=by rw[← Array.length_toList,p.length_eq,Array.length_toList]
  refine aaa (J _ _ _ ?_);refine aaa (wpAny_storeSet_of g1 rfl ?_ (fits_of_scanBound (by rw[z];exact y)))
  exact aaf (h _ (b1.trans (Heap.SameBut.update _ a _)) ⟨_,n,_,D,Nb g1 rfl n D,hex,rfl,u.perm p,λx=>(H x).trans ⟨fun⟨e,C,q⟩=>⟨e,p.mem_iff.mpr C,q⟩,fun⟨e,C,q⟩=>⟨e,p.mem_iff.mp C,q⟩⟩,
   by rw[z];exact y,m,z.trans G,r,l.1.trans j,k⟩)
 ·exact aaf (h _ b1 ⟨_,c,_,d,g1,hex,rfl,u,H,y,M,G,r,j,B⟩)
theorem addZ{σ:List K}{k:K}{Q:Bool->Shared->Prop}(d:knd.is k x=true)(y:x.scannable=true)(T:SetZ knd s.heap a σ L)(N:σ.length+1<scanBound)
  (h:∀b h',Heap.SameBut a s.heap h'->SetZ knd h' a (dedup1 σ k) L->Q b { s with heap:=h' }):wpAny (model prog w) A (setAddHashed a x (knd.hash k)) Q E s:=by
 obtain⟨o,es,ep,t,M,hex,hd,F,R,hb,S,Z,B,g,O⟩:=id T;unfold setAddHashed setAddHashedIn;refine aaM (aaa (abe M hd S ?_));dsimp only;rw[byScan_of y hb F];simp only[↓reduceIte];unfold setAddByScan;refine aaa ?_;refine aaa (abB ?_);refine aaa (wpAny_setScan_of d M hd S F ?_)
 cases hr:List.findIdx? (λe=>knd.is k e.2) es.toList with
 | some j=>
  dsimp only;obtain⟨hj,P,_⟩:=List.findIdx?_eq_some_iff_getElem.mp hr;have I:k∈σ:=(R k).mpr ⟨es.toList[j],aaR hj,P⟩;refine aaf (aaf ?_);have q:=h false s.heap (Heap.SameBut.refl a s.heap) (by unfold dedup1;rw[if_pos I];exact T);exact q
 | none=>
  dsimp only
  have I:k∉σ:=λz=>by
   obtain⟨e,n,m⟩:=(R k).mp z;have:=List.findIdx?_eq_none_iff.mp hr e n;rw[m] at this;cases this
  have p:∀(b:Bool) {c:Shared} {Q':Unit->Shared->Prop},Q' () c->wpAny (model prog w) A (match b with|true=>rule "set.scan.the-table-gave-way" | false=>pure ()) Q' E c:=λb c Q' v=>by
   cases b
   ·exact aaf v
   ·exact abB v
  have m:=layNew_perm t es (knd.hash k) x;have i:=layNew_fits t es (knd.hash k) x;have f:=C8 t es (knd.hash k) x;have r:=C7 t es (knd.hash k) x O;generalize hL:layNew t es (knd.hash k) x=Y at m i f r ⊢;obtain⟨u,t1,H,U⟩:=Y;dsimp only at m i f r ⊢;rw[Array.toList_push] at m;have V:u.size=es.size+1:=by rw[← abO,m.length_eq,abH,abO];rfl
  have l:ElemsOf knd u.toList:=(F.push d y).perm m
  have D:∀J,J∈σ++[k]↔∃e∈u.toList,knd.is J e.2=true:=λJ=>by
   rw[abE,R J,abF];constructor
   ·rintro (⟨e,n,q⟩|rfl)
    ·exact⟨e,m.mem_iff.mpr (aav _ n),q⟩
    ·exact⟨_,m.mem_iff.mpr (aal _ (abF.mpr rfl)),d⟩
   ·rintro⟨e,n,q⟩;rcases abE.mp (m.mem_iff.mp n) with n|n
    ·exact .inl ⟨e,n,q⟩
    ·rw[abF] at n;subst n;exact .inr (knd.inj x J k q d)
  refine aaa (p _ ?_);have fin:∀h',Heap.SameBut a s.heap h'->SetZ knd h' a (σ++[k]) L->Q true { s with heap:=h' }:=λh' G z=>h true h' G (by unfold dedup1;rw[if_neg I];exact z);have C:u.size=(σ++[k]).length:=by rw[abH,V,Z];rfl
  split
  ·refine aaa ?_;rw[hashByValue_scannable 8 y];refine aaf ?_
   cases W:plainKind x with
   | false=>
    refine C9 ?_ M hex hd l D (by nofun) (by rw[if_neg (by decide)];exact SetTable.fits_plain_off i) C (nodup_snoc B I) (L:=L) (by rw[if_neg (by decide)];exact f.1.trans g) (by rw[if_neg (by decide)];exact λz=>nomatch z) ?_
    ·intro b c Q' v;exact p b v
    ·intro h' G z;dsimp only;exact aaf (fin h' G z)
   | true=>
    refine C9 ?_ M hex hd l D (by nofun) (by rw[if_pos rfl];exact i) C (nodup_snoc B I) (L:=L) (by rw[if_pos rfl];exact f.1.trans g) (by rw[if_pos rfl];exact r) ?_
    ·intro b c Q' v;exact p b v
    ·intro h' G z;dsimp only;exact aaf (fin h' G z)
  ·rename_i X;refine aaa (aaf ?_);simp only[↓reduceIte];refine C9 ?_ M hex hd l D (by nofun) i C (nodup_snoc B I) (L:=L) (f.1.trans g) r ?_
   ·intro b c Q' v;exact p b v
   ·intro h' G z;dsimp only;exact aaf (fin h' G z)
def metZ(val:Nat->K)(i:Nat):List K:=((List.range i).map val).foldl dedup1 []
theorem iw(val:Nat->K)(i:Nat):metZ val (i+1)=dedup1 (metZ val i) (val i):=by
 unfold metZ;rw[aba,aad,abf];rfl
theorem metZ_len(val:Nat->K):∀i,(metZ val i).length<=i
 |0=>aac _
 | i+1=>by
  rw[iw];have a:=metZ_len val i;unfold dedup1;split
  ·nofun
  ·rw[abH,abd];nofun
theorem metZ_mem(val:Nat->K):∀(i:Nat) (k:K),k∈metZ val i↔∃j,j<i/\val j=k
 | 0,k=>by
  constructor
  ·intro h;cases h
  ·rintro⟨j,a,_⟩;nofun
 | i+1,k=>by
  have e:k∈metZ val (i+1)↔k∈metZ val i∨val i=k:=by
   rw[iw];unfold dedup1;split
   ·rename_i h;exact⟨.inl,λz=>z.elim id λz=>z ▸ h⟩
   ·rw[abE,abF];exact⟨λz=>z.imp id Eq.symm,λz=>z.imp id Eq.symm⟩
  rw[e,metZ_mem val i k];constructor
  ·rintro (⟨j,a,q⟩|q)
   ·exact⟨j,by nofun,q⟩
   ·exact⟨i,by nofun,q⟩
  ·rintro⟨j,a,q⟩;by_cases z:j=i
   ·exact .inr (z ▸ q)
   ·exact .inl ⟨j,by nofun,q⟩
theorem Da{R:Result->Shared->Prop}{fp f:List Addr}{G:Array GenState->Array GenState->Prop}{P:Nat->Value->Prop}{St:Nat->Shared->Prop}(W:WalksS prog w A.in1 I fp f G n P St)(S:Addr)(u:S∉fp)
  (val:Nat->K) (g:∀i v,P i v->knd.is (val i) v=true/\v.scannable=true) (d:n+1<scanBound) :
  ∀(k i:Nat) (s:Shared),n - i=k->i<=n->St i s->SetZ knd s.heap S (metZ val i) L ->
   (∀s',Moved (S::f) G s s'->SetZ knd s'.heap S (metZ val n) L->R (.ok (.ret .none)) s') ->
   codeAny (model prog w) A (.builtin "set.update.loop" ⟨[.ref S,.ref I],[]⟩) R s:=by
 have t:S∉f:=λh=>u (W.sub _ h);have a:∀b∈f,b∈S::f:=λb d=>aae _ d;intro k
 induction k with
 | zero=>
  intro i s J hi c E F;obtain rfl:i=n:=by nofun
  refine codeAny_builtin PyProof.Rows.F.entry_set_update_loop ?_;rw[aaH abi _];show wpAny _ A.in1 (pyNext (.ref I) >>= _) _ _ s;refine aaa (W.done s _ _ c λs' q=>?_);show wpAny _ A.in1 (ret Value.none) _ _ s';exact aaf (F s' (q.mono a) (E.at λo C=>q.heap S o t C))
 | succ k H=>
  intro i s J hi c E F;have r:i<n:=by nofun
  refine codeAny_builtin PyProof.Rows.F.entry_set_update_loop ?_;rw[aaH abi _];show wpAny _ A.in1 (pyNext (.ref I) >>= _) _ _ s;refine aaa (W.item i s _ _ r c λv s' M l q=>?_);obtain⟨j,B⟩:=g i v M;have D:SetZ knd s'.heap S (metZ val i) L:=E.at λo C=>q.heap S o t C;show wpAny _ A.in1 (holding [v] (setAdd S v) >>= _) _ _ s';refine aaa (aaM ?_);unfold setAdd;refine aaM ?_;refine aaa (knd.pyHash (k:=val i) j ?_);refine addZ (s:={ s' with toks:=s'.toks+1 }) j B D (by have:=metZ_len val i;nofun) λb h' m x=>?_;rw[← iw] at x;refine aaf ⟨plainId_quiet abi _,H (i+1) _ (by nofun) r (W.frame _ s' _ _ l (aaG _) λb d o e=>?_) x λz p y=>?_⟩
  ·rw[m.2 b (λh:b=S=>u (by rw[← h];exact d))];exact e
  ·refine F z (Moved.trans W.gtrans ((q.mono a).then_heap (aaG _) λb o d e=>?_) p) y;rw[m.2 b (λh:b=S=>d (by rw[h];exact aab))];exact e
end
abbrev byText(w:World):Bool:=w.params.followText "set-order"
abbrev bV(w:World):Obj:={ cls:=.type "set", dict:=none,data:=.set #[] 0 (.fresh 0 0 (!byText w)) }
theorem Dc(a:Value){Q₁:Value->Shared->Prop}(h:Q₁ (.ref s.heap.objs.size) { s with heap:=s.heap.push (bV w) }) :
  codeAny (model prog w) A (.call (.builtin "set.__new__") ⟨[.type "set", a],[]⟩) (wants Q₁ E) s:=by
 refine codeAny_of_tree ?_;show wpAny _ A.in1 (do checkBuiltinCall "set.__new__" ⟨[.type "set", a],[]⟩;again (.builtin "set.__new__" ⟨[.type "set", a],[]⟩)) _ _ s;refine aaa (wpAny_of_eq (F.newCall_set_1 a) (aaf ⟨plainId_quiet F.plain_set_new _,codeAny_builtin F.entry_set_new ?_⟩));rw[aaH F.plain_set_new _];unfold Builtin.«set.__new__» Builtin.Frozenset.newClass;have b:=sub_set_self;obtain⟨c,g,d,tk,os⟩:=s;dsimp only
 wp_walk
 refine abk (aaf ?_);dsimp only;simp only[newObj];refine aaa (wpAny_alloc (aaf ?_));exact aaf h
section
variable    [DecidableEq K] {knd:KeyKind prog w K}   
theorem HM(b:h.get? a=some (bV w)):SetZ knd h a [] (!byText w):=
 ⟨_,#[],0,_,b,⟨rfl,rfl,rfl⟩,rfl,λe c=>by simp at c,λk=>by simp,by decide,rfl,rfl,abS,rfl,λ_=>List.Pairwise.nil⟩
set_option maxRecDepth 100000 in
set_option maxHeartbeats 8000000 in
theorem set_of_list{l:Addr}{items:Array Value}(hh:A.handled=none)(hl:s.heap.IsList l items)(val:Nat->K)
  (p:∀i v,items[i]?=some v->knd.is (val i) v=true/\v.scannable=true) (D:items.size+1<scanBound)
  (h:∀(h':Heap) (tk:Nat),SetZ knd h' s.heap.objs.size (metZ val items.size) (!byText w)->(∀b o,b<s.heap.objs.size->s.heap.get? b=some o->h'.get? b=some o)->Q (.ref s.heap.objs.size) { s with heap:=h',toks:=tk }) :
  wpAny (model prog w) A (call (.type "set") [.ref l]) Q E s:=by
 obtain⟨c,tl,X⟩:=F.called_set.mro;have J:=F.called_set.made;have U:=F.called_set.sub;refine wpAny_call (codeAny_of_tree ?_);show wpAny _ _ (callAny (.type "set") _) _ _ _;refine aaf ⟨Code.quiet_builtin _ (by decide +kernel),codeAny_builtin F.entry_type_call ?_⟩;rw[Around.under_plain (weight_type_call_type "set" [.ref l] []) rfl];have h1:=F.called_set.notType;have h2:=F.called_set.canCreate;have hct:=F.typeCall_set_1 (.ref l)
 repeat (any_goals (first|assumption|wp_step))
 refine codeAny_mono (Dc (.ref l) (E:=E) (Q₁:=λobj g=>obj=.ref s.heap.objs.size/\g={ s with heap:=s.heap.push (bV w) }) ⟨rfl,rfl⟩) λr g hr=>?_
 cases r with
 |error e=>exact hr
 | ok fl=>
  cases fl with
  | ret obj=>
   obtain⟨rfl,rfl⟩:=hr;have Y:(s.heap.push (bV w)).get? s.heap.objs.size=some (bV w):=Heap.get?_push_size _ rfl;have hT:Shared.TypeIs { s with heap:=s.heap.push (bV w) } (.ref s.heap.objs.size) "set" := ⟨_,Y,rfl⟩;have hli:=F.called_set.init.lookup;have hbi:=F.called_set.init.bind (.ref s.heap.objs.size)
   repeat (any_goals (first|assumption|wp_step))
   refine codeAny_mono (codeAny_call_builtin (R:=wants (λr f=>r=.none/\∃h' tk,f={ s with heap:=h',toks:=tk } /\
     SetZ knd h' s.heap.objs.size (metZ val items.size) (!byText w)/\(∀b o,b<s.heap.objs.size->s.heap.get? b=some o->h'.get? b=some o)) E) F.called_set.init.plain F.entry_set_init (check_set_init_1 hT ?_)) λn f a=>?_
   ·obtain⟨ol,t,B,nl,z⟩:=hl;obtain⟨T,j,I,d⟩:=ol;simp only at B z;subst B;subst z;have q:(s.heap.push (bV w)).get? l=some { cls:=.type "list", dict:=j,data:=.seq items nl,slots:=d }:=Heap.get?_push_of_some _ t;have V:=F.sub_list_set;have W:=F.sub_list_frozenset;have hne:(Value.type "list" == Value.type "dict")=false:=by decide
    have y:(s.heap.push (bV w)).IsList l items:=⟨_,q,rfl,nl,rfl⟩;unfold Builtin.«set.__init__» noKeywords Builtin.Frozenset.updateFrom;generalize S:pyIter=PI
    wp_walk
    subst S;refine wpAny_pyIter_list y ?_;refine aaa (wpAny_runValue ?_);have x:l<s.heap.objs.size:=aag t;have M:A.in1.in1.in1.handled=none:=by simp[hh]
    have u:l≠(s.heap.push (bV w)).objs.size:=by
     rw[aa1];exact aak (aaL x)
    have P:s.heap.objs.size∉[(s.heap.push (bV w)).objs.size,l]:=by
     rw[aa1];simp only[List.mem_cons,List.mem_singleton,List.not_mem_nil,or_false,not_or];exact⟨aak (aaz _),Nat.ne_of_gt x⟩
    refine Da (knd:=knd) ((Walks.list M _ l u items).toS) s.heap.objs.size P val (λi v Z=>p i v Z) D (items.size - 0) 0 _ (by nofun) (aan _)
     ⟨⟨_,Heap.get?_push_size _ rfl,rfl,rfl⟩,(y.push _)⟩ (HM (Heap.get?_push_of_some _ Y)) ?hR
    case hR=>
     intro s' C k;obtain⟨h',g',d',G,H⟩:=s';have eg:g'=s.gens:=C.gens;have ed:d'=s.drawn:=C.drawn;have eo:H=s.os:=C.os;subst eg;subst ed;subst eo;show wpAny _ _ _ _ _ _;refine aaf ?_;show wpAny _ _ (ret Value.none) _ _ _;refine aaf ⟨rfl,h',G,rfl,k,λb o D e=>?_⟩;have O:b≠s.heap.objs.size:=aak D
     have N:b≠(s.heap.push (bV w)).objs.size:=by
      rw[aa1];exact aak (aaL D)
     exact C.heap b o (by simp only[List.mem_cons,List.mem_singleton,List.not_mem_nil,or_false,not_or];exact⟨O,N⟩) (Heap.get?_push_of_some _ (Heap.get?_push_of_some _ e))
   ·cases n with
    |error e=>exact a
    | ok m=>
     cases m with
     | ret r=>
      obtain⟨rfl,h',tk,rfl,k,L⟩:=a
      repeat (any_goals (first|assumption|wp_step))
      exact h _ _ k L
     |next=>exact a.elim
     |brk=>exact a.elim
     |cont=>exact a.elim
  |next=>exact hr.elim
  |brk=>exact hr.elim
  |cont=>exact hr.elim
end
theorem jg:entryFor table "set.__iter__" = some Builtin.«frozenset.__iter__»:=entryFor_alias (id' := "frozenset.__iter__") (by kernel_rfl) rfl (by decide +kernel) (by kernel_rfl)
theorem j5(a:Value):argsOk "set.__iter__" ⟨[a],[]⟩:=by unfold argsOk;kernel_rfl
theorem fu:Slot "set_iterator" "__iter__" "set_iterator.__iter__":=
 .of (owner := "set_iterator") (n := "__iter__") (by rw[typeLookup_type,builtinLookup_eq_fast];kernel_rfl) (by decide +kernel) (by decide +kernel) (by decide +kernel)
  (by first|exact .inl (by decide +kernel)|exact .inr (by decide +kernel)) (by rw[isSubtype_type];kernel_rfl)
theorem aE:Slot "set_iterator" "__next__" "set_iterator.__next__":=
 .of (owner := "set_iterator") (n := "__next__") (by rw[typeLookup_type,builtinLookup_eq_fast];kernel_rfl) (by decide +kernel) (by decide +kernel) (by decide +kernel)
  (by first|exact .inl (by decide +kernel)|exact .inr (by decide +kernel)) (by rw[isSubtype_type];kernel_rfl)
theorem iy:entryFor table "set_iterator.__iter__" = some Builtin.«dict_keyiterator.__iter__»:=entryFor_alias (id' := "dict_keyiterator.__iter__") (by kernel_rfl) rfl (by decide +kernel) (by kernel_rfl)
theorem bW:entryFor table "set_iterator.__next__" = some Builtin.«set_iterator.__next__»:=entryFor_of_fast (by kernel_rfl)
theorem jh(a:Value):argsOk "set_iterator.__iter__" ⟨[a],[]⟩:=by unfold argsOk;kernel_rfl
theorem cf(a:Value):argsOk "set_iterator.__next__" ⟨[a],[]⟩:=by unfold argsOk;kernel_rfl
theorem gr{α:Type}:∀(l:List α) (i:Nat) (h:i<l.length),(l[i]::l.eraseIdx i).Perm l
 |[],_,h=>by simp at h
 |x::l,0,_=>.refl _
 | x::l,i+1,h=>by
  have h':i<l.length:=(by exists h);show (l[i]::x::l.eraseIdx i).Perm (x::l);exact(List.Perm.swap x l[i] _).trans (List.Perm.cons x (gr l i h'))
theorem ly{k:Nat->Sem α}{Q:α->Shared->Prop}{M:Model}(b:n≠0)(h:∀i d',i<n->wpAny M A (k i) Q E { s with drawn:=d' }):wpAny M A (choose .order n >>= k) Q E s:=by
 intro c p a;refine⟨b,h _ _ (Nat.mod_lt _ (Nat.pos_of_ne_zero b)) c p a⟩
theorem jz{α:Type}{M:Model}:∀(n:Nat) (xs:List α) (s:Shared) (Q:List α->Shared->Prop),xs.length=n->(∀ys d',ys.Perm xs->Q ys { s with drawn:=d' })->wpAny M A (drawOrder n xs) Q E s
 | 0,xs,s,Q,a,h=>by
  have e:xs=[]:=aaC a;subst e;exact aaf (h [] s.drawn (.refl _))
 |n+1,[],s,Q,a,h=>by simp at a
 | n+1,x::xs,s,Q,a,h=>by
  refine ly (by simp) λi d hi=>?_;have b:(x::xs)[i]?=some (x::xs)[i]:=List.getElem?_eq_getElem hi;rw[b];dsimp only;refine aaa (jz n ((x::xs).eraseIdx i) _ _ (by rw[List.length_eraseIdx_of_lt hi];simpa using a) λys d' c=>aaf (h _ d' ?_));exact(List.Perm.cons _ c).trans (gr _ i hi)
section
abbrev c5(first:Value)(i:Nat)(x:Value)(n ep:Nat):Obj:={ cls:=.type "set_iterator", dict:=none,data:=.fields #[first,.int (i:Int) 0,x,.int (n:Int) 0,.int (ep:Int) 0],slots:=#[] }
theorem sN{I:Addr}{Q:Option Value->Shared->Prop}(hh:A.handled=none)(c:∀h',(∀b o,s.heap.get? b=some o->h'.get? b=some o)->Q none { s with heap:=h' }){QQ:PySem.Fin->Shared->Prop} :
  wpAny (model prog w) A.in1 (do let e ← newExc (.type "StopIteration") [];raiseNew e:Sem PySem.Fin) QQ (λe s'=>wpAny (model prog w) A (do if (← isInstance e (.type "StopIteration"))=true then pure none else throw e) Q E s') s:=by
 refine aaa ?_;simp only[newExc,newTuple];refine aaa (aaK ?_ (by size_fits));refine aaa (m:=firstArgMember _ _) (wpAny_of_eq (a:=Value.none) (by first|rfl|(simp only[firstArgMember];rfl)) ?_);refine aaK ?_ (by size_fits);simp only[raiseNew];refine aaa (wpAny_handled ?_);rw[show A.in1.handled=none from hh];refine aaa (aaf (wpAny_throw ?_));refine aaa (wpAny_isInstance (T := "StopIteration") (b:=true) ⟨_,Heap.get?_push_size _ rfl,rfl⟩ isSubtype_stop ?_);exact aaf (c _ λb o e=>Heap.get?_push_of_some _ (Heap.get?_push_of_some _ e))
variable    {f:Nat} {t:SetTable} {Q:Option Value->Shared->Prop}
theorem nU{nx:Nat}(b:s.heap.get? I=some (c5 (.int (f:Int) 0) i (.ref a) n ep))(g:s.heap.get? a=some o)(hd:o.data=.set es ep t)(e:t.fits es.size=true)(d:n=es.size)
  (hs:∀(k:Value->Shared->Prop) (Q':Option (Value×Nat)->Shared->Prop),Q' (some (x,nx)) s->wpAny (model prog w) A.in1 (setNext a f i ep) Q' k s)
  (j:∀h',h'.get? I=some (c5 (.int (nx:Int) 0) (i+1) (.ref a) n ep)->Heap.SameBut I s.heap h'->Q (some x) { s with heap:=h' }):wpAny (model prog w) A (pyNext (.ref I)) Q E s:=by
 have c:s.TypeIs (.ref I) "set_iterator" := ⟨_,b,rfl⟩;subst d;unfold pyNext;refine aaa (abz (wpAny_callSpecial?_slot (name:=Str.ofString "__next__") c aE (aaA aE c bW ?_ (cf _))));unfold Builtin.«set_iterator.__next__»;refine aaa (m:=slotArgs "__next__" 0 _) (aaf ?_)
 try dsimp only
 refine aaa (wpAny_fieldsOf b rfl ?_)
 try dsimp only
 refine aaa (abl g hd e ?_);rw[if_neg (by simp)]
 try dsimp only
 simp only[Int.toNat_natCast];refine aaa (hs _ _ ?_)
 try dsimp only
 refine aaa (aa6 b (by simp) λh1 g1 b1=>?_);refine aaa (aa6 (s:={ s with heap:=h1 }) g1 (by simp) λh2 g2 b2=>?_);refine aaf ⟨x,rfl,aaf (j h2 ?_ (b1.trans b2))⟩;rw[g2];rfl
theorem nV(hh:A.handled=none)(c:s.heap.get? I=some (c5 (.int (f:Int) 0) i (.ref a) n ep))(p:s.heap.get? a=some o)(hd:o.data=.set es ep t)(j:t.fits es.size=true)(g:n=es.size)
  (hs:∀(r:Value->Shared->Prop) (Q':Option (Value×Nat)->Shared->Prop),Q' none s->wpAny (model prog w) A.in1 (setNext a f i ep) Q' r s)
  (q:∀h',(∀b ob,b≠I->s.heap.get? b=some ob->h'.get? b=some ob)->Q none { s with heap:=h' }):wpAny (model prog w) A (pyNext (.ref I)) Q E s:=by
 have d:s.TypeIs (.ref I) "set_iterator" := ⟨_,c,rfl⟩;subst g;unfold pyNext;refine aaa (abz (wpAny_callSpecial?_slot (name:=Str.ofString "__next__") d aE (aaA aE d bW ?_ (cf _))));unfold Builtin.«set_iterator.__next__»;refine aaa (m:=slotArgs "__next__" 0 _) (aaf ?_)
 try dsimp only
 refine aaa (wpAny_fieldsOf c rfl ?_)
 try dsimp only
 refine aaa (abl p hd j ?_);rw[if_neg (by simp)]
 try dsimp only
 simp only[Int.toNat_natCast];refine aaa (hs _ _ ?_)
 try dsimp only
 refine aaa (aa6 c (by simp) λh1 g1 b1=>?_);exact sN (s:={ s with heap:=h1 }) (I:=I) hh λh' k=>q h' λb ob l e=>k b ob ((b1.2 b l).trans e)
theorem qf{hx:Int}{place:Nat}(f:s.heap.get? I=some (c5 (.ref pl) i (.ref a) n ep))(j:s.heap.get? a=some o)(hd:o.data=.set es ep t)(g:t.fits es.size=true)(p:n=es.size)
  (l:s.heap.get? pl=some op) (e:op.data=.seq pls c) (d:pls[i]?=some (.int (place:Int) 0)) (b:es[place]?=some (hx,x))
  (q:∀h',h'.get? I=some (c5 (.ref pl) (i+1) (.ref a) n ep)->Heap.SameBut I s.heap h'->Q (some x) { s with heap:=h' }):wpAny (model prog w) A (pyNext (.ref I)) Q E s:=by
 have k:s.TypeIs (.ref I) "set_iterator" := ⟨_,f,rfl⟩;subst p;unfold pyNext;refine aaa (abz (wpAny_callSpecial?_slot (name:=Str.ofString "__next__") k aE (aaA aE k bW ?_ (cf _))));unfold Builtin.«set_iterator.__next__»;refine aaa (m:=slotArgs "__next__" 0 _) (aaf ?_)
 try dsimp only
 refine aaa (wpAny_fieldsOf f rfl ?_)
 try dsimp only
 refine aaa (abl j hd g ?_);rw[if_neg (by simp)]
 try dsimp only
 simp only[Int.toNat_natCast];refine aaa (m:=seqItems? _) ?_;unfold seqItems?;refine aaa (wpAny_load l ?_);rw[e];refine aaf ?_;dsimp only;rw[d];dsimp only;simp only[Int.toNat_natCast];refine aaa (m:=setNextDrawn _ _ _) ?_;unfold setNextDrawn;refine aaa (abe j hd g ?_);dsimp only;simp only[bne_self_eq_false,Bool.false_eq_true,if_false];rw[b];refine aaf ?_;refine aaa (aa6 f (by simp) λh1 g1 b1=>?_);refine aaf ⟨x,rfl,aaf (q h1 ?_ b1)⟩;rw[g1];rfl
theorem qg(hh:A.handled=none)(g:s.heap.get? I=some (c5 (.ref pl) i (.ref a) n ep))(u:s.heap.get? a=some o)(hd:o.data=.set es ep t)(r:t.fits es.size=true)(q:n=es.size)
  (p:s.heap.get? pl=some op) (f:op.data=.seq pls c) (d:pls[i]?=none)
  (v:∀h',(∀b ob,b≠I->s.heap.get? b=some ob->h'.get? b=some ob)->Q none { s with heap:=h' }):wpAny (model prog w) A (pyNext (.ref I)) Q E s:=by
 have l:s.TypeIs (.ref I) "set_iterator" := ⟨_,g,rfl⟩;subst q;unfold pyNext;refine aaa (abz (wpAny_callSpecial?_slot (name:=Str.ofString "__next__") l aE (aaA aE l bW ?_ (cf _))));unfold Builtin.«set_iterator.__next__»;refine aaa (m:=slotArgs "__next__" 0 _) (aaf ?_)
 try dsimp only
 refine aaa (wpAny_fieldsOf g rfl ?_)
 try dsimp only
 refine aaa (abl u hd r ?_);rw[if_neg (by simp)]
 try dsimp only
 simp only[Int.toNat_natCast];refine aaa (m:=seqItems? _) ?_;unfold seqItems?;refine aaa (wpAny_load p ?_);rw[f];refine aaf ?_;dsimp only;rw[d];dsimp only;refine aaa (aa6 g (by simp) λh1 g1 b1=>?_);refine aaa (aa6 (s:={ s with heap:=h1 }) g1 (by simp) λh2 g2 b2=>?_);exact sN (s:={ s with heap:=h2 }) (I:=I) hh λh' k=>v h' λb ob j e=>k b ob ((b2.2 b j).trans ((b1.2 b j).trans e))
theorem gG{r:Option (Value×Nat)}(b:byText w=true)(d:s.heap.get? a=some o)(hd:o.data=.set es ep t)(c:t.fits es.size=true)
  (hr:((pickOrder (w.params.setOrder a ep) es)[g]?).map (λe=>(e.2,slot))=r) (h:Q' r s):wpAny (model prog w) A' (setNext a slot g ep) Q' E s:=by
 unfold setNext;refine aaa (abe d hd c ?_);dsimp only;unfold setsByText;refine aaa (aaa (abk (aaf ?_)));rw[show (model prog w).w.params.followText "set-order" = true from b];simp only[bne_self_eq_false,Bool.false_eq_true,if_false,if_true];refine aaa (m:=setWalk a) ?_;unfold setWalk;refine aaa (abe d hd c ?_);dsimp only;unfold setsByText;refine aaa (aaa (abk (aaf ?_)));rw[show (model prog w).w.params.followText "set-order" = true from b];simp only[if_true];refine aaa (abk (aaf ?_));refine aaf ?_;rw[← hr] at h;exact h
theorem iz(d:byText w=false)(f:s.heap.get? a=some o)(hd:o.data=.set es ep t)(e:t.fits es.size=true)(c:(!t.plain&&decide (es.size > 1))=false)(b:t.led=true)
  (h:Q' (match es[SetTable.below t.place slot]?,t.place[SetTable.below t.place slot]? with|some (_,x),some j=>some (x,j+1)|_,_=>none) s):wpAny (model prog w) A' (setNext a slot g ep) Q' E s:=by
 unfold setNext;refine aaa (abe f hd e ?_);dsimp only;unfold setsByText;refine aaa (aaa (abk (aaf ?_)));rw[show (model prog w).w.params.followText "set-order" = false from d];simp only[Bool.false_eq_true,if_false];show wpAny _ _ (if (!t.plain&&decide (es.size > 1))=true then _ else _) _ _ _;rw[c];simp only[Bool.false_eq_true,if_false];refine aaa ?_;show wpAny _ _ (if (!t.led&&!es.isEmpty)=true then _ else _) _ _ _;rw[b];simp only[Bool.not_true,Bool.false_and,Bool.false_eq_true,if_false];exact aaf (aaf h)
end
theorem sO{α:Type}(next:Nat->Nat):∀(a k:Nat) (left:List α) (out:Array α),left.length<=a->(pickOrder.go next a k left out).toList.Perm (out.toList++left)
 | 0,k,left,out,h=>by
  have e:left=[]:=aaC (by nofun);subst e;show out.toList.Perm (out.toList++[]);rw[aam]
 | a+1,k,[],out,_=>by
  show out.toList.Perm (out.toList++[]);rw[aam]
 | a+1,k,x::left,out,h=>by
  show (match (x::left)[next k % (x::left).length]? with
   |some y=>pickOrder.go next a (k+1) ((x::left).eraseIdx (next k % (x::left).length)) (out.push y)
   |none=>out).toList.Perm _
  have hi:next k % (x::left).length<(x::left).length:=Nat.mod_lt _ (by simp);rw[List.getElem?_eq_getElem hi];dsimp only;refine(sO next a (k+1) _ _ (by rw[List.length_eraseIdx_of_lt hi];simp at h ⊢;nofun)).trans ?_;rw[Array.toList_push,aar];exact aaX _ (gr _ _ hi)
theorem iA(next:Nat->Nat)(xs:Array α):(pickOrder next xs).toList.Perm xs.toList:=by
 unfold pickOrder;have q:=sO next xs.size 0 xs.toList #[] (by simp);simpa using q
theorem Aw(es:Array (Int×Value)):∀ys:List Nat,(∀j∈ys,j<es.size)->ys.filterMap (λj=>(es[j]?).map (·.2))=ys.map λj=>((es[j]?).map (·.2)).getD Value.none
 |[],_=>rfl
 | j::ys,h=>by
  have a:=h j aab;rw[abo,Array.getElem?_eq_getElem a];show es[j].2::ys.filterMap (λj=>(es[j]?).map (·.2))=_;rw[Aw es ys λi hi=>h i (aae _ hi),abG,Array.getElem?_eq_getElem a];rfl
section
variable          {t:SetTable}
theorem iB{f:Value}(b:s.heap.get? I=some (c5 f i x n ep))(h:Q (.ref I) s):wpAny (model prog w) A (pyIter (.ref I)) Q E s:=by
 have a:s.TypeIs (.ref I) "set_iterator" := ⟨_,b,rfl⟩;refine wpAny_pyIter_slot a fu (aaA fu a iy ?_ (jh _));show wpAny _ _ (ret (.ref I)) _ _ s;exact aaf ⟨_,rfl, "set_iterator", _,a,aE.lookup,h⟩
theorem sP(hs:Heap.SameBut I s.heap h'):Moved [I] Eq s { s with heap:=h' }:=
 ⟨λb ob a e=>(hs.2 b (λz=>a (by simp[z]))).trans e,rfl,rfl,rfl,aac _⟩
theorem sQ(hs:∀b ob,b≠I->s.heap.get? b=some ob->h'.get? b=some ob):Moved [I] Eq s { s with heap:=h' }:=
 ⟨λb ob a e=>hs b ob (λz=>a (by simp[z])) e,rfl,rfl,rfl,aac _⟩
theorem qh(hh:A.handled=none)(hne:a≠I)(hd:o.data=.set es ep t)(hf:t.fits es.size=true)(hby:byText w=true) :
  WalksS prog w A I [I,a] [I] Eq es.size (λi v=>((pickOrder (w.params.setOrder a ep) es).toList.map (·.2))[i]?=some v) (λi s=>s.heap.get? I=some (c5 (.int ((0:Nat):Int) 0) i (.ref a) es.size ep)/\s.heap.get? a=some o) where
 sub:=λb hb=>by simp at hb;simp[hb]
 grefl:=λ_=>rfl
 gtrans:=λ_ _ _ x y=>x.trans y
 frame:=λi s h' tk st _ k=>⟨k I (by simp) _ st.1,k a (by simp) _ st.2⟩
 item:=λi s Q E hi st hQ=>by
  have hl:(pickOrder (w.params.setOrder a ep) es).size=es.size:=by rw[← abO,(iA _ es).length_eq,abO]
  have hx:(pickOrder (w.params.setOrder a ep) es)[i]?=some ((pickOrder (w.params.setOrder a ep) es)[i]'(by nofun)):=Array.getElem?_eq_getElem _;refine nU (x:=((pickOrder (w.params.setOrder a ep) es)[i]'(by nofun)).2) (nx:=0) st.1 st.2 hd hf rfl (λE' Q' q=>gG hby st.2 hd hf (by rw[hx];rfl) q) λh' g b=>hQ _ _ ?_ ⟨g,(b.2 a hne).trans st.2⟩ (sP b);rw[List.getElem?_map,Array.getElem?_toList,hx];rfl
 done:=λs Q E st hQ=>by
  have hl:(pickOrder (w.params.setOrder a ep) es).size=es.size:=by rw[← abO,(iA _ es).length_eq,abO]
  refine nV hh st.1 st.2 hd hf rfl (λE' Q' q=>gG hby st.2 hd hf (by rw[Array.getElem?_eq_none (by nofun)];rfl) q) λh' k=>hQ _ (sQ k)
 self:=λi s Q E st h=>iB st.1 h
theorem sR(hh:A.handled=none)(hne:a≠I)(hd:o.data=.set es ep t)(hf:t.fits es.size=true)(hby:byText w=false)(hdr:(!t.plain&&decide (es.size > 1))=false)(hr:Ris t.place)(hled:t.led=true) :
  WalksS prog w A I [I,a] [I] Eq es.size (λi v=>(es.toList.map (·.2))[i]?=some v) (λi s=>(∃f:Nat,SetTable.below t.place f=i/\s.heap.get? I=some (c5 (.int (f:Int) 0) i (.ref a) es.size ep))/\s.heap.get? a=some o) where
 sub:=λb hb=>by simp at hb;simp[hb]
 grefl:=λ_=>rfl
 gtrans:=λ_ _ _ x y=>x.trans y
 frame:=λi s h' tk st _ k=>by
  obtain⟨⟨f,f0,g⟩,ga⟩:=st;exact⟨⟨f,f0,k I (by simp) _ g⟩,k a (by simp) _ ga⟩
 item:=λi s Q E hi st hQ=>by
  obtain⟨⟨f,f0,g⟩,ga⟩:=st
  have hsz:t.place.size=es.size:=by
   have hf':=hf;simp only[SetTable.fits,Bool.and_eq_true,beq_iff_eq] at hf';exact hf'.1
  have hpl:t.place[i]?=some (t.place[i]'(by nofun)):=Array.getElem?_eq_getElem _;have hes:es[i]?=some (es[i]'hi):=Array.getElem?_eq_getElem _;refine nU (x:=(es[i]'hi).2) (nx:=(t.place[i]'(by nofun))+1) g ga hd hf rfl (λE' Q' q=>iz hby ga hd hf hdr hled (by rw[f0,hes,hpl];exact q)) λh' g' b=>hQ _ _ ?_ ⟨⟨_,qc hr hpl,g'⟩,(b.2 a hne).trans ga⟩ (sP b);rw[List.getElem?_map,Array.getElem?_toList,hes];rfl
 done:=λs Q E st hQ=>by
  obtain⟨⟨f,f0,g⟩,ga⟩:=st;refine nV hh g ga hd hf rfl (λE' Q' q=>iz hby ga hd hf hdr hled ?_) λh' k=>hQ _ (sQ k);have hbe:es[SetTable.below t.place f]?=none:=by rw[f0];exact Array.getElem?_eq_none (aac _)
  rw[hbe];exact q
 self:=λi s Q E st h=>by
  obtain⟨⟨f,f0,g⟩,ga⟩:=st;exact iB g h
theorem mS{ys:List Nat}(hh:A.handled=none)(hne:a≠I)(hnp:pl≠I)(hd:o.data=.set es ep t)(hf:t.fits es.size=true)(hpd:op.data=.seq (ys.map λ(i:Nat)=>Value.int (i:Int) 0).toArray c)(hys:ys.Perm (List.range es.size)) :
  WalksS prog w A I [I,a,pl] [I] Eq es.size (λi v=>(ys.filterMap λj=>(es[j]?).map (·.2))[i]?=some v) (λi s=>s.heap.get? I=some (c5 (.ref pl) i (.ref a) es.size ep)/\s.heap.get? a=some o/\s.heap.get? pl=some op) where
 sub:=λb hb=>by simp at hb;simp[hb]
 grefl:=λ_=>rfl
 gtrans:=λ_ _ _ x y=>x.trans y
 frame:=λi s h' tk st _ k=>⟨k I (by simp) _ st.1,k a (by simp) _ st.2.1,k pl (by simp) _ st.2.2⟩
 item:=λi s Q E hi st hQ=>by
  have hl:ys.length=es.size:=by rw[hys.length_eq,abT]
  have hyi:ys[i]?=some (ys[i]'(by nofun)):=List.getElem?_eq_getElem _;have hlt:ys[i]'(by nofun)<es.size:=ab0.mp (hys.mem_iff.mp (aaR _));have hes:es[ys[i]'(by nofun)]?=some es[ys[i]'(by nofun)]:=Array.getElem?_eq_getElem hlt;refine qf (x:=es[ys[i]'(by nofun)].2) (hx:=es[ys[i]'(by nofun)].1) (place:=ys[i]'(by nofun)) st.1 st.2.1 hd hf rfl st.2.2 hpd (by rw[List.getElem?_toArray,List.getElem?_map,hyi];rfl) hes λh' g b=>hQ _ _ ?_ ⟨g,(b.2 a hne).trans st.2.1,(b.2 pl hnp).trans st.2.2⟩ (sP b);have all:=Aw es ys λj hj=>ab0.mp (hys.mem_iff.mp hj);rw[all,List.getElem?_map,hyi];show some (((es[ys[i]'(by nofun)]?).map (·.2)).getD Value.none)=_;rw[hes];rfl
 done:=λs Q E st hQ=>by
  have hl:ys.length=es.size:=by rw[hys.length_eq,abT]
  exact qg hh st.1 st.2.1 hd hf rfl st.2.2 hpd (by rw[List.getElem?_toArray,List.getElem?_eq_none (by rw[abD];nofun)]) λh' k=>hQ _ (sQ k)
 self:=λi s Q E st h=>iB st.1 h
theorem xn(y:s.heap.get? a=some o)(hex:o.ExactSet)(hd:o.data=.set es ep t)(u:t.fits es.size=true)(d:es.size<scanBound)(z:t.led=!byText w)(M:t.plain=true->Ris t.place)
  (h:∀(I:Addr) (fp:List Addr) (St:Nat->Shared->Prop) (ord:List Value) (h':Heap) (d':Drawn),(∀A':Around,A'.handled=none->WalksS prog w A' I fp [I] Eq es.size (λi v=>ord[i]?=some v) St)->St 0 { s with heap:=h',drawn:=d' } ->
   (∀b∈fp,b<h'.objs.size)->I∈fp->a≠I->(∀b∈fp,b=a∨s.heap.objs.size<=b)->ord.Perm (es.toList.map (·.2))->(∀b ob,s.heap.get? b=some ob->h'.get? b=some ob)->Q (.ref I) { s with heap:=h',drawn:=d' }) :
  wpAny (model prog w) A (pyIter (.ref a)) Q E s:=by
 have R:s.TypeIs (.ref a) "set" := ⟨o,y,hex.1⟩;refine wpAny_pyIter_slot R F.slot_set_iter (aaA F.slot_set_iter R jg ?_ (j5 _));unfold Builtin.«frozenset.__iter__»;refine aaa (m:=Builtin.Frozenset.slot0 "__iter__" _) (aaf ?_);refine aaa (m:=Builtin.Frozenset.sizeOf _) (aaa (abl y hd u (aaf ?_)));have alt:a<s.heap.objs.size:=aag y;unfold setDrawn;refine aaa (aaa (abe y hd u ?_));dsimp only;unfold setsByText;refine aaa (aaa (abk (aaf ?_)));refine aaf ?_;show wpAny _ _ (if (!byText w&&(!t.plain&&decide (es.size > 1)))=true then _ else _) _ _ _
 have fin:∀(first:Value) (h1:Heap) (K:Drawn),(∀b ob,s.heap.get? b=some ob->h1.get? b=some ob)->s.heap.objs.size<=h1.objs.size ->
   (∀(I:Addr),I=h1.objs.size->Q (.ref I) { s with heap:=h1.push (c5 first 0 (.ref a) es.size ep),drawn:=K }) ->
   wpAny (model prog w) A.in1 (do
    let e ← setEpoch a
    let v ← newFields "set_iterator" [first,rawInt 0,Value.ref a,rawInt es.size,rawInt e]
    ret v) (λfin s'=>∃v,fin=Fin.done (Flow.ret v)/\∃T r,s'.TypeIs v T/\typeLookup (Value.type T) (Str.ofString "__next__")=pure (some r)/\Q v s') E { s with heap:=h1,drawn:=K }:=by
  intro first h1 K k Z q;refine aaa (wpAny_setEpoch_of (s:={ s with heap:=h1,drawn:=K }) (k a o y) hd u ?_);exact aaa (aaK (aaf ⟨_,rfl, "set_iterator", _,⟨_,Heap.get?_push_size _ rfl,rfl⟩,aE.lookup,q _ rfl⟩))
 by_cases n:(!byText w&&(!t.plain&&decide (es.size > 1)))=true
 ·rw[if_pos n];refine aaa (jz es.size (List.range es.size) s _ (by simp) λys d' O=>?_);refine aaa (wpAny_newTuple ?_ (by rw[List.length_map,O.length_eq,List.length_range];exact fits_of_scanBound d));generalize S:({ cls:=.type "tuple", data:=.seq (ys.map λ(i:Nat)=>rawInt (i:Int)).toArray }:Obj)=op;have l:(s.heap.push op).objs.size=s.heap.objs.size+1:=aa1 ..;have P:op.data=.seq (ys.map λ(i:Nat)=>Value.int (i:Int) 0).toArray 0:=by rw[← S];rfl
  refine fin _ (s.heap.push op) d' (λb ob e=>Heap.get?_push_of_some _ e) (by rw[l];exact aaG _) λI g=>?_;rw[l] at g;have N:s.heap.objs.size≠I:=by rw[g];exact aak (aaz _)
  have c:a≠I:=by rw[g];exact aak (aaL alt)
  have L:((s.heap.push op).push (c5 (.ref s.heap.objs.size) 0 (.ref a) es.size ep)).objs.size=s.heap.objs.size+2:=by rw[aa1,l]
  have J:((s.heap.push op).push (c5 (.ref s.heap.objs.size) 0 (.ref a) es.size ep)).get? I=some (c5 (.ref s.heap.objs.size) 0 (.ref a) es.size ep):=by
   rw[g,← l];exact Heap.get?_push_size _ rfl
  have H:((s.heap.push op).push (c5 (.ref s.heap.objs.size) 0 (.ref a) es.size ep)).get? a=some o:=Heap.get?_push_of_some _ (Heap.get?_push_of_some _ y);have W:((s.heap.push op).push (c5 (.ref s.heap.objs.size) 0 (.ref a) es.size ep)).get? s.heap.objs.size=some op:=Heap.get?_push_of_some _ (Heap.get?_push_size s.heap (o:=op) (by rw[← S];rfl))
  have V:∀b∈[I,a,s.heap.objs.size],b<((s.heap.push op).push (c5 (.ref s.heap.objs.size) 0 (.ref a) es.size ep)).objs.size:=by
   intro b d;rw[L];simp only[List.mem_cons,List.not_mem_nil,or_false] at d;rcases d with rfl|rfl|rfl
   ·rw[g];exact aaz _
   ·exact aaL (aaL alt)
   ·exact aaL (aaz _)
  have G:∀b∈[I,a,s.heap.objs.size],b=a∨s.heap.objs.size<=b:=by
   intro b d;simp only[List.mem_cons,List.not_mem_nil,or_false] at d;rcases d with rfl|rfl|rfl
   ·exact .inr (by rw[g];exact aaG _)
   ·exact .inl rfl
   ·exact .inr (aac _)
  have U:(ys.filterMap λj=>(es[j]?).map (·.2)).Perm (es.toList.map (·.2)):=by
   refine(O.filterMap λj=>(es[j]?).map (·.2)).trans ?_;rw[← PySem.filterMap_getElem?_range es,List.map_filterMap]
  exact h I [I,a,s.heap.objs.size] _ (ys.filterMap λj=>(es[j]?).map (·.2)) _ d' (λA' D=>mS (op:=op) D c N hd u P O) ⟨J,H,W⟩ V (by simp) c G U (λb ob e=>Heap.get?_push_of_some _ (Heap.get?_push_of_some _ e))
 ·rw[if_neg n];refine aaa (aaf ?_);refine fin _ s.heap s.drawn (λb ob e=>e) (aac _) λI g=>?_;have c:a≠I:=by rw[g];exact aak alt
  have B:∀b∈[I,a],b<(s.heap.push (c5 (rawInt 0) 0 (.ref a) es.size ep)).objs.size:=by
   intro b d;rw[aa1];simp only[List.mem_cons,List.not_mem_nil,or_false] at d;rcases d with rfl|rfl
   ·rw[g];exact aaz _
   ·exact aaL alt
  have J:(s.heap.push (c5 (rawInt 0) 0 (.ref a) es.size ep)).get? I=some (c5 (rawInt 0) 0 (.ref a) es.size ep):=by rw[g];exact Heap.get?_push_size _ rfl
  have H:(s.heap.push (c5 (rawInt 0) 0 (.ref a) es.size ep)).get? a=some o:=Heap.get?_push_of_some _ y
  have G:∀b∈[I,a],b=a∨s.heap.objs.size<=b:=by
   intro b d;simp only[List.mem_cons,List.not_mem_nil,or_false] at d;rcases d with rfl|rfl
   ·exact .inr (by rw[g];exact aac _)
   ·exact .inl rfl
  cases p:byText w with
  |true=>exact h I [I,a] _ ((pickOrder (w.params.setOrder a ep) es).toList.map (·.2)) _ s.drawn (fun A' D=>qh D c hd u p) ⟨J,H⟩ B (by simp) c G ((iA _ es).map _) (fun b ob e=>Heap.get?_push_of_some _ e)
  | false=>
   have f:(!t.plain&&decide (es.size > 1))=false:=by
    rw[p,Bool.not_false,Bool.true_and] at n;exact abX.mpr n
   have hr:Ris t.place:=by
    cases q:t.plain with
    |true=>exact M q
    | false=>
     rw[q,Bool.not_false,Bool.true_and] at f;have h1:¬es.size > 1:=of_decide_eq_false f
     have X:t.place.size=es.size:=by
      have C:=u;simp only[SetTable.fits,Bool.and_eq_true,beq_iff_eq] at C;exact C.1
     have Y:t.place.toList.length<=1:=by rw[abO];nofun
     unfold Ris
     match hq:t.place.toList,Y with
     |[],_=>exact .nil
     |[x],_=>exact List.pairwise_singleton _ _
   exact h I [I,a] _ (es.toList.map (·.2)) _ s.drawn (λA' D=>sR D c hd u p f hr (by rw[z,p];rfl)) ⟨⟨0,qb hr,J⟩,H⟩ B (by simp) c G (.refl _) (λb ob e=>Heap.get?_push_of_some _ e)
end
section
variable          {t:SetTable}
theorem xo{Q:Bool->Shared->Prop}(e:s.TypeIs (.ref a) "set")(h:Q false s):wpAny (model prog w) A (Builtin.List.listLengthHint (.ref a)) Q E s:=by
 unfold Builtin.List.listLengthHint;refine aaa (wpAny_specialOf e F.slot_set_len.lookup ?_);generalize c:("set.__len__" : String)=d
 wp_delta
 rw[show splitId d=some ("set", "__len__") from by subst c;decide +kernel];subst c;refine aaa (wpAny_isInstance (b:=true) e sub_set_self ?_);rw[if_neg (by decide)];show wpAny _ _ (if _=true then _ else _) _ _ _;rw[if_pos (by decide +kernel)];refine aaa (wpAny_typeOf e ?_);exact aaf h
theorem mT{Q:List Value->Shared->Prop}(hh:A.handled=none)(K:s.heap.get? a=some o)(hex:o.ExactSet)(hd:o.data=.set es ep t)(X:t.fits es.size=true)(p:es.size<scanBound)(m:t.led=!byText w)(B:t.plain=true->Ris t.place)
  (Z:∀(vs:List Value) (h':Heap) (d':Drawn) (tk:Nat),vs.Perm (es.toList.map (·.2))->s.heap.objs.size<h'.objs.size->(∀b ob,s.heap.get? b=some ob->h'.get? b=some ob)->Q vs { s with heap:=h',drawn:=d',toks:=tk }) :
  wpAny (model prog w) A (collect (.ref a)) Q E s:=by
 have alt:a<s.heap.objs.size:=aag K;unfold collect;refine aaa (wpAny_runValue (codeAny_builtin F.entry_proto_collect ?_));rw[aaH F.plain_proto_collect _];show wpAny _ A.in1 (newList [] >>= λl=>again (.builtin "list.__iadd__" ⟨[l,.ref a],[]⟩)) _ _ s;refine aaa (aaK ?_);refine aaf ⟨plainId_quiet F.plain_list_iadd _,codeAny_builtin F.entry_list_iadd ?_⟩;rw[aaH F.plain_list_iadd _];generalize L:({ cls:=.type "list", dict:=none,data:=.seq ([]:List Value).toArray }:Obj)=ol;have g1:(s.heap.push ol).get? s.heap.objs.size=some ol:=Heap.get?_push_size s.heap (o:=ol) (by rw[← L];rfl);have ga:(s.heap.push ol).get? a=some o:=Heap.get?_push_of_some _ K;have Y:Shared.TypeIs { s with heap:=s.heap.push ol } (.ref a) "set" := ⟨o,ga,hex.1⟩;show wpAny _ A.in1 (Builtin.List.listExtendWith (.ref s.heap.objs.size) (.ref a) (.ref s.heap.objs.size)) _ _ _;unfold Builtin.List.listExtendWith;refine aaa (wpAny_typeOf Y ?_)
 have h1:Builtin.List.listSameRef (.ref s.heap.objs.size) (.ref a)=false:=by
  simp only[Builtin.List.listSameRef,beq_eq_false_iff_ne];exact(aak alt).symm
 rw[if_neg (by rw[h1];decide)];refine aaa (xn (s:={ s with heap:=s.heap.push ol }) ga hex hd X p m B λI fp St ord h2 S W u V M G n c C=>?_);refine aaa (aaM (xo ⟨o,C a o ga,hex.1⟩ ?_));rw[if_pos (by decide)];refine aaa (abB ?_);refine aaa ?_;have g2:h2.get? s.heap.objs.size=some { cls:=.type "list", data:=.seq ([]:List Value).toArray }:=by rw[L];exact C _ _ g1
 show wpAny _ A.in1 (updateSeq s.heap.objs.size (·.push .none) >>= λ_=>updateSeq s.heap.objs.size (·.pop)) _ _ _;refine aaa (wpAny_updateSeq (s:={ s with heap:=h2,drawn:=S }) g2 rfl ?_);have g3:=Heap.get?_update_self (Obj.mapSeq (·.push Value.none)) g2 rfl;refine wpAny_updateSeq g3 rfl ?_;have P:=Heap.get?_update_self (Obj.mapSeq (·.pop)) g3 rfl;generalize D:(h2.update s.heap.objs.size (Obj.mapSeq (·.push Value.none))).update s.heap.objs.size (Obj.mapSeq (·.pop))=N at P ⊢
 have i:∀b ob,b≠s.heap.objs.size->h2.get? b=some ob->N.get? b=some ob:=λb ob k e=>by
  rw[← D];exact(Heap.get?_update_other _ _ (Ne.symm k)).trans ((Heap.get?_update_other _ _ (Ne.symm k)).trans e)
 have H:(s.heap.push ol).objs.size=s.heap.objs.size+1:=aa1 ..
 have f:s.heap.objs.size∉fp:=λg=>by
  rcases n _ g with z|z
  ·exact absurd z (aak alt).symm
  ·have z:(s.heap.push ol).objs.size<=s.heap.objs.size:=z;rw[H] at z;exact absurd z (Nat.not_succ_le_self _)
 have hIS:I≠s.heap.objs.size:=λe=>f (e ▸ M);have r:=(W A.in1 hh).frame 0 _ N s.toks u (aac _) λb p ob e=>i b ob (λz=>f (z ▸ p)) e
 have x:∀b ob,s.heap.get? b=some ob->b≠s.heap.objs.size/\b≠I:=λb ob e=>by
  refine⟨aak (aag e),λz=>?_⟩;rcases n _ M with y|y
  ·exact G y.symm
  ·have y:(s.heap.push ol).objs.size<=I:=y;rw[H,← z] at y;exact absurd (aao (aag e) (Nat.le_of_succ_le y)) (aaO _)
 refine aaf ⟨plainId_quiet F.plain_extend_loop _,codeAny_extend_loopS (W A.in1 hh) (fits_of_scanBound p) _ f _ es.size 0 _ _ _ rfl (aan _) r P (ItemsOf.nil _) λs' acc c' g O d=>?_⟩;show wpAny _ A (load s.heap.objs.size >>= _) _ _ s';refine aaa (wpAny_load O ?_);refine aaf ?_;obtain⟨h9,g9,d9,q,v⟩:=s';have eg:g9=s.gens:=g.gens.symm;have ed:d9=S:=g.drawn;have eo:v=s.os:=g.os;subst eg ed eo;have hl:ord.length=es.size:=by rw[c.length_eq,abD,abO]
 have T:acc.toList=ord:=by
  refine List.ext_getElem? λj=>?_;by_cases J:j<acc.size
  ·have R:acc[j]?=some acc[j]:=Array.getElem?_eq_getElem J;rw[Array.getElem?_toList,R,d.2 j _ R]
  ·have U:es.size<=j:=by rw[d.1] at J;nofun
   rw[Array.getElem?_toList,Array.getElem?_eq_none (by nofun),List.getElem?_eq_none (by nofun)]
 refine Z _ h9 _ q (by rw[T];exact c) (aag O) λb ob e=>?_;obtain⟨n1,n2⟩:=x b ob e;exact g.heap b ob (by simp[n1,n2]) (i b ob n1 (C b ob (Heap.get?_push_of_some _ e)))
end
theorem iC{α:Type}[DecidableEq α]:∀(σ ss:List α),σ.Nodup->(∀k∈σ,k∈ss)->ss.length=σ.length->ss.Perm σ
 | [],ss,_,_,d=>by
  have:ss=[]:=aaC (by exists d);subst this;exact .refl _
 | k::σ,ss,l,g,d=>by
  have m:k∈ss:=g k (aab ..);have f:=List.perm_cons_erase m;have a:=abL.mp l
  have b:(ss.erase k).length=σ.length:=by
   have:=f.length_eq;simp only[List.length_cons] at this d;nofun
  refine f.trans (.cons k (iC σ (ss.erase k) a.2 (λj i=>?_) b));have c:j≠k:=λe=>a.1 (e ▸ i);exact(List.mem_erase_of_ne c).mpr (g j (aae _ i))
theorem xp{x:Str}{v:Value}(h:Value.isStrOf x v=true):strOf v=x:=by
 obtain⟨t,rfl⟩:=Value.isStrOf_shape h;rfl
theorem sorted_set{σ:List Str}(hh:A.handled=none)(T:SetZ (PySem.strKind prog w) s.heap a σ (!byText w))(M:σ.length<64)
  (U:∀(p:Addr) (out:List Value) (ss:List Str) (e:Nat) (h':Heap) (d':Drawn) (tk:Nat),s.heap.objs.size<=p->h'.get? p=some (seqObj "list" out.toArray e)->StrsAre out ss->ss.Perm σ->sortedS ss=true ->
   (∀b o,s.heap.get? b=some o->h'.get? b=some o)->Q (.ref p) { s with heap:=h',drawn:=d',toks:=tk }) :
  wpAny (model prog w) A (call (.builtin "sorted") [.ref a]) Q E s:=by
 obtain⟨o,es,ep,t,R,hex,hd,V,l,z,S,D,H,n,G⟩:=T;refine Calls.call_function_entry kind_sorted plain_sorted entry_sorted (args_sorted1 _) ?_;unfold Builtin.«sorted»;refine aaa (m:=checkCount "sorted" 1 1 _) (aaf ?_);refine aaa (mT (by exists hh) R hex hd S z n G λvs h' d' tk c I u=>?_);have d:vs.length=σ.length:=by rw[c.length_eq,abD,abO];exact D
 refine aaa (wpAny_newList ?_ (hsz:=by rw[sizeLine_eq];nofun));show wpAny _ _ _ _ _ { s with heap:=h'.push (seqObj "list" vs.toArray 0),drawn:=d',toks:=tk };have f:(h'.push (seqObj "list" vs.toArray 0)).get? h'.objs.size=some (seqObj "list" vs.toArray 0):=Heap.get?_push_size _ rfl
 have j:∀v∈vs,∃x t,v=.str x t:=λv P=>by
  have C:=c.mem_iff.mp P;obtain⟨e,L,rfl⟩:=abJ.mp C;obtain⟨⟨k,u,_⟩,_⟩:=V e L;obtain⟨t,q⟩:=Value.isStrOf_shape u;exact⟨k,t,q⟩
 have g:=strsAre_map vs j
 have F:(vs.map strOf).Perm σ:=by
  refine iC σ _ H (λk u=>?_) (by rw[abD,d]);obtain⟨e,L,J⟩:=(l k).mp u;refine abJ.mpr ⟨e.2,c.mem_iff.mpr (abJ.mpr ⟨e,L,rfl⟩),xp J⟩
 have r:s.heap.objs.size<=h'.objs.size:=ab4 I;refine aaa (aaM (aaA slot_list_sort ⟨_,f,rfl⟩ entry_list_sort (list_sort_treeK strKind_oneLt f g.keysOf (λO N rest e=>keyKind_strs (by rw[← e];exact g)) (by rw[d];exact M) λi Z Y=>⟨_,rfl,?_⟩) (args_list_sort _)));obtain⟨B,b1,b2,X⟩:=sorted_out_str g Z Y;obtain⟨W,K⟩:=sortedHeap_at (out:=(arrOf i).map (·.2)) f;refine aaf ⟨_,rfl,U h'.objs.size ((arrOf i).map (·.2)).toList B W _ d' tk r (by rw[abh];exact K) b1 (b2.trans F) X λb ob z=>?_⟩;have y:b<h'.objs.size:=aao (aag z) r;rw[sortedHeap_old (aak y) (by rw[size_push'];exact aaL y)];exact Heap.get?_push_of_some _ (u b ob z)
end KS
namespace L2
open PySem PySem.Spec PyProof.Rows
variable{ss zs:List Str}{X:Cx}{σ σ0:St}{H F F' H' Z F1:Hp}{s:Shared}{a p:Addr}{ty tv te ta tb:TE}{pos:Pos}{ixs T μ m:List Nat}{i n j no:Nat}{y z x b:Str}{wi:TI}{g:TG}{tc u:TT}{ys:List (Key×V)}{Q:VK}{v:V}{xs vs:List V}{A B:List Addr}{ks k:List Key}{t:TA}{gs:TGs}{w:World}{gV:Int->Int->V}
theorem eD{vs:List Value}(h:StrsAre vs ss):Vals (ss.map V.str) vs:=by
 induction h with
 |nil=>exact .nil
 |cons y t h a=>exact .cons ⟨t,rfl⟩ a
theorem eF:∀{ss:List Str} {vs:List Value},Vals (ss.map V.str) vs->StrsAre vs ss
 |[],_,.nil=>.nil
 |s::ss,_,.cons ⟨t,e⟩ r=>by subst e;exact .cons s t (eF r)
theorem Ax:∀{vs:List Value} {ss:List Str} {i:Nat} {v:Value},StrsAre vs ss->vs[i]?=some v->∃t,v=.str (ss.getD i "") t
 |_,_,_,_,.nil,e=>by simp at e
 |_,_,0,_,.cons y t h,e=>by simp at e;exact⟨t,by rw[← e];rfl⟩
 | _,_,i+1,v,.cons y t h,e=>by
  obtain⟨u,q⟩:=Ax (i:=i) (v:=v) h (by exists e);exact⟨u,(by exists q)⟩
theorem StrsAre.len:∀{vs:List Value} {ss:List Str},StrsAre vs ss->vs.length=ss.length
 |_,_,.nil=>rfl
 |_,_,.cons _ _ h=>by simp[StrsAre.len h]
def K1(P:Program)(w:World)(q:Addr)(σ:List Str):HO:=.ext λh=>KS.SetZ (PySem.strKind P w) h q σ (!KS.byText w)
theorem Inv.laidD{pins:List (Addr×Obj)}{h':Heap}{o:HO}{t':Nat}{d':Drawn}(I:Inv X pins σ H s)(k:∀b u,s.heap.get? b=some u->h'.get? b=some u)(c:s.heap.objs.size<=a)(new:ObjOk X.prog X.w (upd H a o) h' a o) :
  Inv X pins σ (upd H a o) { s with heap:=h',drawn:=d',toks:=t' }:=
 I.call (ch:=[]) (g':=s.gens) (Un.laid k c (I.hok.fresh c)) (I.hok.laid k c new) I.bare (λ_ z=>nomatch z)
def K3(P:Program)(w:World)(K:Frag):List V->Hp->VK->Prop:=λxs H Q=>∃(p:Addr) (zs:List Str),xs=[.ref p]/\SqL K H p (zs.map .str)/\zs.length+1<scanBound /\
 ∀q σ,H q=none->(∀k,k∈σ↔k∈zs)->σ.Nodup->σ.length<=zs.length->Q (.ref q) (upd H q (K1 P w q σ))
theorem sS(B:X.calm=true):CallR X (.type "set") (K3 X.prog X.w X.K):=by
 intro pins s σ H xs us Q I r h;obtain⟨p,zs,rfl,y,C,q⟩:=h;obtain⟨u,rfl,w⟩:=dZ r;cases w;obtain⟨its,r',pl,x⟩:=I.list y;have n:=eF r';have c:=StrsAre.len n;refine KS.set_of_list (knd:=PySem.strKind X.prog X.w) (I.ok.hd B) pl.isList (λi=>zs.getD i "") (λi v e=>?_) (by simp only[List.size_toArray];nofun) λh' tk m g=>?_
 ·obtain⟨t,rfl⟩:=Ax (i:=i) n (by exists e);exact⟨kW _ t,rfl⟩
 ·have a:∀k,k∈KS.metZ (λi=>zs.getD i "") its.toArray.size↔k∈zs:=λk=>by
   rw[KS.metZ_mem];simp only[List.size_toArray,c];constructor
   ·rintro⟨j,d,rfl⟩;rw[List.getD,List.getElem?_eq_getElem d];exact aaR d
   ·intro g;obtain⟨j,d,e⟩:=abn g;exact⟨j,d,by rw[List.getD,List.getElem?_eq_getElem d];exact e⟩
  have l:=id m;obtain⟨o,es,ep,t,A,_,_,_,_,_,_,_,f,_,_⟩:=l;refine⟨.ref s.heap.objs.size,_,I.laid (t':=tk) (o:=K1 X.prog X.w s.heap.objs.size (KS.metZ (λi=>zs.getD i "") its.toArray.size)) (λb o e=>g b o (aag e) e) (aac _) ?_,rfl,q _ _ (I.hok.fresh (aac _)) a f ?_⟩
  ·exact⟨m,⟨o,A⟩,λh1 h2 z k=>KS.SetZ.at z k⟩
  ·exact aas (KS.metZ_len _ _) (by simp only[List.size_toArray];nofun)
def sT(P:Program)(w:World)(K:Frag):List V->Hp->VK->Prop:=λxs H Q=>∃(p:Addr) (σ:List Str),xs=[.ref p]/\(H p=some (K1 P w p σ)∨SqL K H p (σ.map .str))/\σ.length<64 /\
 ∀q ss,H q=none->ss.Perm σ->sortedS ss=true->Q (.ref q) (upd H q (.lst (ss.map .str)))
theorem lz(x:X.calm=true):CallR X (.builtin "sorted") (sT X.prog X.w X.K):=by
 intro pins s σ H xs us Q I r h;obtain⟨p,A,rfl,a,f,q⟩:=h;obtain⟨u,rfl,l⟩:=dZ r;cases l;rcases a with a|a
 ·obtain⟨d,_,_⟩:=I.hok p _ a;refine KS.sorted_set (I.ok.hd x) d f λi out ss e h' z tk c v g j hs t=>?_;have n:ss.length<64:=by rw[j.length_eq];exact f
  refine⟨.ref i,_,I.laidD (t':=tk) (d':=z) (o:=.lst (ss.map .str)) t c ⟨?_,out,e,eD g,v⟩,rfl,q i ss (I.hok.fresh c) j hs⟩;rw[abD,sizeLine_eq];nofun
 ·obtain⟨its,r',pl,m⟩:=I.list a;have d:=eF r';have k:=StrsAre.len d;refine sorted_strs pl.isList d (by nofun) λout ss h1 h2 y=>?_;obtain⟨e,w⟩:=sortedAll_at s.heap its out;have n:ss.length<64:=by rw[h2.length_eq];exact f
  refine⟨.ref (s.heap.objs.size+1),_,I.laid (t':=s.toks) (o:=.lst (ss.map .str)) (λb o e=>sortedAll_old e) (aaG _) ⟨?_,out.toList,e,eD h1,by rw[abh];exact w⟩,rfl,q _ ss (I.hok.fresh (aaG _)) h2 y⟩;rw[abD,sizeLine_eq];nofun
theorem qi(K:X.calm=true):CallR X (.type "list") (λxs H Q=>∃p kvs,xs=[.ref p]/\Rd H p (.dK kvs)/\∀l,H l=none->Q (.ref l) (upd H l (.lst (kvs.map λkv=>kV kv.1)))):=by
 intro pins s σ H xs us Q I r h;obtain⟨p,kvs,rfl,B,q⟩:=h;obtain⟨u,rfl,E⟩:=dZ r;cases E;obtain⟨w,L,vs,A,m⟩:kvs.length<=sizeLine/\(p==sysModules)=false/\∃vs,KV kvs vs/\s.heap.DictOf (ay X.prog X.w) p vs:=B.ok I.hok;obtain⟨ep,n⟩:=m.dictAt;have y:kvs.length=vs.length:=aa4 A;refine PySem.W.kdl_call (PySem.W.kdl_dict (knd:=ay X.prog X.w) (kvs:=vs) (ep:=ep) L) (I.ok.hd K) n (by rw[← y];exact w) λh' tk c c' J C f=>?_
 have G:Vals (kvs.map λkv=>kV kv.1) c.toList:=by
  have g:c.toList.length=kvs.length:=by rw[abO,f.1,y]
  have d:∀j v,c.toList[j]?=some v->∃k x,vs[j]?=some (k,x)/\jT k v=true:=λj v e=>f.2 j v (by rw[← Array.getElem?_toList];exact e);clear f C;generalize c.toList=us at g d;clear n m y w q B I
  induction A generalizing us with
  |nil=>cases us with|nil=>exact .nil|cons a b=>simp at g
  | cons h1 h2 F=>
   cases us with
   |nil=>simp at g
   | cons a b=>
    refine .cons ?_ (F b (by exists g) λj v e=>by simpa using d (j+1) v (by exists e));obtain⟨k,x,D,N⟩:=d 0 a rfl;simp only[List.getElem?_cons_zero,Option.some.injEq] at D;subst D;have M:_=k:=h1.1;show RelV (kV _) a;rw[M];rcases aN N with ⟨i,t,rfl,rfl⟩|⟨z,t,rfl,rfl⟩
    ·exact⟨t,rfl⟩
    ·exact⟨t,rfl⟩
 exact⟨.ref s.heap.objs.size,_,I.laid (t':=tk) (o:=.lst (kvs.map λkv=>kV kv.1)) J (aac _) ⟨by rw[abD];exact w,c.toList,c',G,by rw[abh];exact C⟩,rfl,q _ (I.hok.fresh (aac _))⟩
def sU(K:Frag):List V->Hp->VK->Prop:=λxs H Q=>(∃p ys,xs=[.ref p]/\(SqL K H p ys∨SqT K H p ys)/\∀l,H l=none->Q (.ref l) (upd H l (.lst ys)))∨∃p kvs,xs=[.ref p]/\Rd H p (.dK kvs)/\∀l,H l=none->Q (.ref l) (upd H l (.lst (kvs.map λa=>kV a.1)))
def sV(K:Frag):List V->Hp->VK->Prop:=λxs H Q=>∃p ys,xs=[.ref p]/\((SqL K H p ys/\∀l,H l=none->Q (.ref l) (upd H l (.tup ys)))∨(SqT K H p ys/\Q (.ref p) H))
theorem Dd(K:Frag)(a:X.calm=true)(h:X.K=K):BCall X (.type "list") (sU K):=by subst h;exact⟨lj.or (qi a)⟩
theorem xq(K:Frag)(h:X.K=K):BCall X (.type "tuple") (sV K):=by subst h;exact⟨jX⟩
theorem HN(P:Program)(w:World)(K:Frag)(b:X.calm=true)(c:X.prog=P)(a:X.w=w)(h:X.K=K):BCall X (.type "set") (K3 P w K):=by subst h c a;exact⟨sS b⟩
theorem De{o i value:Expr}{td:TE}{pos':Pos}(b:X.A.units+1<cLine)(c:BE X o td)(hi:BE X i ty)(a:BE X value tv)(hs:swapsWith value (some (.Subscript o i pos')) pos.line X.env=pure false) :
  BS X (.Assign [.Subscript o i pos'] value pos) (wB td ty tv):=⟨Ch b c.h hi.h a.h hs⟩
theorem Dg{T F:List Str}{scope:Scope}{elt tg iter:Expr}{ifs:List Expr}{py a:Pos}(k:X.calm=true)(S:CompScope X T F ixs scope)(hi:BI X tg iter wi)
  (e:∀C s H fp,BG (bo X (T++F) scope (aG X.env scope.names []) C s H fp) tg g) (d:∀C s H fp,BIf (bo X (T++F) scope (aG X.env scope.names []) C s H fp) ifs tc) (j:∀C s H fp,BE (bo X (T++F) scope (aG X.env scope.names []) C s H fp) elt te)
  (hs:∀x,foldedSetIterable iter X.env x=pure x) (l:X.N.Nodup) (c:X.N[i]?=some y) (hx:Loc X.env.scope y)
  (b:swapsWith (.ListComp elt [⟨tg,iter,ifs,0⟩] scope pos) (some (.Name y py)) a.line X.env=pure true) (f:X.fn y=true∨X.env.scope.names.lookup y=some .local) :
  BS X (.Assign [.Name y py] (.ListComp elt [⟨tg,iter,ifs,0⟩] scope pos) a) (pM (gR T.length ixs wi g tc te) (fE i)):=
 ⟨Cp k S hi.h (λC s H fp=>(e C s H fp).h) (λC s H fp=>(d C s H fp).h) (λC s H fp=>(j C s H fp).h) hs l c hx b f⟩
theorem HP{α:Type}{x:α}{r:List α}:atI (x::r) (0:Int)=some x:=bf (j:=0) rfl
def HQ(K:Frag)(mg:Str->Option Value)(x:Str)(xs:List V):Prop:=∃a,mg x=some (.ref a)/\∀H,SqT K H a xs
theorem sW{K:Frag}{ys:List V}(h:SqL K H p ys)(q:∀l,H l=none->Q (.ref l) (upd H l (.lst ys))):sU K [.ref p] H Q:=.inl ⟨p,ys,rfl,.inl h,q⟩
theorem sX{K:Frag}{ys:List V}(h:SqT K H p ys)(q:∀l,H l=none->Q (.ref l) (upd H l (.lst ys))):sU K [.ref p] H Q:=.inl ⟨p,ys,rfl,.inr h,q⟩
theorem qj{K:Frag}{kvs:List (Key×V)}(h:Rd H p (.dK kvs))(q:∀l,H l=none->Q (.ref l) (upd H l (.lst (kvs.map λkv=>kV kv.1)))):sU K [.ref p] H Q:=.inr ⟨p,kvs,rfl,h,q⟩
theorem qk{K:Frag}{ys:List V}(h:SqL K H p ys)(q:∀l,H l=none->Q (.ref l) (upd H l (.tup ys))):sV K [.ref p] H Q:=⟨p,ys,rfl,.inl ⟨h,q⟩⟩
theorem lA(h:zs.Nodup):(KS.dedup1 zs z).Nodup:=by
 unfold KS.dedup1;split
 ·exact h
 ·rename_i a;exact KS.nodup_snoc h a
theorem ql :y∈KS.dedup1 zs z↔y∈zs∨y=z:=by
 unfold KS.dedup1;split
 ·rename_i a;exact⟨.inl,λh=>h.elim id λe=>e ▸ a⟩
 ·simp
theorem qm(zs:List Str)(z:Str):zs.length<=(KS.dedup1 zs z).length/\(KS.dedup1 zs z).length<=zs.length+1/\1<=(KS.dedup1 zs z).length:=by
 unfold KS.dedup1;split
 ·rename_i a;exact⟨aac _,aaG _,List.length_pos_of_mem a⟩
 ·simp
inductive D where
 |non|bl (b:Bool)|int (i:Int)|str (x:Str)|lst (xs:List D)|tup (xs:List D)|dct (ks:List Key) (xs:List D)|ty (T:String)|opq (a:Addr) (n:Nat)|gt (xs:List D)|dt (ks:List (List Key)) (xs:List D)
variable{d e:D}{ds as:List D}{gD:Int->Int->D}
def plKV:Key×V->Bool
 |(.inr z,.int i)=>decide (z.length<=20)&&z.cps.toList.all (λc=>decide (c<16 ^ 8))&&decide (i.natAbs.log2<20)&&decide ((PySem.PyData.shown (.int i)).length<=8)
 |_=>false
mutual
inductive Den(K:Frag)(F:Hp):V->D->Prop where
 |non:Den K F .non .non
 |bl (b:Bool):Den K F (.bl b) (.bl b)
 |int (i:Int):Den K F (.int i) (.int i)
 |str (x:Str):Den K F (.str x) (.str x)
 |ty (T:String):Den K F (.ty T) (.ty T)
 |lst {a:Addr} {xs:List V} {ds:List D}:SqL K F a xs->Dens K F xs ds->Den K F (.ref a) (.lst ds)
 |tup {a:Addr} {xs:List V} {ds:List D}:F a=some (.tup xs)->Dens K F xs ds->Den K F (.ref a) (.tup ds)
 |dct {a:Addr} {ys:List (Key×V)} {ks:List Key} {ds:List D}:Rd F a (.dK ys)->ys.map (·.1)=ks->Dens K F (ys.map (·.2)) ds->Den K F (.ref a) (.dct ks ds)
 |opq {a:Addr} {ys:List (Key×V)} {n:Nat}:Rd F a (.dK ys)->ys.length=n->ys.all plKV=true->Den K F (.ref a) (.opq a n)
 |gt {a:Addr} {xs:List V} {ds:List D}:SqT K F a xs->Dens K F xs ds->Den K F (.ref a) (.gt ds)
 |dt {a:Addr} {ys:List (List Key×V)} {ks:List (List Key)} {ds:List D}:Rd F a (.dT ys)->ys.map (·.1)=ks->Dens K F (ys.map (·.2)) ds->Den K F (.ref a) (.dt ks ds)
inductive Dens(K:Frag)(F:Hp):List V->List D->Prop where
 |nil:Dens K F [] []
 |cons {x:V} {d:D} {xs:List V} {ds:List D}:Den K F x d->Dens K F xs ds->Dens K F (x::xs) (d::ds)
end
theorem Same.rd{u:HO}(e:Same F F')(h:Rd F a u):Rd F' a u:=h.elim (λh=>.inl (e _ _ h)) fun⟨o,h⟩=>.inr ⟨o,e _ _ h⟩
theorem Den.mono{K:Frag}(e:Same F F')(h:Den K F v d):Den K F' v d:=
 Den.rec (motive_1:=λv d _=>Den K F' v d) (motive_2:=λv d _=>Dens K F' v d) .non .bl .int .str .ty (λh _ t=>.lst (e.seq h) t) (λh _ t=>.tup (e _ _ h) t) (λh k _ t=>.dct (e.rd h) k t) (λh k p=>.opq (e.rd h) k p) (λh _ t=>.gt (h.same e) t) (λh k _ t=>.dt (e.rd h) k t) .nil (λ_ _ h t=>.cons h t) h
theorem Dens.mono{K:Frag}(e:Same F F'){v:List V}{d:List D}(h:Dens K F v d):Dens K F' v d:=
 Dens.rec (motive_1:=λ_ _ _=>True) (motive_2:=λv d _=>Dens K F' v d) trivial (λ_=>trivial) (λ_=>trivial) (λ_=>trivial) (λ_=>trivial) (λ_ _ _=>trivial) (λ_ _ _=>trivial) (λ_ _ _ _=>trivial) (λ_ _ _=>trivial) (λ_ _ _=>trivial) (λ_ _ _ _=>trivial) .nil (λh _ _ t=>.cons (h.mono e) t) h
section
variable {K:Frag} 
theorem Dens.length{xs:List V}{ds:List D}(h:Dens K F xs ds):xs.length=ds.length:=
 Dens.rec (motive_1:=λ_ _ _=>True) (motive_2:=λxs ds _=>xs.length=ds.length) trivial (λ_=>trivial) (λ_=>trivial) (λ_=>trivial) (λ_=>trivial) (λ_ _ _=>trivial) (λ_ _ _=>trivial) (λ_ _ _ _=>trivial) (λ_ _ _=>trivial) (λ_ _ _=>trivial) (λ_ _ _ _=>trivial) rfl (λ_ _ _ t=>congrArg (·+1) t) h
theorem Dens.get:∀{xs:List V} {ds:List D} {i:Nat} {d:D},Dens K F xs ds->ds[i]?=some d->∃x,xs[i]?=some x/\Den K F x d
 |_,_,_,_,.nil,e=>by simp at e
 |_,_,0,_,.cons h _,e=>by simp at e;subst e;exact⟨_,rfl,h⟩
 | _,_,i+1,d,.cons h t,e=>by
  obtain⟨x,h1,h2⟩:=Dens.get (i:=i) (d:=d) t (by exists e);exact⟨x,(by exists h1),h2⟩
theorem Dens.get':∀{xs:List V} {ds:List D} {i:Nat} {x:V},Dens K F xs ds->xs[i]?=some x->∃d,ds[i]?=some d/\Den K F x d
 |_,_,_,_,.nil,e=>by simp at e
 |_,_,0,_,.cons h _,e=>by simp at e;subst e;exact⟨_,rfl,h⟩
 | _,_,i+1,d,.cons h t,e=>by
  obtain⟨x,h1,h2⟩:=Dens.get' (i:=i) (x:=d) t (by exists e);exact⟨x,(by exists h1),h2⟩
theorem Dens.append{ys:List V}{es:List D}(h:Dens K F xs ds)(s:Dens K F ys es):Dens K F (xs++ys) (ds++es):=
 Dens.rec (motive_1:=λ_ _ _=>True) (motive_2:=λxs ds _=>Dens K F (xs++ys) (ds++es)) trivial (λ_=>trivial) (λ_=>trivial) (λ_=>trivial) (λ_=>trivial) (λ_ _ _=>trivial) (λ_ _ _=>trivial) (λ_ _ _ _=>trivial) (λ_ _ _=>trivial) (λ_ _ _=>trivial) (λ_ _ _ _=>trivial) s (λh _ _ t=>.cons h t) h
theorem Dens.take:∀{xs:List V} {ds:List D} (n:Nat),Dens K F xs ds->Dens K F (xs.take n) (ds.take n)
 |_,_,0,_=>.nil
 |_,_,_+1,.nil=>.nil
 |_,_,n+1,.cons r t=>.cons r (Dens.take n t)
theorem Dens.drop:∀{xs:List V} {ds:List D} (n:Nat),Dens K F xs ds->Dens K F (xs.drop n) (ds.drop n)
 |_,_,0,r=>r
 |_,_,_+1,.nil=>.nil
 |_,_,n+1,.cons r t=>Dens.drop n t
theorem Dens.set{x:V}{d:D}(r:Den K F x d):∀{xs:List V} {ds:List D} (i:Nat),Dens K F xs ds->Dens K F (xs.set i x) (ds.set i d)
 |_,_,_,.nil=>.nil
 |_,_,0,.cons _ t=>.cons r t
 |_,_,i+1,.cons q t=>.cons q (Dens.set r i t)
theorem Dens.snoc{x:V}(h:Dens K F xs ds)(q:Den K F x d):Dens K F (xs++[x]) (ds++[d]):=h.append (.cons q .nil)
theorem Dens.strs:∀(zs:List Str),Dens K F (zs.map V.str) (zs.map D.str)
 |[]=>.nil
 |z::zs=>.cons (.str z) (Dens.strs zs)
theorem Dens.ints:∀(zs:List Int),Dens K F (zs.map V.int) (zs.map D.int)
 |[]=>.nil
 |z::zs=>.cons (.int z) (Dens.ints zs)
theorem Den.str_eq(h:Den K F v (.str z)):v=.str z:=by cases h;rfl
theorem Den.int_eq{z:Int}(h:Den K F v (.int z)):v=.int z:=by cases h;rfl
theorem Den.bl_eq{z:Bool}(h:Den K F v (.bl z)):v=.bl z:=by cases h;rfl
theorem Den.non_eq(h:Den K F v .non):v=.non:=by cases h;rfl
theorem Dens.strs_eq:∀{zs:List Str} {xs:List V},Dens K F xs (zs.map D.str)->xs=zs.map V.str
 |[],_,.nil=>rfl
 |z::zs,_,.cons h t=>by rw[h.str_eq,Dens.strs_eq t];rfl
theorem Dens.bls_eq:∀{zs:List Bool} {xs:List V},Dens K F xs (zs.map D.bl)->xs=zs.map V.bl
 |[],_,.nil=>rfl
 |z::zs,_,.cons h t=>by rw[h.bl_eq,Dens.bls_eq t];rfl
end
mutual
def xr:D->DV
 |.non=>.non
 |.bl b=>.bl b
 |.int i=>.int i
 |.str x=>.str x
 |.lst xs=>.lst (toDVs xs)
 |.tup xs=>.tup (toDVs xs)
 |.dct _ _=>.non
 |.ty _=>.non
 |.opq _ _=>.non
 |.gt _=>.non
 |.dt _ _=>.non
def toDVs:List D->List DV
 |[]=>[]
 |d::ds=>xr d::toDVs ds
end
mutual
def okD:D->Bool
 |.lst xs=>okDs xs
 |.tup xs=>okDs xs
 |.dct _ _=>false
 |.ty _=>false
 |.opq _ _=>false
 |.gt _=>false
 |.dt _ _=>false
 |_=>true
def okDs:List D->Bool
 |[]=>true
 |d::ds=>okD d&&okDs ds
end
theorem Den.deep{K:Frag}(h:Den K H v d):okD d=true->Deep K H v (xr d):=
 Den.rec (motive_1:=λv d _=>okD d=true->Deep K H v (xr d)) (motive_2:=λv d _=>okDs d=true->Deeps K H v (toDVs d)) (λ_=>.non) (λb _=>.bl b) (λb _=>.int b) (λb _=>.str b) (λ_ o=>nomatch o) (λh _ t o=>.lst h (t o)) (λh _ t o=>.tup (SqT.of h) (t o)) (λ_ _ _ _ o=>nomatch o) (λ_ _ _ o=>nomatch o) (λ_ _ _ o=>nomatch o) (λ_ _ _ _ o=>nomatch o) (λ_=>.nil) (λ_ _ h t o=>.cons (h (abU.mp o).1) (t (abU.mp o).2)) h
def dEq(d e:D):Bool:=deq (xr d) (xr e)
inductive FV where
 |fz (d:D)|fl (a:Addr) (ds:List D)|fd (a:Addr) (ks:List Key) (ds:List D)|ft (a:Addr) (ks:List (List Key)) (ds:List D)
def Dh:Nat->Str
 |0 => "Asking"
 |1 => "Reader"
 |_ => "Desk"
def cg:Nat->List Str
 |0=>["form", "name", "place", "at", "turn", "steps", "done", "length"]
 |_=>[]
structure Oo where
 a:Addr
 c:Nat
 ps:List FV
inductive OV where
 |fz (d:D)|fl (ds:List D)|fd (ks:List Key) (ds:List D)|ft (ks:List (List Key)) (ds:List D)|ot (ps:List FV)|ob (o:Oo)|obs (xs:List Oo)|obh (xs:List Oo) (a:Addr)
variable{o:OV}{P:OV->Prop}{f:D->D->(OV->Prop)->Prop}
inductive Fw(K:Frag)(F H:Hp):V->FV->List Addr->Prop where
 |fz {v:V} {d:D}:Den K F v d->Fw K F H v (.fz d) []
 |fl {a:Addr} {xs:List V} {ds:List D}:H a=some (.lst xs)->Dens K F xs ds->Fw K F H (.ref a) (.fl a ds) [a]
 |fd {a:Addr} {ys:List (Key×V)} {ks:List Key} {ds:List D}:H a=some (.dK ys)->ys.map (·.1)=ks->Dens K F (ys.map (·.2)) ds->Fw K F H (.ref a) (.fd a ks ds) [a]
 |ft {a:Addr} {ys:List (List Key×V)} {ks:List (List Key)} {ds:List D}:H a=some (.dT ys)->ys.map (·.1)=ks->Dens K F (ys.map (·.2)) ds->Fw K F H (.ref a) (.ft a ks ds) [a]
inductive Fws(K:Frag)(F H:Hp):List V->List FV->List Addr->Prop where
 |nil:Fws K F H [] [] []
 |cons {x:V} {o:FV} {xs:List V} {os:List FV} {A B:List Addr}:Fw K F H x o A->Fws K F H xs os B->Fws K F H (x::xs) (o::os) (A++B)
inductive Ob(K:Frag)(F H:Hp):V->Oo->List Addr->Prop where
 |mk {a C dx:Addr} {c:Nat} {fs:List (Str×V)} {ps:List FV} {A:List Addr}:H a=some (.ins C dx fs)->PySem.W.nsIn K mainGlobals (Dh c)=some (some (.ref C))->fs.map (·.1)=(cg c).take ps.length->ps.length<=(cg c).length->Fws K F H (fs.map (·.2)) ps A->Ob K F H (.ref a) ⟨a,c,ps⟩ (a::A)
inductive Obs(K:Frag)(F H:Hp):List V->List Oo->List Addr->Prop where
 |nil:Obs K F H [] [] []
 |cons {x:V} {o:Oo} {xs:List V} {os:List Oo} {A B:List Addr}:Ob K F H x o A->Obs K F H xs os B->Obs K F H (x::xs) (o::os) (A++B)
inductive Ow(K:Frag)(F H:Hp):V->OV->List Addr->Prop where
 |fz {v:V} {d:D}:Den K F v d->Ow K F H v (.fz d) []
 |fl {a:Addr} {xs:List V} {ds:List D}:H a=some (.lst xs)->Dens K F xs ds->Ow K F H (.ref a) (.fl ds) [a]
 |fd {a:Addr} {ys:List (Key×V)} {ks:List Key} {ds:List D}:H a=some (.dK ys)->ys.map (·.1)=ks->Dens K F (ys.map (·.2)) ds->Ow K F H (.ref a) (.fd ks ds) [a]
 |ft {a:Addr} {ys:List (List Key×V)} {ks:List (List Key)} {ds:List D}:H a=some (.dT ys)->ys.map (·.1)=ks->Dens K F (ys.map (·.2)) ds->Ow K F H (.ref a) (.ft ks ds) [a]
 |ot {a:Addr} {xs:List V} {ps:List FV} {A:List Addr}:F a=some (.tup xs)->Fws K F H xs ps A->Ow K F H (.ref a) (.ot ps) A
 |ob {v:V} {o:Oo} {A:List Addr}:Ob K F H v o A->Ow K F H v (.ob o) A
 |obs {a:Addr} {xs:List V} {os:List Oo} {A:List Addr}:H a=some (.lst xs.reverse)->Obs K F H xs os A->Ow K F H (.ref a) (.obs os) (a::A)
 |obh {a b:Addr} {xs:List V} {os:List Oo} {A:List Addr}:H a=some (.lst (.ref b::xs).reverse)->Obs K F H xs os A->Ow K F H (.ref a) (.obh os b) (a::A)
section
variable {K:Frag} 
theorem Fw.keep(e:Same F F'){o:FV}(h:Fw K F H v o A)(k:∀a u,a∈A->H a=some u->H' a=some u):Fw K F' H' v o A:=by
 cases h with
 |fz h=>exact .fz (h.mono e)
 |fl h t=>exact .fl (k _ _ (aab ..) h) (t.mono e)
 |fd h q t=>exact .fd (k _ _ (aab ..) h) q (t.mono e)
 |ft h q t=>exact .ft (k _ _ (aab ..) h) q (t.mono e)
theorem Fws.keep(e:Same F F'){v:List V}{o:List FV}(h:Fws K F H v o A)(k:∀a u,a∈A->H a=some u->H' a=some u):Fws K F' H' v o A:=by
 induction h with
 |nil=>exact .nil
 |cons h t c=>exact .cons (h.keep e λa u b=>k a u (aav _ b)) (c λa u b=>k a u (aal _ b))
theorem Ob.keep(e:Same F F'){o:Oo}(h:Ob K F H v o A)(k:∀a u,a∈A->H a=some u->H' a=some u):Ob K F' H' v o A:=by
 cases h with
 |mk h c n l t=>exact .mk (k _ _ (aab ..) h) c n l (t.keep e λa u b=>k a u (aae _ b))
theorem Obs.keep(e:Same F F'){v:List V}{o:List Oo}(h:Obs K F H v o A)(k:∀a u,a∈A->H a=some u->H' a=some u):Obs K F' H' v o A:=by
 induction h with
 |nil=>exact .nil
 |cons h t c=>exact .cons (h.keep e λa u b=>k a u (aav _ b)) (c λa u b=>k a u (aal _ b))
theorem Fw.live{o:FV}(h:Fw K F H v o A):∀a∈A,∃u,H a=some u:=by
 cases h with
 |fz h=>exact λ_ z=>nomatch z
 |fl h t=>exact λb z=>⟨_,abF.mp z ▸ h⟩
 |fd h q t=>exact λb z=>⟨_,abF.mp z ▸ h⟩
 |ft h q t=>exact λb z=>⟨_,abF.mp z ▸ h⟩
theorem Fws.live{v:List V}{o:List FV}(h:Fws K F H v o A):∀a∈A,∃u,H a=some u:=by
 induction h with
 |nil=>exact λ_ z=>nomatch z
 |cons h t c=>exact λb z=>(abE.mp z).elim (h.live b) (c b)
theorem Ob.live{o:Oo}(h:Ob K F H v o A):∀a∈A,∃u,H a=some u:=by
 cases h with
 |mk h c n l t=>exact λb z=>(abI.mp z).elim (λz=>⟨_,z ▸ h⟩) (t.live b)
theorem Obs.live{v:List V}{o:List Oo}(h:Obs K F H v o A):∀a∈A,∃u,H a=some u:=by
 induction h with
 |nil=>exact λ_ z=>nomatch z
 |cons h t c=>exact λb z=>(abE.mp z).elim (h.live b) (c b)
end
inductive Ows(K:Frag)(F H:Hp):List V->List OV->List Addr->Prop where
 |nil:Ows K F H [] [] []
 |cons {x:V} {o:OV} {xs:List V} {os:List OV} {A B:List Addr}:Ow K F H x o A->Ows K F H xs os B->Ows K F H (x::xs) (o::os) (A++B)
theorem Ow.keep{K:Frag}(e:Same F F')(h:Ow K F H v o A)(k:∀a u,a∈A->H a=some u->H' a=some u):Ow K F' H' v o A:=by
 cases h with
 |fz h=>exact .fz (h.mono e)
 |fl h t=>exact .fl (k _ _ (aab ..) h) (t.mono e)
 |fd h q t=>exact .fd (k _ _ (aab ..) h) q (t.mono e)
 |ft h q t=>exact .ft (k _ _ (aab ..) h) q (t.mono e)
 |ot h t=>exact .ot (e _ _ h) (t.keep e k)
 |ob h=>exact .ob (h.keep e k)
 |obs h t=>exact .obs (k _ _ (aab ..) h) (t.keep e λa u b=>k a u (aae _ b))
 |obh h t=>exact .obh (k _ _ (aab ..) h) (t.keep e λa u b=>k a u (aae _ b))
theorem Ows.keep{K:Frag}(e:Same F F'){v:List V}{o:List OV}(h:Ows K F H v o A)(k:∀a u,a∈A->H a=some u->H' a=some u):Ows K F' H' v o A:=by
 induction h with
 |nil=>exact .nil
 |cons h t c=>exact .cons (h.keep e λa u b=>k a u (aav _ b)) (c λa u b=>k a u (aal _ b))
theorem Ow.live{K:Frag}(h:Ow K F H v o A):∀a∈A,∃u,H a=some u:=by
 cases h with
 |fz h=>exact λ_ z=>nomatch z
 |fl h t=>exact λb z=>⟨_,abF.mp z ▸ h⟩
 |fd h q t=>exact λb z=>⟨_,abF.mp z ▸ h⟩
 |ft h q t=>exact λb z=>⟨_,abF.mp z ▸ h⟩
 |ot h t=>exact t.live
 |ob h=>exact h.live
 |obs h t=>exact λb z=>(abI.mp z).elim (λz=>⟨_,z ▸ h⟩) (t.live b)
 |obh h t=>exact λb z=>(abI.mp z).elim (λz=>⟨_,z ▸ h⟩) (t.live b)
theorem Ows.live{K:Frag}{v:List V}{o:List OV}(h:Ows K F H v o A):∀a∈A,∃u,H a=some u:=by
 induction h with
 |nil=>exact λ_ z=>nomatch z
 |cons h t c=>exact λb z=>(abE.mp z).elim (h.live b) (c b)
def NT(H:Hp)(A:List Addr):Prop:=∀a∈A,∀xs,H a≠some (.tup xs)
theorem NT.nil :NT H []:=λ_ z=>nomatch z
theorem NT.one{o:HO}(h:H a=some o)(n:∀xs,o≠.tup xs)(t:NT H A):NT H (a::A):=λb c xs z=>(abI.mp c).elim (λy=>n xs (aaj (h.symm.trans (y ▸ z)))) (λy=>t b y xs z)
theorem NT.app(s:NT H A)(t:NT H B):NT H (A++B):=λb a=>(abE.mp a).elim (s b) (t b)
section
variable {K:Frag} 
theorem Fw.nt{o:FV}(h:Fw K F H v o A):NT H A:=by
 cases h with
 |fz h=>exact .nil
 |fl h t=>exact .one h (λ_ z=>nomatch z) .nil
 |fd h q t=>exact .one h (λ_ z=>nomatch z) .nil
 |ft h q t=>exact .one h (λ_ z=>nomatch z) .nil
theorem Fws.nt{v:List V}{o:List FV}(h:Fws K F H v o A):NT H A:=by
 induction h with
 |nil=>exact .nil
 |cons h t a=>exact h.nt.app a
theorem Ob.nt{o:Oo}(h:Ob K F H v o A):NT H A:=by
 cases h with
 |mk h c n l t=>exact .one h (λ_ z=>nomatch z) t.nt
theorem Obs.nt{v:List V}{o:List Oo}(h:Obs K F H v o A):NT H A:=by
 induction h with
 |nil=>exact .nil
 |cons h t a=>exact h.nt.app a
theorem Ow.nt(h:Ow K F H v o A):NT H A:=by
 cases h with
 |fz h=>exact .nil
 |fl h t=>exact .one h (λ_ z=>nomatch z) .nil
 |fd h q t=>exact .one h (λ_ z=>nomatch z) .nil
 |ft h q t=>exact .one h (λ_ z=>nomatch z) .nil
 |ot h t=>exact t.nt
 |ob h=>exact h.nt
 |obs h t=>exact .one h (λ_ z=>nomatch z) t.nt
 |obh h t=>exact .one h (λ_ z=>nomatch z) t.nt
end
def iD:FV->D
 |.fz d=>d
 |.fl _ ds=>.lst ds
 |.fd _ ks ds=>.dct ks ds
 |.ft _ ks ds=>.dt ks ds
def F9:OV->Option D
 |.fz d=>some d
 |.fl ds=>some (.lst ds)
 |.fd ks ds=>some (.dct ks ds)
 |.ft ks ds=>some (.dt ks ds)
 |.ot ps=>some (.tup (ps.map iD))
 |_=>none
theorem Fw.freeze{K:Frag}(e:Same F F'){o:FV}(h:Fw K F H v o A)(k:∀a u,a∈A->H a=some u->F' a=some u):Den K F' v (iD o):=by
 cases h with
 |fz h=>exact h.mono e
 |fl h t=>exact .lst (SqL.of (k _ _ (aab ..) h)) (t.mono e)
 |fd h q t=>exact .dct (.inl (k _ _ (aab ..) h)) q (t.mono e)
 |ft h q t=>exact .dt (.inl (k _ _ (aab ..) h)) q (t.mono e)
theorem Fws.freeze{K:Frag}(e:Same F F'){v:List V}{o:List FV}(h:Fws K F H v o A)(k:∀a u,a∈A->H a=some u->F' a=some u):Dens K F' v (o.map iD):=by
 induction h with
 |nil=>exact .nil
 |cons h t c=>exact .cons (h.freeze e λa u b=>k a u (aav _ b)) (c λa u b=>k a u (aal _ b))
theorem Ow.freeze{K:Frag}(e:Same F F')(h:Ow K F H v o A)(k:∀a u,a∈A->H a=some u->F' a=some u)(hd:F9 o=some d):Den K F' v d:=by
 cases h with
 |fz h=>cases hd;exact h.mono e
 |fl h t=>cases hd;exact .lst (SqL.of (k _ _ (aab ..) h)) (t.mono e)
 |fd h q t=>cases hd;exact .dct (.inl (k _ _ (aab ..) h)) q (t.mono e)
 |ft h q t=>cases hd;exact .dt (.inl (k _ _ (aab ..) h)) q (t.mono e)
 |ot h t=>cases hd;exact .tup (e _ _ h) (t.freeze e k)
 |_=>cases hd
def flat:OV->Option D
 |.fz d=>some d
 |.fl ds=>some (.lst ds)
 |.fd ks ds=>some (.dct ks ds)
 |.ft ks ds=>some (.dt ks ds)
 |_=>none
inductive Acc(K:Frag)(F H:Hp):V->D->Prop where
 |fz {v:V} {d:D}:Den K F v d->Acc K F H v d
 |lst {a:Addr} {xs:List V} {ds:List D}:H a=some (.lst xs)->Dens K F xs ds->Acc K F H (.ref a) (.lst ds)
 |dct {a:Addr} {ys:List (Key×V)} {ks:List Key} {ds:List D}:H a=some (.dK ys)->ys.map (·.1)=ks->Dens K F (ys.map (·.2)) ds->Acc K F H (.ref a) (.dct ks ds)
 |dt {a:Addr} {ys:List (List Key×V)} {ks:List (List Key)} {ds:List D}:H a=some (.dT ys)->ys.map (·.1)=ks->Dens K F (ys.map (·.2)) ds->Acc K F H (.ref a) (.dt ks ds)
section
variable {K:Frag} 
theorem Ow.acc(h:Ow K F H v o A)(e:flat o=some d):Acc K F H v d:=by
 cases h with
 |fz h=>simp only[flat,Option.some.injEq] at e;subst e;exact .fz h
 |fl h t=>simp only[flat,Option.some.injEq] at e;subst e;exact .lst h t
 |fd h q t=>simp only[flat,Option.some.injEq] at e;subst e;exact .dct h q t
 |ft h q t=>cases e;exact .dt h q t
 |_=>cases e
theorem Acc.den(e:Same F H)(h:Acc K F H v d):Den K H v d:=by
 cases h with
 |fz h=>exact h.mono e
 |lst h t=>exact .lst (SqL.of h) (t.mono e)
 |dct h k t=>exact .dct (.inl h) k (t.mono e)
 |dt h k t=>exact .dt (.inl h) k (t.mono e)
theorem Acc.asL(e:Same F H)(h:Acc K F H v (.lst ds)):∃a xs,v=.ref a/\SqL K H a xs/\Dens K F xs ds:=by
 cases h with
 |fz h=>cases h with|lst h t=>exact⟨_,_,rfl,e.seq h,t⟩
 |lst h t=>exact⟨_,_,rfl,SqL.of h,t⟩
theorem Acc.asT(e:Same F H)(h:Acc K F H v (.tup ds)):∃a xs,v=.ref a/\SqT K H a xs/\Dens K F xs ds:=by
 cases h with
 |fz h=>cases h with|tup h t=>exact⟨_,_,rfl,SqT.of (e _ _ h),t⟩
theorem Acc.asD(e:Same F H)(h:Acc K F H v (.dct ks ds)):∃a ys,v=.ref a/\Rd H a (.dK ys)/\ys.map (·.1)=ks/\Dens K F (ys.map (·.2)) ds:=by
 cases h with
 |fz h=>cases h with|dct h k t=>exact⟨_,_,rfl,e.rd h,k,t⟩
 |dct h k t=>exact⟨_,_,rfl,.inl h,k,t⟩
theorem Acc.asTH(e:Same F H)(h:Acc K F H v (.tup ds)):∃a xs,v=.ref a/\H a=some (.tup xs)/\Dens K F xs ds:=by
 cases h with
 |fz h=>cases h with|tup h t=>exact⟨_,_,rfl,e _ _ h,t⟩
theorem Acc.asG(e:Same F H)(h:Acc K F H v (.gt ds)):∃a xs,v=.ref a/\SqT K H a xs/\Dens K F xs ds:=by
 cases h with
 |fz h=>cases h with|gt h t=>exact⟨_,_,rfl,h.same e,t⟩
theorem Acc.asDT{ks:List (List Key)}(e:Same F H)(h:Acc K F H v (.dt ks ds)):∃a ys,v=.ref a/\Rd H a (.dT ys)/\ys.map (·.1)=ks/\Dens K F (ys.map (·.2)) ds:=by
 cases h with
 |fz h=>cases h with|dt h k t=>exact⟨_,_,rfl,e.rd h,k,t⟩
 |dt h k t=>exact⟨_,_,rfl,.inl h,k,t⟩
theorem Acc.str_eq(h:Acc K F H v (.str z)):v=.str z:=by cases h with|fz h=>exact h.str_eq
theorem Acc.int_eq{z:Int}(h:Acc K F H v (.int z)):v=.int z:=by cases h with|fz h=>exact h.int_eq
theorem Acc.bl_eq{z:Bool}(h:Acc K F H v (.bl z)):v=.bl z:=by cases h with|fz h=>exact h.bl_eq
theorem Acc.non_eq(h:Acc K F H v .non):v=.non:=by cases h with|fz h=>exact h.non_eq
theorem Acc.ty_eq{T:String}(h:Acc K F H v (.ty T)):v=.ty T:=by cases h with|fz h=>cases h;rfl
end
abbrev FSt:=List (Option OV)
variable{ρ:FSt}
inductive Slots(K:Frag)(F H:Hp):St->FSt->List Addr->Prop where
 |nil:Slots K F H [] [] []
 |skip {x:Option V} {σ:St} {ρ:FSt} {A:List Addr}:Slots K F H σ ρ A->Slots K F H (x::σ) (none::ρ) A
 |has {v:V} {o:OV} {σ:St} {ρ:FSt} {A B:List Addr}:Ow K F H v o A->Slots K F H σ ρ B->Slots K F H (some v::σ) (some o::ρ) (A++B)
section
variable {K:Frag} 
theorem Slots.keep(e:Same F F')(h:Slots K F H σ ρ A)(k:∀a u,a∈A->H a=some u->H' a=some u):Slots K F' H' σ ρ A:=by
 induction h with
 |nil=>exact .nil
 |skip t b=>exact .skip (b k)
 |has h t b=>exact .has (h.keep e λa u c=>k a u (aav _ c)) (b λa u c=>k a u (aal _ c))
theorem Slots.live(h:Slots K F H σ ρ A):∀a∈A,∃u,H a=some u:=by
 induction h with
 |nil=>exact λ_ z=>nomatch z
 |skip t c=>exact c
 |has h t c=>exact λb z=>(abE.mp z).elim (h.live b) (c b)
theorem Slots.nt(h:Slots K F H σ ρ A):NT H A:=by
 induction h with
 |nil=>exact .nil
 |skip _ a=>exact a
 |has h _ a=>exact h.nt.app a
theorem Slots.len(h:Slots K F H σ ρ A):σ.length=ρ.length:=by
 induction h with
 |nil=>rfl
 |skip t a=>exact congrArg (·+1) a
 |has _ t a=>exact congrArg (·+1) a
theorem Slots.take(h:Slots K F H σ ρ A)(e:ρ[i]?=some (some o)):∃v B A',σ[i]?=some (some v)/\Ow K F H v o B/\A.Perm (B++A')/\Slots K F H σ (ρ.set i none) A':=by
 induction h generalizing i with
 |nil=>cases e
 | skip t a=>
  cases i with
  |zero=>cases e
  | succ i=>
   obtain⟨v,B,A',h1,h2,c,b⟩:=a (i:=i) e;exact⟨v,B,A',h1,h2,c,.skip b⟩
 | @has _ _ _ _ C _ h t a=>
  cases i with
  |zero=>cases e;exact ⟨_,_,_,rfl,h,aaE _,.skip t⟩
  | succ i=>
   obtain⟨v,B,A',h1,h2,c,b⟩:=a (i:=i) e;exact⟨v,B,C++A',h1,h2,(aaX C c).trans (by rw[← aar,← aar];exact aa5 A' abb),.has h b⟩
theorem Slots.drop(i:Nat)(x:Option V)(h:Slots K F H σ ρ A):∃A' B,A.Perm (B++A')/\Slots K F H (σ.set i x) (ρ.set i none) A':=by
 induction h generalizing i with
 |nil=>exact⟨[],[],aaE _,.nil⟩
 | skip t a=>
  cases i with
  |zero=>exact ⟨_,[],aaE _,.skip t⟩
  | succ i=>
   obtain⟨A',B,h1,h2⟩:=a i;exact⟨A',B,h1,.skip h2⟩
 | @has _ _ _ _ C _ h t a=>
  cases i with
  |zero=>exact ⟨_,_,aaE _,.skip t⟩
  | succ i=>
   obtain⟨A',B,c,b⟩:=a i;exact⟨C++A',B,(aaX C c).trans (by rw[← aar,← aar];exact aa5 A' abb),.has h b⟩
theorem Slots.put(s:Slots K F H σ ρ A)(e:ρ[i]?=some none)(b:σ[i]?=some (some v))(h:Ow K F H v o B):∃A',A'.Perm (B++A)/\Slots K F H σ (ρ.set i (some o)) A':=by
 induction s generalizing i with
 |nil=>cases e
 | skip t a=>
  cases i with
  |zero=>cases b;exact ⟨_,aaE _,.has h t⟩
  | succ i=>
   obtain⟨A',h1,h2⟩:=a (i:=i) e b;exact⟨A',h1,.skip h2⟩
 | @has _ _ _ _ C _ h' t a=>
  cases i with
  |zero=>cases e
  | succ i=>
   obtain⟨A',h1,h2⟩:=a (i:=i) e b;exact⟨C++A',(aaX C h1).trans (by rw[← aar,← aar];exact aa5 _ abb),.has h' h2⟩
end
inductive RV where
 |ov (o:OV)|br (i:Nat)
variable{r:RV}
structure SameN(Z H:Hp):Prop where
 s:Same Z H
 n:∀a xs,Z a≠some (.tup xs)
theorem SameN.free(h:SameN Z H)(e:H a=none):Z a=none:=h.s.free e
theorem SameN.trans(h:SameN Z H)(e:Same H H'):SameN Z H':=⟨h.s.trans e,h.n⟩
theorem SameN.back{b:Hp}(h:SameN b H)(e:Same Z b):SameN Z H:=⟨e.trans h.s,λa xs z=>h.n a xs (e a _ z)⟩
theorem SameN.none :SameN (λ_=>.none) H:=⟨(λ_ _ z=>nomatch z),λ_ _ z=>nomatch z⟩
structure Rel(K:Frag)(F Z H:Hp)(σ:St)(ρ:FSt)(A:List Addr):Prop where
 sl:Slots K F H σ ρ A
 nd:A.Nodup
 fr:∀a∈A,F a=none/\Z a=none
 fh:Same F H
 zh:SameN Z H
 dj:∀a o,F a=some o->Z a=none
def RV1(K:Frag)(F H:Hp)(σ:St)(v:V):RV->List Addr->Prop
 |.ov o,B=>Ow K F H v o B
 |.br i,B=>σ[i]?=some (some v)/\B=[]
structure Fresh(F Z:Hp)(A B:List Addr):Prop where
 nd:B.Nodup
 fr:∀b∈B,F b=none/\Z b=none/\b∉A
theorem Fresh.nil :Fresh F Z A []:=⟨abS,λ_ z=>nomatch z⟩
inductive RVL(K:Frag)(F H:Hp)(σ:St):List V->List RV->List Addr->Prop where
 |nil:RVL K F H σ [] [] []
 |cons {v:V} {r:RV} {vs:List V} {rs:List RV} {A B:List Addr}:RV1 K F H σ v r A->RVL K F H σ vs rs B->RVL K F H σ (v::vs) (r::rs) (A++B)
section
variable {K:Frag}    
theorem RV1.keep(h:RV1 K F H σ v r B)(e:Same F F')(k:∀a u,a∈B->H a=some u->H' a=some u):RV1 K F' H' σ v r B:=by
 cases r with
 |ov o=>exact Ow.keep e h k
 |br i=>exact h
theorem RV1.live(h:RV1 K F H σ v r B):∀b∈B,∃u,H b=some u:=by
 cases r with
 |ov o=>exact Ow.live h
 |br i=>intro b a;rw[h.2] at a;cases a
theorem RV1.nt(h:RV1 K F H σ v r B):NT H B:=by
 cases r with
 |ov o=>exact Ow.nt h
 |br i=>intro b a;rw[h.2] at a;cases a
theorem RVL.keep(e:Same F F'){v:List V}{r:List RV}(h:RVL K F H σ v r B)(k:∀a u,a∈B->H a=some u->H' a=some u):RVL K F' H' σ v r B:=by
 induction h with
 |nil=>exact .nil
 |cons h t c=>exact .cons (h.keep e λa u b=>k a u (aav _ b)) (c λa u b=>k a u (aal _ b))
theorem mix(B:List Addr)(H Z:Hp):∃G:Hp,(∀b,b∈B->G b=H b)/\∀b,b∉B->G b=Z b:=by
 classical
 exact⟨λb=>if b∈B then H b else Z b,λb a=>if_pos a,λb a=>if_neg a⟩
theorem Rel.hold(R:Rel K F Z H σ ρ A)(live:∀b∈B,∃u,H b=some u)(nt:NT H B)(f:Fresh F Z A B):∃i,Same Z i/\Rel K F i H σ ρ A/\(∀b∈B,∃u,i b=some u) /\
  ∀l H2 g m,Same F l->Rel K l i H2 σ g m->Rel K l Z H2 σ g m/\Fresh l Z m B/\∀b u,b∈B->H b=some u->H2 b=some u:=by
 obtain⟨i,e,d⟩:=mix B H Z;refine⟨i,λb o h=>?_,⟨R.sl,R.nd,λa k=>⟨(R.fr a k).1,?_⟩,R.fh,⟨λb o h=>?_,λb xs h=>?_⟩,λa o h=>?_⟩,λb c=>?_,λl H2 g m n R2=>?_⟩
 ·rw[d b λc=>by rw[(f.fr b c).2.1] at h;cases h];exact h
 ·rw[d a λc=>(f.fr a c).2.2 k];exact(R.fr a k).2
 ·by_cases c:b∈B
  ·rw[e b c] at h;exact h
  ·rw[d b c] at h;exact R.zh.s b o h
 ·by_cases c:b∈B
  ·rw[e b c] at h;exact nt b c xs h
  ·rw[d b c] at h;exact R.zh.n b xs h
 ·rw[d a λc=>by rw[(f.fr a c).1] at h;cases h];exact R.dj a o h
 ·obtain⟨u,j⟩:=live b c;exact⟨u,by rw[e b c];exact j⟩
 ·have sz:Same Z i:=λb o h=>by
   rw[d b λc=>by rw[(f.fr b c).2.1] at h;cases h];exact h
  refine⟨⟨R2.sl,R2.nd,λa k=>⟨(R2.fr a k).1,sz.free (R2.fr a k).2⟩,R2.fh,R2.zh.back sz,λa o h=>sz.free (R2.dj a o h)⟩,⟨f.nd,λb c=>?_⟩,λb u c j=>?_⟩
  ·obtain⟨u,j⟩:=live b c;refine⟨?_,(f.fr b c).2.1,λh=>?_⟩
   ·cases q:l b with
    |none=>rfl
    | some w=>
     have:=R2.dj b w q;rw[e b c,j] at this;cases this
   ·have:=(R2.fr b h).2;rw[e b c,j] at this;cases this
  ·exact R2.zh.s b u (by rw[e b c];exact j)
structure Pure(F H F' H':Hp):Prop where
 ff:Same F F'
 hh:Same H H'
 fh:Same F' H'
 nw:∀a o,F' a=some o->F a=none->H a=none
theorem Pure.refl(e:Same F H):Pure F H F H:=⟨Same.refl _,Same.refl _,e,λa o h n=>by rw[n] at h;cases h⟩
theorem Pure.new{o:HO}(e:Same F H)(b:H p=none):Pure F H F (upd H p o):=⟨Same.refl _,bp b,e.trans (bp b),λa o h n=>by rw[n] at h;cases h⟩
theorem Pure.frz{p:Addr}{o:HO}(e:Same F H)(d:H p=none):Pure F H (upd F p o) (upd H p o):=by
 have f:F p=none:=e.free d;refine⟨bp f,bp d,λb u h=>?_,λa u h n=>?_⟩
 ·by_cases c:b=p
  ·subst c;rw[af] at h ⊢;exact h
  ·rw[aj c] at h ⊢;exact e b u h
 ·by_cases c:a=p
  ·subst c;exact d
  ·rw[aj c,n] at h;cases h
theorem Pure.trans{d H1 H2:Hp}(a:Pure F H F1 H1)(b:Pure F1 H1 d H2):Pure F H d H2:=⟨a.ff.trans b.ff,a.hh.trans b.hh,b.fh,λc o h n=>by
 cases q:F1 c with
 |none=>exact a.hh.free (b.nw c o h q)
 |some u=>exact a.nw c u q n⟩
theorem Rel.step(R:Rel K F Z H σ ρ A)(p:Pure F H F' H'):Rel K F' Z H' σ ρ A:=by
 refine⟨R.sl.keep p.ff λa u _ h=>p.hh a u h,R.nd,λa b=>⟨?_,(R.fr a b).2⟩,p.fh,R.zh.trans p.hh,λa o h=>?_⟩
 ·cases q:F' a with
  |none=>rfl
  | some o=>
   have:=p.nw a o q (R.fr a b).1;obtain⟨u,c⟩:=R.sl.live a b;rw[c] at this;cases this
 ·cases q:F a with
  |none=>exact R.zh.free (p.nw a o h q)
  |some u=>exact R.dj a u q
structure New(H F':Hp)(B:List Addr):Prop where
 nd:B.Nodup
 fr:∀b∈B,H b=none/\F' b=none
theorem New.nil:New H F' []:=⟨abS,λ_ z=>nomatch z⟩
theorem New.one(h:H p=none)(f:F' p=none):New H F' [p]:=⟨by simp,λb a=>by
 have:b=p:=(by exists a);rw[this];exact⟨h,f⟩⟩
theorem Rel.fresh(R:Rel K F Z H σ ρ A)(n:New H F' B):Fresh F' Z A B:=⟨n.nd,λb a=>⟨(n.fr b a).2,R.zh.free (n.fr b a).1,λd=>by
 obtain⟨u,c⟩:=R.sl.live b d;rw[(n.fr b a).1] at c;cases c⟩⟩
def K4:RV->FSt->Option (D×FSt)
 | .ov o,ρ=>match F9 o with
  |some d=>some (d,ρ)
  |none=>none
 | .br i,ρ=>match ρ[i]? with
  | some (some o)=>match F9 o with
   |some d=>some (d,ρ.set i (some (.fz d)))
   |none=>none
  |_=>none
def fzR:RV->FSt->Option (D×FSt)
 |.ov (.fz d),ρ=>some (d,ρ)
 |.ov (.fl ds),ρ=>some (.lst ds,ρ)
 |.ov (.fd ks ds),ρ=>some (.dct ks ds,ρ)
 |.ov (.ft ks ds),ρ=>some (.dt ks ds,ρ)
 |.ov (.ot ps),ρ=>some (.tup (ps.map iD),ρ)
 |.ov _,_=>none
 | .br i,ρ=>match ρ[i]? with
  |some (some (.fz d))=>some (d,ρ)
  |some (some (.fl ds))=>some (.lst ds,ρ.set i (some (.fz (.lst ds))))
  |some (some (.fd ks ds))=>some (.dct ks ds,ρ.set i (some (.fz (.dct ks ds))))
  |some (some (.ft ks ds))=>some (.dt ks ds,ρ.set i (some (.fz (.dt ks ds))))
  |some (some (.ot ps))=>some (.tup (ps.map iD),ρ.set i (some (.fz (.tup (ps.map iD)))))
  |_=>none
theorem HR{x:Option OV}(h:ρ[i]?=some x):ρ.set i x=ρ:=by
 apply List.ext_getElem?;intro j;by_cases a:i=j
 ·subst a;rw[h,List.getElem?_set_self (List.getElem?_eq_some_iff.mp h).1]
 ·rw[List.getElem?_set_ne a]
theorem HS(r:RV)(ρ:FSt):fzR r ρ=K4 r ρ:=by
 cases r with
 |ov o=>cases o <;> rfl
 | br i=>
  simp only[fzR,K4]
  cases e:ρ[i]? with
  |none=>rfl
  | some x=>
   cases x with
   |none=>rfl
   | some o=>
    cases o with
    |fz d=>simp only[F9];rw[HR e]
    |_=>rfl
def fzL:List RV->FSt->Option (List D×FSt)
 |[],ρ=>some ([],ρ)
 | r::c,ρ=>match fzR r ρ with
  | some (d,b)=>match fzL c b with
   |some (ds,a)=>some (d::ds,a)
   |none=>none
  |none=>none
theorem Rel.grow(R:Rel K F Z H σ ρ A)(live:∀b∈B,∃u,H b=some u)(f:∀b∈B,F b=none/\Z b=none/\b∉A):∃F',Same F F'/\Rel K F' Z H σ ρ A/\(∀a u,a∈B->H a=some u->F' a=some u)/\∀a o,F' a=some o->F a=none->a∈B:=by
 obtain⟨G,e,c⟩:=mix B H F
 have s:Same F G:=λb o h=>by
  rw[c b λd=>by rw[(f b d).1] at h;cases h];exact h
 refine⟨G,s,⟨R.sl.keep s λ_ _ _ h=>h,R.nd,λa g=>⟨?_,(R.fr a g).2⟩,λb o h=>?_,R.zh,λa o h=>?_⟩,λa u g h=>?_,λa o h n=>?_⟩
 ·rw[c a λd=>(f a d).2.2 g];exact(R.fr a g).1
 ·by_cases d:b∈B
  ·rw[e b d] at h;exact h
  ·rw[c b d] at h;exact R.fh b o h
 ·by_cases d:a∈B
  ·exact(f a d).2.1
  ·rw[c a d] at h;exact R.dj a o h
 ·rw[e a g];exact h
 ·by_cases d:a∈B
  ·exact d
  ·rw[c a d,n] at h;cases h
theorem a8{C:List Addr}(h:A.Perm (B++C))(n:A.Nodup):B.Nodup/\C.Nodup/\(∀b∈B,b∉C):=by
 have:=h.nodup_iff.mp n;rw[abP] at this;exact⟨this.1,this.2.1,λb c a=>this.2.2 b c b a rfl⟩
theorem Rel.takeI(R:Rel K F Z H σ ρ A)(e:ρ[i]?=some (some o)):∃v B A',σ[i]?=some (some v)/\Ow K F H v o B/\Rel K F Z H σ (ρ.set i none) A'/\Fresh F Z A' B/\A.Perm (B++A'):=by
 obtain⟨v,B,A',h1,h2,d,j⟩:=R.sl.take e;obtain⟨n1,n2,n3⟩:=a8 d R.nd;have mA:∀a∈A',a∈A:=λa c=>d.mem_iff.mpr (abE.mpr (.inr c));have g:∀a∈B,a∈A:=λa c=>d.mem_iff.mpr (abE.mpr (.inl c));exact⟨v,B,A',h1,h2,⟨j,n2,λa c=>R.fr a (mA a c),R.fh,R.zh,R.dj⟩,⟨n1,λb f=>⟨(R.fr b (g b f)).1,(R.fr b (g b f)).2,n3 b f⟩⟩,d⟩
theorem eY(e:ρ[i]?=some (some o)):(ρ.set i none)[i]?=some none:=by
 have hi:i<ρ.length:=(List.getElem?_eq_some_iff.mp e).1;simp[hi]
theorem Rel.putI(R:Rel K F Z H σ ρ A)(e:ρ[i]?=some none)(d:σ[i]?=some (some v))(h:Ow K F H v o B)(f:Fresh F Z A B):∃A',Rel K F Z H σ (ρ.set i (some o)) A'/\A'.Perm (B++A):=by
 obtain⟨A',h1,h2⟩:=R.sl.put e d h;refine⟨A',⟨h2,h1.nodup_iff.mpr ?_,λa c=>?_,R.fh,R.zh,R.dj⟩,h1⟩
 ·exact abP.mpr ⟨f.nd,R.nd,λa c b g z=>(f.fr a c).2.2 (z ▸ g)⟩
 ·rcases abE.mp (h1.mem_iff.mp c) with q|q
  ·exact⟨(f.fr a q).1,(f.fr a q).2.1⟩
  ·exact R.fr a q
theorem Rel.frz{v:V}{r:RV}{B:List Addr}{d:D}{b:FSt}(R:Rel K F Z H σ ρ A)(h:RV1 K F H σ v r B)(f:Fresh F Z A B)(e:fzR r ρ=some (d,b)) :
  ∃F' A',Same F F'/\Rel K F' Z H σ b A'/\Den K F' v d/\(∀a o,F' a=some o->F a=none->a∈A∨a∈B)/\∀a∈A',a∈A:=by
 rw[HS] at e
 cases r with
 | ov o=>
  simp only[K4] at e
  cases hs:F9 o with
  |none=>rw [hs] at e;cases e
  | some u=>
   rw[hs] at e;cases e;obtain⟨F',s,c,k,n⟩:=R.grow (Ow.live h) f.fr;exact⟨F',A,s,c,Ow.freeze s h k hs,λa o h1 h2=>.inr (n a o h1 h2),λ_ z=>z⟩
 | br i=>
  simp only[K4] at e;split at e
  ·rename_i o g
   cases hs:F9 o with
   |none=>rw[hs] at e;cases e
   | some u=>
    rw[hs] at e;cases e;obtain⟨l,x,A',h1,h2,c,t,pm⟩:=R.takeI g;have p:l=v:=aaj (aaj (h1.symm.trans h.1));subst p;obtain⟨F',s,R2,k,n⟩:=c.grow (Ow.live h2) t.fr;have dn:=Ow.freeze s h2 k hs;obtain⟨w,j,m⟩:=R2.putI (eY g) h1 (.fz dn) Fresh.nil;rw[abx] at j;refine⟨F',w,s,j,dn,λa o h1 h2=>.inl (pm.mem_iff.mpr (abE.mpr (.inl (n a o h1 h2)))),λa q=>?_⟩;have:=m.mem_iff.mp q;exact pm.mem_iff.mpr (abE.mpr (.inr (by exists this)))
  ·cases e
theorem Rel.frzL:∀{c:List RV} {vs:List V} {B:List Addr} {ds:List D} {ρ a:FSt} {F:Hp} {A:List Addr},Rel K F Z H σ ρ A->RVL K F H σ vs c B->Fresh F Z A B->fzL c ρ=some (ds,a) ->
  ∃F' A',Same F F'/\Rel K F' Z H σ a A'/\Dens K F' vs ds:=by
 intro c
 induction c with
 | nil=>
  intro vs B ds ρ a F A R h f e;simp only[fzL,Option.some.injEq,Prod.mk.injEq] at e;obtain⟨rfl,rfl⟩:=e;cases h;exact⟨F,A,Same.refl _,R,.nil⟩
 | cons r c o=>
  intro vs B ds ρ a F A R h f e
  cases h with
  | @cons v _ vs _ G B2 h t=>
   simp only[fzL] at e;split at e
   ·rename_i d l s;split at e
    ·rename_i w k p;simp only[Option.some.injEq,Prod.mk.injEq] at e;obtain⟨rfl,rfl⟩:=e;obtain⟨n1,n2,n3⟩:=a8 (aaE (G++B2)) f.nd;obtain⟨F1,J,j,C,y,m,n⟩:=R.frz h ⟨n1,λb g=>f.fr b (abE.mpr (.inl g))⟩ s
     obtain⟨E,I,i,R2,x⟩:=o C (t.keep j λ_ _ _ z=>z) ⟨n2,λb g=>by
      have fb:=f.fr b (abE.mpr (.inr g));refine⟨?_,fb.2.1,λz=>fb.2.2 (n b z)⟩
      cases q:F1 b with
      |none=>rfl
      | some u=>
       rcases m b u q fb.1 with z|z
       ·exact absurd z fb.2.2
       ·exact absurd g (n3 b z)⟩ p
     exact⟨E,I,j.trans i,R2,.cons (y.mono i) x⟩
    ·cases e
   ·cases e
def look(ρ:FSt):RV->Option OV
 |.ov o=>some o
 | .br i=>match ρ[i]? with
  |some (some o)=>some o
  |_=>none
def ji(ρ:FSt):RV->Option D
 |.ov o=>flat o
 | .br i=>match ρ[i]? with
  |some (some o)=>flat o
  |_=>none
def jA(ρ:FSt):List RV->Option (List D)
 |[]=>some []
 | r::a=>match ji ρ r with
  | some d=>match jA ρ a with
   |some ds=>some (d::ds)
   |none=>none
  |none=>none
theorem Rel.acc(R:Rel K F Z H σ ρ A)(h:RV1 K F H σ v r B)(e:ji ρ r=some d):Acc K F H v d:=by
 cases r with
 |ov o=>exact Ow.acc h e
 | br i=>
  simp only[ji] at e;split at e
  ·rename_i o c;obtain⟨a,f,A',h1,h2,_⟩:=R.takeI c;have b:a=v:=aaj (aaj (h1.symm.trans h.1));subst b;exact h2.acc e
  ·cases e
inductive Accs(K:Frag)(F H:Hp):List V->List D->Prop where
 |nil:Accs K F H [] []
 |cons {v:V} {d:D} {vs:List V} {ds:List D}:Acc K F H v d->Accs K F H vs ds->Accs K F H (v::vs) (d::ds)
theorem Rel.accs{a:List RV}(R:Rel K F Z H σ ρ A)(h:RVL K F H σ vs a B)(e:jA ρ a=some ds):Accs K F H vs ds:=by
 induction h generalizing ds with
 |nil=>cases e;exact .nil
 | @cons v r vs a A B h t f=>
  unfold jA at e
  cases b:ji ρ r with
  |none=>rw [b] at e;cases e
  | some d=>
   cases c:jA ρ a with
   |none=>rw[b,c] at e;cases e
   | some g=>
    rw[b,c] at e;cases e;exact .cons (R.acc h b) (f c)
end
abbrev FE:=FSt->(RV->FSt->Prop)->Prop
variable{fa fe fk:FE}
abbrev FT:=FSt->(Bool->FSt->Prop)->Prop
variable{fc ft:FT}
abbrev FA:=FSt->(List RV->FSt->Prop)->Prop
abbrev FO:=FSt->(Option Int->FSt->Prop)->Prop
def View(μ:List Nat)(a σ:St):Prop:=∀j i:Nat,μ[j]?=some i->a[j]?=σ[i]?/\j<a.length/\i<σ.length
theorem View.id(a:σ.length=n):View (List.range n) σ σ:=λj i h=>by
 rw[List.getElem?_eq_some_iff] at h;obtain⟨h1,h2⟩:=h;rw[List.getElem_range] at h2;rw[abT] at h1;subst h2;exact⟨rfl,by nofun,by nofun⟩
structure EF(K:Frag)(μ:List Nat)(t:TE)(f:FE):Prop where
 h:∀{F Z H:Hp} {τ σ:St} {ρ:FSt} {A:List Addr} {Q:VK} {P:RV->FSt->Prop},View μ τ σ->Rel K F Z H σ ρ A->f ρ P ->
  (∀r ρ' v F' H' A' B,P r ρ'->Same F F'->Rel K F' Z H' σ ρ' A'->RV1 K F' H' σ v r B->Fresh F' Z A' B->Q v H')->t τ H Q
structure TF(K:Frag)(μ:List Nat)(t:TT)(f:FT):Prop where
 h:∀{F Z H:Hp} {τ σ:St} {ρ:FSt} {A:List Addr} {Q:Bool->Hp->Prop} {P:Bool->FSt->Prop},View μ τ σ->Rel K F Z H σ ρ A->f ρ P ->
  (∀b ρ' F' H' A',P b ρ'->Same F F'->Rel K F' Z H' σ ρ' A'->Q b H')->t τ H Q
structure AF(K:Frag)(μ:List Nat)(t:TA)(f:FA):Prop where
 h:∀{F Z H:Hp} {τ σ:St} {ρ:FSt} {A:List Addr} {Q:List V->Hp->Prop} {P:List RV->FSt->Prop},View μ τ σ->Rel K F Z H σ ρ A->f ρ P ->
  (∀rs ρ' vs F' H' A' B,P rs ρ'->Same F F'->Rel K F' Z H' σ ρ' A'->RVL K F' H' σ vs rs B->Fresh F' Z A' B->Q vs H')->t τ H Q
structure OF(K:Frag)(μ:List Nat)(t:TO)(f:FO):Prop where
 h:∀{F Z H:Hp} {τ σ:St} {ρ:FSt} {A:List Addr} {Q:Option Int->Hp->Prop} {P:Option Int->FSt->Prop},View μ τ σ->Rel K F Z H σ ρ A->f ρ P ->
  (∀x ρ' F' H' A',P x ρ'->Same F F'->Rel K F' Z H' σ ρ' A'->Q x H')->t τ H Q
def Di(K:Frag)(F H:Hp)(P:OV->Prop)(Q:VK):Prop:=∀o v F' H' B,P o->Pure F H F' H'->Ow K F' H' v o B->New H F' B->Q v H'
structure OpF(K:Frag)(r:R2)(f:D->D->(OV->Prop)->Prop):Prop where
 h:∀{F H:Hp} {x y:V} {d e:D} {Q:VK} {P:OV->Prop},Same F H->Acc K F H x d->Acc K F H y e->f d e P->Di K F H P Q->r x y H Q
structure CallF(K:Frag)(r:List V->Hp->VK->Prop)(f:List D->(OV->Prop)->Prop):Prop where
 h:∀{F H:Hp} {xs:List V} {ds:List D} {Q:VK} {P:OV->Prop},Same F H->Accs K F H xs ds->f ds P->Di K F H P Q->r xs H Q
structure SlF(K:Frag)(r:V->Option Int->Option Int->Hp->VK->Prop)(f:D->Option Int->Option Int->(OV->Prop)->Prop):Prop where
 h:∀{F H:Hp} {x:V} {d:D} {lo hi:Option Int} {Q:VK} {P:OV->Prop},Same F H->Acc K F H x d->f d lo hi P->Di K F H P Q->r x lo hi H Q
@[irreducible] def br(b:Bool)(A B:Prop):Prop:=if b=true then A else B
theorem c9{A B:Prop}(h:A):br true A B:=by unfold br;exact h
theorem dI{A B:Prop}(h:B):br false A B:=by unfold br;exact h
theorem xt{A B:Prop}(h:br true A B):A:=by unfold br at h;exact h
theorem xu{A B:Prop}(h:br false A B):B:=by unfold br at h;exact h
theorem am{b:Bool}{A B:Prop}(c:Prop)(e:b=true↔c)(h1:c->A)(h2:¬c->B):br b A B:=by
 cases b with
 |true=>exact c9 (h1 (e.mp rfl))
 |false=>exact dI (h2 λz=>nomatch e.mpr z)
def ab(i:Nat):FE:=λρ Q=>match ρ[i]? with
 |some (some (.fz d))=>Q (.ov (.fz d)) ρ
 |some (some _)=>Q (.br i) ρ
 |_=>False
def fC(d:D):FE:=λρ Q=>Q (.ov (.fz d)) ρ
def on2(ρ:FSt)(r s:RV)(k:D->D->Prop):Prop:=match ji ρ r with
 | some d=>match ji ρ s with
  |some e=>k d e
  |none=>False
 |none=>False
def on1(ρ:FSt)(r:RV)(k:D->Prop):Prop:=match ji ρ r with
 |some d=>k d
 |none=>False
def onL(ρ:FSt)(a:List RV)(k:List D->Prop):Prop:=match jA ρ a with
 |some d=>k d
 |none=>False
def onB(d:D)(k:Bool->Prop):Prop:=match d with
 |.bl b=>k b
 |_=>False
def fOp(f:D->D->(OV->Prop)->Prop)(fa fb:FE):FE:=λρ Q=>fa ρ λr b=>fb b λs a=>on2 a r s λd e=>f d e λo=>Q (.ov o) a
def jj(fa fb:FE):FE:=λρ Q=>fa ρ λr a=>on1 a r λd=>onB d λc=>br c (fb a Q) (Q (.ov (.fz (.bl false))) a)
def Dj(fa:FE):FE:=λρ Q=>fa ρ λr a=>on1 a r λd=>onB d λc=>Q (.ov (.fz (.bl (!c)))) a
def K5(fc:FT)(fa fb:FE):FE:=λρ Q=>fc ρ λb a=>br b (fa a Q) (fb a Q)
def jB(f g:D->D->(OV->Prop)->Prop)(fa fb fc:FE):FE:=λρ Q=>fa ρ λr c=>fb c λs a=>on2 a r s λd e=>f d e λo=>match o with
 |.fz (.bl k)=>br k (fc a λt b=>on2 b s t λj i=>g j i λo=>Q (.ov o) b) (Q (.ov (.fz (.bl false))) a)
 |_=>False
def au(fa:FE):FT:=λρ Q=>fa ρ λr a=>on1 a r λd=>onB d λc=>Q c a
def mE(ft:FT):FT:=λρ Q=>ft ρ λc a=>Q (!c) a
def v7(fa fb:FT):FT:=λρ Q=>fa ρ λc a=>br c (fb a Q) (Q false a)
def fOr(fa fb:FT):FT:=λρ Q=>fa ρ λc a=>br c (Q true a) (fb a Q)
def v8:D->Option Bool
 |.non=>some false
 |.bl b=>some b
 |.int i=>some (i != 0)
 |.str y=>if y.length<=sizeLine then some ((y.length:Int) != 0) else none
 |.lst xs=>some (!xs.isEmpty)
 |.tup xs=>some (!xs.isEmpty)
 |.dct _ _=>none
 |.ty _=>none
 |.opq _ _=>none
 |.gt _=>none
 |.dt _ _=>none
def HU(fa:FE):FT:=λρ Q=>fa ρ λr a=>on1 a r λd=>match v8 d with
 |some k=>Q k a
 |none=>False
def jC:FT:=λρ Q=>Q true ρ
def ae:FA:=λρ Q=>Q [] ρ
def aa(fa:FE)(fr:FA):FA:=λρ Q=>fa ρ λr b=>fr b λc a=>Q (r::c) a
def fCB(f:List D->(OV->Prop)->Prop)(fa:FA):FE:=λρ Q=>fa ρ λb a=>onL a b λds=>f ds λo=>Q (.ov o) a
def hV(fa:FA):FE:=λρ Q=>fa ρ λc b=>match fzL c b with
 |some (ds,a)=>ds.length<=sizeLine/\Q (.ov (.fl ds)) a
 |none=>False
def c6(fa:FA):FE:=λρ Q=>fa ρ λc b=>match fzL c b with
 |some (ds,a)=>ds.length<=sizeLine/\Q (.ov (.fz (.tup ds))) a
 |none=>False
def bM:FO:=λρ Q=>Q none ρ
def dJ(fa:FE):FO:=λρ Q=>fa ρ λr a=>on1 a r λd=>match d with
 |.int i=>Q (some i) a
 |_=>False
def fSl(f:D->Option Int->Option Int->(OV->Prop)->Prop)(fe:FE)(fl fh:FO):FE:=λρ Q=>fe ρ λr c=>fl c λlo b=>fh b λhi a=>on1 a r λd=>f d lo hi λo=>Q (.ov o) a
def xv:FE:=λρ Q=>Q (.ov (.fd [] [])) ρ
section
variable {K:Frag} 
theorem bX{k:D->Prop}(h:on1 ρ r k):∃d,ji ρ r=some d/\k d:=by
 unfold on1 at h;split at h
 ·exact⟨_,by assumption,h⟩
 ·exact h.elim
theorem nW{s:RV}{k:D->D->Prop}(h:on2 ρ r s k):∃d e,ji ρ r=some d/\ji ρ s=some e/\k d e:=by
 unfold on2 at h;split at h
 ·split at h
  ·exact⟨_,_,by assumption,by assumption,h⟩
  ·exact h.elim
 ·exact h.elim
theorem sY{r:List RV}{k:List D->Prop}(h:onL ρ r k):∃d,jA ρ r=some d/\k d:=by
 unfold onL at h;split at h
 ·exact⟨_,by assumption,h⟩
 ·exact h.elim
theorem sZ{k:Bool->Prop}(h:onB d k):∃b,d=.bl b/\k b:=by
 unfold onB at h;split at h
 ·exact⟨_,rfl,h⟩
 ·exact h.elim
theorem tf(b:μ[j]?=some i):EF K μ (ei j) (ab i):=⟨by
 intro F Z H c σ ρ A Q P a R h q;unfold ab at h;generalize e:ρ[i]?=o at h
 cases o with
 |none=>exact False.elim h
 | some o=>
  cases o with
  |none=>exact False.elim h
  | some o=>
   obtain⟨v,B,A',h1,h2,k,g,f⟩:=R.takeI e;refine⟨v,(a j i b).1.trans h1,?_⟩
   cases o with
   | fz d=>
    cases h2 with
    |fz dn=>exact q _ _ v F H A [] h (Same.refl _) R (.fz dn) Fresh.nil
   |_=>exact q _ _ v F H A [] h (Same.refl _) R ⟨h1,rfl⟩ Fresh.nil⟩
theorem HV(hd:∀F,Den K F v d):EF K μ (tC v) (fC d):=⟨fun {F Z H a σ ρ A Q P} b R h q=>q _ _ v F H A [] h (Same.refl _) R (.fz (hd F)) Fresh.nil⟩
theorem HW{i:Int}:EF K μ (tC (.int i)) (fC (.int i)):=HV λ_=>.int i
theorem HX{i:Str}:EF K μ (tC (.str i)) (fC (.str i)):=HV λ_=>.str i
theorem LX{i:Bool}:EF K μ (tC (.bl i)) (fC (.bl i)):=HV λ_=>.bl i
theorem HY:EF K μ (tC .non) (fC .non):=HV λ_=>.non
theorem LY{T:String}:EF K μ (tC (.ty T)) (fC (.ty T)):=HV λ_=>.ty T
theorem Rel.after(R:Rel K F Z H σ ρ A)(q:∀o v F' H' B,P o->Same F F'->Rel K F' Z H' σ ρ A->Ow K F' H' v o B->Fresh F' Z A B->Q v H'):Di K F H P Q:=
 λo v F' H' B p a b nw=>q o v F' H' B p a.ff (R.step a) b (R.fresh nw)
theorem LZ{r:R2}{fb:FE}(t:OpF K r f)(w:EF K μ ta fa)(u:EF K μ tb fb):EF K μ (tOp r ta tb) (fOp f fa fb):=⟨by
 intro F Z H J σ ρ A Q P g R h q;refine w.h g R h λN j x F1 H1 Y W h1 m I v1 f1=>?_;obtain⟨O,sz,c,L,back⟩:=I.hold v1.live v1.nt f1;refine u.h g c h1 λM i y U H2 X V h2 b R2 k f2=>?_;obtain⟨a,C,s⟩:=back _ _ _ _ b R2;obtain⟨d,e,E,D,z⟩:=nW h2;refine t.h a.fh (a.acc (v1.keep b s) E) (a.acc k D) z (a.after λo v T S B p l G n fr=>q _ _ _ _ _ _ _ p ((m.trans b).trans l) G n fr)⟩
theorem Dk{fb:FE}(l:EF K μ ta fa)(k:EF K μ tb fb):EF K μ (Bs ta tb) (jj fa fb):=⟨by
 intro F Z H n σ ρ A Q P b R h q;refine l.h b R h λp i x F1 H1 v t h1 e a v1 f1=>?_;obtain⟨d,m,h2⟩:=bX h1;obtain⟨c,rfl,f⟩:=sZ h2;refine⟨c,(a.acc v1 m).bl_eq,?_⟩
 cases c with
 |true=>exact k.h b a (xt f) λo g y r H2 u s h2 j=>q _ _ _ _ _ _ _ h2 (e.trans j)
 |false=>exact q _ _ _ _ _ _ _ (xu f) e a (.fz (.bl false)) Fresh.nil⟩
theorem Dl(g:EF K μ ta fa):EF K μ (Bt ta) (Dj fa):=⟨by
 intro F Z H k σ ρ A Q P e R h q;refine g.h e R h λl b x F1 H1 n m h1 f a v1 f1=>?_;obtain⟨d,j,h2⟩:=bX h1;obtain⟨c,rfl,i⟩:=sZ h2;exact⟨c,(a.acc v1 j).bl_eq,q _ _ _ _ _ _ _ i f a (.fz (.bl _)) Fresh.nil⟩⟩
theorem L0{fb:FE}(j:TF K μ tc fc)(l:EF K μ ta fa)(k:EF K μ tb fb):EF K μ (tIf tc ta tb) (K5 fc fa fb):=⟨by
 intro F Z H p σ ρ A Q P c R h q;refine j.h c R h λb g F1 H1 r h1 e f=>?_
 cases b with
 |true=>exact l.h c f (xt h1) λi a y m H2 o n h2 d=>q _ _ _ _ _ _ _ h2 (e.trans d)
 |false=>exact k.h c f (xu h1) λi a y m H2 o n h2 d=>q _ _ _ _ _ _ _ h2 (e.trans d)⟩
theorem xw{r r':R2}{T:D->D->(OV->Prop)->Prop}{tc:TE}{fb fc:FE}(ho:OpF K r f)(I:OpF K r' T)(ha:EF K μ ta fa)(c:EF K μ tb fb)(hc:EF K μ tc fc):EF K μ (k6 r r' ta tb tc) (jB f T fa fb fc):=⟨by
 intro F Z H τ σ ρ A Q P s R h q;refine ha.h s R h λr1 ρ1 x F1 H1 A1 B1 h1 O R1 v1 f1=>?_;obtain⟨Z',sz,N,zl,back⟩:=R1.hold v1.live v1.nt f1;refine c.h s N h1 λr2 ρ2 y F2 H2 X W h2 n R2 C f2=>?_;obtain⟨i,f1',k1⟩:=back _ _ _ _ n R2;obtain⟨d,e,e1,e2,h3⟩:=nW h2;have j:Fresh F2 Z X W:=⟨f2.nd,λb c=>⟨(f2.fr b c).1,sz.free (f2.fr b c).2.1,(f2.fr b c).2.2⟩⟩;refine ho.h i.fh (i.acc (v1.keep n k1) e1) (i.acc C e2) h3 λo v V H3 B p m G nw=>?_;have U:=i.step m
 have f3:Fresh V Z X W:=⟨j.nd,λb c=>⟨(by
  cases z:V b with
  |none=>rfl
  | some u=>
   obtain⟨w,S⟩:=C.live b c;rw[m.nw b u z (j.fr b c).1] at S;exact nomatch S),(j.fr b c).2⟩⟩
 have t:=C.keep m.ff λa u _ z=>m.hh a u z;split at p
 ·rename_i k
  cases G with
  | fz dn=>
   refine⟨k,dn.bl_eq,?_⟩
   cases k with
   |false=>exact q _ _ _ _ _ _ _ (xu p) ((O.trans n).trans m.ff) U (.fz (.bl false)) Fresh.nil
   | true=>
    obtain⟨Z2,sz2,M,zl2,l⟩:=U.hold t.live t.nt f3;refine hc.h s M (xt p) λr4 Y w F4 H4 A4 B4 h4 E R4 v4 f4=>?_;obtain⟨g,f4',k4⟩:=l _ _ _ _ E R4;obtain⟨d',e',L,J,h5⟩:=nW h4;exact I.h g.fh (g.acc (t.keep E k4) L) (g.acc v4 J) h5 (g.after λo v F5 H5 B p s5 R5 G fr=>q _ _ _ _ _ _ _ p ((((O.trans n).trans m.ff).trans E).trans s5) R5 G fr)
 ·exact p.elim⟩
theorem tj(g:EF K μ ta fa):TF K μ (rG ta) (au fa):=⟨by
 intro F Z H k σ ρ A Q P e R h q;refine g.h e R h λl b x F1 H1 n m h1 f a v1 f1=>?_;obtain⟨d,j,h2⟩:=bX h1;obtain⟨c,rfl,i⟩:=sZ h2;exact⟨c,(a.acc v1 j).bl_eq,q _ _ _ _ _ i f a⟩⟩
theorem HZ{t:TT}{f:FT}(h:TF K μ t f):TF K μ (Lf t) (mE f):=⟨fun {F Z H d σ ρ A Q P} c R p q=>h.h c R p λb a F1 H1 e h1=>q _ _ _ _ _ h1⟩
theorem H0{t:TT}{f g:FT}(h:TF K μ t f)(h':TF K μ u g):TF K μ (Le t u) (v7 f g):=⟨fun {F Z H k σ ρ A Q P} a R p q=>h.h a R p λb i F1 H1 n h1 c d=>by
 cases b with
 |true=>exact h'.h a d (xt h1) λb e l H2 m h2 j=>q _ _ _ _ _ h2 (c.trans j)
 |false=>exact q _ _ _ _ _ (xu h1) c d⟩
theorem L1{t:TT}{f g:FT}(h:TF K μ t f)(h':TF K μ u g):TF K μ (tOr t u) (fOr f g):=⟨fun {F Z H k σ ρ A Q P} a R p q=>h.h a R p λb i F1 H1 n h1 c d=>by
 cases b with
 |false=>exact h'.h a d (xu h1) λb e l H2 m h2 j=>q _ _ _ _ _ h2 (c.trans j)
 |true=>exact q _ _ _ _ _ (xt h1) c d⟩
theorem Ia:TF K μ LK jC:=⟨fun {F Z H a σ ρ A Q P} b R p q=>q _ _ _ _ _ p (Same.refl _) R⟩
theorem Dm{x:V}{k:Bool}(e:Same F H)(h:Acc K F H x d)(c:v8 d=some k):KN K x H k:=by
 cases d with
 |non=>rw[h.non_eq];exact(aaj c).symm
 |bl b=>rw[h.bl_eq];exact(aaj c).symm
 |int i=>rw[h.int_eq];exact(aaj c).symm
 | str y=>
  rw[h.str_eq];simp only[v8] at c;split at c
  ·exact⟨by assumption,by simpa using c.symm⟩
  ·cases c
 | lst ds=>
  obtain⟨a,xs,rfl,h1,h2⟩:=h.asL e;have:=h2.length;refine .inl ⟨xs,h1,?_⟩;simp only[v8,Option.some.injEq] at c;rw[← c];cases xs <;> cases ds <;> simp at this ⊢
 | tup ds=>
  obtain⟨a,xs,rfl,h1,h2⟩:=h.asT e;have:=h2.length;refine .inr (.inl ⟨xs,h1,?_⟩);simp only[v8,Option.some.injEq] at c;rw[← c];cases xs <;> cases ds <;> simp at this ⊢
 | dct ks ds=>
  simp[v8] at c
 |ty T=>simp[v8] at c
 |opq a n=>simp[v8] at c
 |gt xs=>simp[v8] at c
 |dt ks xs=>simp[v8] at c
theorem Ib(g:EF K μ ta fa):TF K μ (LV K ta) (HU fa):=⟨by
 intro F Z H j σ ρ A Q P c R h q;refine g.h c R h λl b x F1 H1 n m h1 e a v1 f1=>?_;obtain⟨d,i,h2⟩:=bX h1;split at h2
 ·rename_i k f;exact⟨k,Dm a.fh (a.acc v1 i) f,q _ _ _ _ _ h2 e a⟩
 ·exact h2.elim⟩
theorem Ic:AF K μ jc ae:=⟨fun {F Z H a σ ρ A Q P} b R p q=>q _ _ _ _ _ _ _ p (Same.refl _) R .nil Fresh.nil⟩
theorem tp{k:TA}{fr:FA}(f:EF K μ ta fa)(hr:AF K μ k fr):AF K μ (c7 ta k) (aa fa fr):=⟨by
 intro F Z H v σ ρ A Q P j R h q;refine f.h j R h λB n x F1 H1 J G h1 r t v1 f1=>?_;obtain⟨C,sz,i,o,back⟩:=t.hold v1.live v1.nt f1;refine hr.h j i h1 λw m y D H2 I E h2 d R2 p f2=>?_;obtain⟨g,c,s⟩:=back _ _ _ _ d R2;refine q _ _ _ _ _ _ _ h2 (r.trans d) g (.cons (v1.keep d s) p) ⟨abP.mpr ⟨c.nd,f2.nd,λa f b e z=>?_⟩,λb e=>?_⟩
 ·obtain⟨u,l⟩:=o a f;rw[z,(f2.fr b e).2.1] at l;cases l
 ·rcases abE.mp e with z|z
  ·exact c.fr b z
  ·exact⟨(f2.fr b z).1,sz.free (f2.fr b z).2.1,(f2.fr b z).2.2⟩⟩
theorem L3{r:List V->Hp->VK->Prop}{f:List D->(OV->Prop)->Prop}{fa:FA}(i:CallF K r f)(j:AF K μ t fa):EF K μ (tCB r t) (fCB f fa):=⟨by
 intro F Z H m σ ρ A Q P c R h q;refine j.h c R h λn b xs F1 H1 x w h1 e a v1 f1=>?_;obtain⟨ds,k,h2⟩:=sY h1;exact i.h a.fh (a.accs v1 k) h2 (a.after λo v u s B p d l g fr=>q _ _ _ _ _ _ _ p (e.trans d) l g fr)⟩
theorem Ie{fa:FA}(m:AF K μ t fa):EF K μ (KQ t) (hV fa):=⟨by
 intro F Z H s σ ρ A Q P f R h q;refine m.h f R h λu d xs F1 H1 C y h1 j r v1 f1=>?_;split at h1
 ·rename_i ds a e;obtain⟨c,z,i,R2,dn⟩:=r.frzL v1 f1 e;refine⟨by rw[dn.length];exact h1.1,λp b=>?_⟩;have l:c p=none:=R2.fh.free b;exact R2.after (P:=λo=>P (.ov o) a) (λo v x w B p g n k fr=>q _ _ _ _ _ _ _ p ((j.trans i).trans g) n k fr) _ _ c _ [p] h1.2 (Pure.new R2.fh b) (.fl af dn) (New.one b l)
 ·exact h1.elim⟩
theorem Ig{fa:FA}(m:AF K μ t fa):EF K μ (KP t) (c6 fa):=⟨by
 intro F Z H s σ ρ A Q P f R h q;refine m.h f R h λu d xs F1 H1 C y h1 j r v1 f1=>?_;split at h1
 ·rename_i ds a e;obtain⟨c,z,i,R2,dn⟩:=r.frzL v1 f1 e;refine⟨by rw[dn.length];exact h1.1,λp b=>?_⟩;have l:c p=none:=R2.fh.free b;refine R2.after (P:=λo=>P (.ov o) a) (λo v x w B p g n k fr=>q _ _ _ _ _ _ _ p ((j.trans i).trans g) n k fr) _ _ (upd c p (.tup xs)) _ [] h1.2 (Pure.frz R2.fh b) (.fz (.tup af (dn.mono (bp l)))) New.nil
 ·exact h1.elim⟩
theorem Dn:EF K μ rY xv:=⟨by
 intro F Z H f σ ρ A Q P g R h q p a;have d:F p=none:=R.fh.free a;exact R.after (P:=λo=>P (.ov o) ρ) (λo v j i B p b e c fr=>q _ _ _ _ _ _ _ p b e c fr) _ _ F _ [p] h (Pure.new R.fh a) (.fd af rfl .nil) (New.one a d)⟩
theorem Do:OF K μ mM bM:=⟨fun {F Z H a σ ρ A Q P} b R p q=>q _ _ _ _ _ p (Same.refl _) R⟩
theorem Dp(f:EF K μ ta fa):OF K μ (B8 ta) (dJ fa):=⟨by
 intro F Z H j σ ρ A Q P c R h q;refine f.h c R h λk b x F1 H1 m l h1 e a v1 f1=>?_;obtain⟨d,g,h2⟩:=bX h1;split at h2
 ·rename_i i;exact⟨i,(a.acc v1 g).int_eq,q _ _ _ _ _ h2 e a⟩
 ·exact h2.elim⟩
theorem L4{r:V->Option Int->Option Int->Hp->VK->Prop}{f:D->Option Int->Option Int->(OV->Prop)->Prop}{tl th:TO}{fl fh:FO}(hr:SlF K r f)(u:EF K μ te fe)(t:OF K μ tl fl)(hh:OF K μ th fh):EF K μ (tSl r te tl th) (fSl f fe fl fh):=⟨by
 intro F Z H J σ ρ A Q P b R h q;refine u.h b R h λM k x F1 H1 A1 X h1 m I v1 f1=>?_;obtain⟨N,sz,g,L,back⟩:=I.hold v1.live v1.nt f1;refine t.h b g h1 λlo j W H2 A2 h2 e R2=>?_;refine hh.h b R2 h2 λhi i U S Y y c G=>?_;obtain⟨a,z,s⟩:=back _ _ _ _ (e.trans c) G;obtain⟨d,C,w⟩:=bX y;exact hr.h a.fh (a.acc (v1.keep (e.trans c) s) C) w (a.after λo v T O B p l E n fr=>q _ _ _ _ _ _ _ p (((m.trans e).trans c).trans l) E n fr)⟩
end
abbrev Pk:=OV->List OV->Prop
abbrev Ct:=List OV->Pk->Prop
variable{c:Ct}
def takeR:RV->FSt->Option (OV×FSt)
 |.ov o,ρ=>some (o,ρ)
 | .br i,ρ=>match ρ[i]? with
  |some (some o)=>some (o,ρ.set i none)
  |_=>none
def takeL:List RV->FSt->Option (List OV×FSt)
 |[],ρ=>some ([],ρ)
 | r::c,ρ=>match takeR r ρ with
  | some (o,b)=>match takeL c b with
   |some (os,a)=>some (o::os,a)
   |none=>none
  |none=>none
def putL:List RV->List OV->FSt->FSt
 |.br i::a,o::os,ρ=>putL a os (ρ.set i (some o))
 |.ov _::a,_::os,ρ=>putL a os ρ
 |_,_,ρ=>ρ
def spM(K:Frag)(c:Ct):Sp:=λvs H Q _=>∃(F Z:Hp) (os:List OV) (C:List Addr) (P:OV->List OV->Prop),Same F H/\SameN Z H/\(∀a o,F a=some o->Z a=none)/\Ows K F H vs os C/\C.Nodup/\(∀a∈C,F a=none/\Z a=none)/\c os P /\
 ∀o b v F' H' d B,P o b->Same F F'->Same F' H'->Same Z H'->(∀a o,F' a=some o->Z a=none)->Ows K F' H' vs b d->Ow K F' H' v o B->(d++B).Nodup->(∀a∈d++B,F' a=none/\Z a=none)->Q v H'
def ah(c:Ct)(fa:FA):FE:=λρ Q=>fa ρ λe b=>match takeL e b with
 |some (os,a)=>c os λo d=>Q (.ov o) (putL e d a)
 |none=>False
def fFz(fe:FE):FE:=λρ Q=>fe ρ λr b=>match fzR r b with
 |some (d,a)=>Q (.ov (.fz d)) a
 |none=>False
section
variable {K:Frag}     
theorem Rel.takeR{b:FSt}(R:Rel K F Z H σ ρ A)(h:RV1 K F H σ v r B)(f:Fresh F Z A B)(e:L2.takeR r ρ=some (o,b)) :
  ∃C A',Rel K F Z H σ b A'/\Ow K F H v o C/\Fresh F Z A' C/\(∀a∈A',a∈A)/\∀a∈C,a∈A∨a∈B:=by
 cases r with
 | ov o'=>
  simp only[L2.takeR,Option.some.injEq,Prod.mk.injEq] at e;obtain⟨rfl,rfl⟩:=e;exact⟨B,A,R,h,f,λ_ z=>z,λ_ z=>.inr z⟩
 | br i=>
  simp only[L2.takeR] at e;split at e
  ·rename_i o' j;simp only[Option.some.injEq,Prod.mk.injEq] at e;obtain⟨rfl,rfl⟩:=e;obtain⟨d,m,A',h1,h2,l,k,pm⟩:=R.takeI j;have g:d=v:=aaj (aaj (h1.symm.trans h.1));subst g;exact⟨m,A',l,h2,k,λa c=>pm.mem_iff.mpr (abE.mpr (.inr c)),λa c=>.inl (pm.mem_iff.mpr (abE.mpr (.inl c)))⟩
  ·cases e
theorem Rel.takeL:∀{i:List RV} {vs:List V} {B:List Addr} {os:List OV} {ρ c:FSt} {A:List Addr},Rel K F Z H σ ρ A->RVL K F H σ vs i B->Fresh F Z A B->L2.takeL i ρ=some (os,c) ->
  ∃C A',Rel K F Z H σ c A'/\Ows K F H vs os C/\Fresh F Z A' C/\(∀a∈A',a∈A)/\∀a∈C,a∈A∨a∈B:=by
 intro i
 induction i with
 | nil=>
  intro vs B os ρ c A R h f e;simp only[L2.takeL,Option.some.injEq,Prod.mk.injEq] at e;obtain⟨rfl,rfl⟩:=e;cases h;exact⟨[],A,R,.nil,f,λ_ z=>z,λ_ z=>nomatch z⟩
 | cons r i w=>
  intro vs B os ρ c A R h f e
  cases h with
  | @cons v _ vs _ I B2 h t=>
   simp only[L2.takeL] at e;split at e
   ·rename_i o p D;split at e
    ·rename_i q n x;simp only[Option.some.injEq,Prod.mk.injEq] at e;obtain⟨rfl,rfl⟩:=e;obtain⟨n1,n2,n3⟩:=a8 (aaE (I++B2)) f.nd;obtain⟨G,L,E,u,f1,j,m⟩:=R.takeR h ⟨n1,λb d=>f.fr b (abE.mpr (.inl d))⟩ D
     obtain⟨C2,J,R2,s,f2,k,l⟩:=w E t ⟨n2,λb d=>by
      have fb:=f.fr b (abE.mpr (.inr d));exact⟨fb.1,fb.2.1,λz=>fb.2.2 (j b z)⟩⟩ x
     refine⟨G++C2,J,R2,.cons u s,⟨abP.mpr ⟨f1.nd,f2.nd,λa g b d z=>?_⟩,λb d=>?_⟩,λa g=>j a (k a g),λa g=>?_⟩
     ·subst z;rcases l a d with z|z
      ·exact(f1.fr a g).2.2 z
      ·rcases m a g with y|y
       ·exact(f.fr a (abE.mpr (.inr z))).2.2 y
       ·exact n3 a y z
     ·rcases abE.mp d with z|z
      ·exact⟨(f1.fr b z).1,(f1.fr b z).2.1,λy=>(f1.fr b z).2.2 (k b y)⟩
      ·exact f2.fr b z
     ·rcases abE.mp g with z|z
      ·rcases m a z with y|y
       ·exact .inl y
       ·exact .inr (abE.mpr (.inl y))
      ·rcases l a z with y|y
       ·exact .inl (j a y)
       ·exact .inr (abE.mpr (.inr y))
    ·cases e
   ·cases e
theorem Rel.assign(R:Rel K F Z H σ ρ A)(h:Ow K F H v o B)(f:Fresh F Z A B):∃A',Rel K F Z H (σ.set i (some v)) (ρ.set i (some o)) A'/\∀a∈A',a∈A∨a∈B:=by
 obtain⟨g,C,pm,k⟩:=R.sl.drop i (some v);obtain⟨n1,n2,n3⟩:=a8 pm R.nd;have mA:∀a∈g,a∈A:=λa c=>pm.mem_iff.mpr (abE.mpr (.inr c));have d:Rel K F Z H (σ.set i (some v)) (ρ.set i none) g:=⟨k,n2,λa c=>R.fr a (mA a c),R.fh,R.zh,R.dj⟩;by_cases hi:i<ρ.length
 ·have j:=R.sl.len;obtain⟨l,R2,p2⟩:=d.putI (i:=i) (v:=v) (o:=o) (B:=B) (by simp[hi]) (by simp[j,hi]) h ⟨f.nd,λb e=>⟨(f.fr b e).1,(f.fr b e).2.1,λz=>(f.fr b e).2.2 (mA b z)⟩⟩;rw[abx] at R2;refine⟨l,R2,λa c=>?_⟩;rcases abE.mp (p2.mem_iff.mp c) with z|z
  ·exact .inr z
  ·exact .inl (mA a z)
 ·have j:=R.sl.len;rw[List.set_eq_of_length_le (by nofun)] at d ⊢;rw[List.set_eq_of_length_le (by nofun)] at d ⊢;exact⟨g,d,λa c=>.inl (mA a c)⟩
theorem Ih(h:σ[i]?=some (some v)):σ.set i (some v)=σ:=by
 apply List.ext_getElem?;intro j;by_cases a:i=j
 ·subst a;have:=(List.getElem?_eq_some_iff.mp h).1;rw[h,List.getElem?_set_self this]
 ·rw[List.getElem?_set_ne a]
theorem Rel.putL:∀{d:List RV} {vs:List V} {os:List OV} {B C:List Addr} {ρ:FSt} {A:List Addr},Rel K F Z H σ ρ A->RVL K F' H' σ vs d B->Ows K F H vs os C->Fresh F Z A C ->
  ∃A',Rel K F Z H σ (L2.putL d os ρ) A'/\∀a∈A',a∈A∨a∈C:=by
 intro d
 induction d with
 | nil=>
  intro vs os B C ρ A R h n f;exact⟨A,R,λ_ z=>.inl z⟩
 | cons r d l=>
  intro vs os B C ρ A R h n f
  cases h with
  | @cons v _ vs _ u s h t=>
   cases n with
   | @cons _ o _ os q C2 h1 j=>
    obtain⟨n1,n2,n3⟩:=a8 (aaE (q++C2)) f.nd;have f1:Fresh F Z A q:=⟨n1,λb c=>f.fr b (abE.mpr (.inl c))⟩;have f2:Fresh F Z A C2:=⟨n2,λb c=>f.fr b (abE.mpr (.inr c))⟩
    cases r with
    | ov o'=>
     obtain⟨A',g,m⟩:=l R t j f2;refine⟨A',g,λa e=>(m a e).elim .inl λz=>.inr (abE.mpr (.inr z))⟩
    | br i=>
     obtain⟨w,p,k⟩:=R.assign (i:=i) h1 f1;rw[Ih h.1] at p;obtain⟨A',g,m⟩:=l p t j ⟨n2,λb c=>⟨(f2.fr b c).1,(f2.fr b c).2.1,λz=>(k b z).elim (f2.fr b c).2.2 λy=>n3 b y c⟩⟩;refine⟨A',g,λa e=>?_⟩;rcases m a e with z|z
     ·exact(k a z).elim .inl λy=>.inr (abE.mpr (.inl y))
     ·exact .inr (abE.mpr (.inr z))
theorem tq{fa:FA}{E:XK}(f:AF K μ t fa):EF K μ (pU (spM K c) [] E t) (ah c fa):=⟨by
 intro F Z H τ σ ρ A Q P S R h q;refine f.h S R h λrs M vs F1 H1 A1 B1 h1 T R1 v1 f1=>?_;rw[aam];split at h1
 ·rename_i os l e;obtain⟨C,i,R2,V,f2,m2,c2⟩:=R1.takeL v1 f1 e
  -- x is not handed G is L
  obtain⟨n,g,d⟩:=mix i H1 Z;have X:∀a,a∈i->Z a=none:=λa f=>(R2.fr a f).2;have sz:Same Z n:=λa o z=>by rw[d a λy=>by rw[X a y] at z;cases z];exact z
  refine⟨F1,n,os,C,_,R2.fh,⟨λa o z=>?_,λa xs z=>?_⟩,λa o z=>?_,V,f2.nd,λa f=>⟨(f2.fr a f).1,by rw[d a (f2.fr a f).2.2];exact(f2.fr a f).2.1⟩,h1,λo U v r H3 s B p D fh zh dj O N nd fr=>?_⟩
  ·by_cases y:a∈i
   ·rw[g a y] at z;exact z
   ·rw[d a y] at z;exact R2.zh.s a o z
  ·by_cases y:a∈i
   ·rw[g a y] at z;exact R2.sl.nt a y xs z
   ·rw[d a y] at z;exact R2.zh.n a xs z
  ·rw[d a λy=>by rw[(R2.fr a y).1] at z;cases z];exact R2.dj a o z
  ·have J:∀a∈i,∃u,n a=some u:=λa f=>by
    obtain⟨u,m⟩:=R2.sl.live a f;exact⟨u,by rw[g a f];exact m⟩
   have R3:Rel K r Z H3 σ l i:=⟨R2.sl.keep D λa u f m=>zh a u (by rw[g a f];exact m),R2.nd,λa f=>⟨(by
    cases z:r a with
    |none=>rfl
    | some u=>
     have:=dj a u z;obtain⟨w,k⟩:=J a f;rw[k] at this;exact nomatch this),(R2.fr a f).2⟩,fh,⟨sz.trans zh,R2.zh.n⟩,λa o z=>sz.free (dj a o z)⟩
   have I:∀a∈s++B,a∉i:=λa f y=>by
    obtain⟨w,k⟩:=J a y;rw[(fr a f).2] at k;cases k
   obtain⟨n1,n2,n3⟩:=a8 (aaE (s++B)) nd
   have fC:Fresh r Z i s:=⟨n1,λb j=>by
    have:=fr b (abE.mpr (.inl j));exact⟨this.1,sz.free this.2,I b (abE.mpr (.inl j))⟩⟩
   obtain⟨A4,Y,W⟩:=R3.putL v1 O fC;refine q _ _ _ _ _ _ _ p (T.trans D) Y N ⟨n2,λb j=>?_⟩;have:=fr b (abE.mpr (.inr j));exact⟨this.1,sz.free this.2,λz=>(W b z).elim (I b (abE.mpr (.inr j))) λy=>n3 b y j⟩
 ·exact h1.elim⟩
theorem L5(i:EF K μ te fe):EF K μ te (fFz fe):=⟨by
 intro F Z H k σ ρ A Q P c R h q;refine i.h c R h λr b v F1 H1 o m h1 g j v1 f1=>?_;split at h1
 ·rename_i d a e;obtain⟨l,n,f,R2,dn,_,_⟩:=j.frz v1 f1 e;exact q _ _ _ _ _ _ _ h1 (g.trans f) R2 (.fz dn) Fresh.nil
 ·exact h1.elim⟩
end
theorem nX:∀{l:List Nat} {j k i:Nat},l.Nodup->l[j]?=some i->l[k]?=some i->j=k
 |[],_,_,_,_,h,_=>by simp at h
 |a::l,0,0,_,_,_,_=>rfl
 | a::l,0,k+1,i,n,h,h'=>by
  simp at h h';subst h;exact absurd (List.mem_of_getElem? h') (abL.mp n).1
 | a::l,j+1,0,i,n,h,h'=>by
  simp at h h';subst h';exact absurd (List.mem_of_getElem? h) (abL.mp n).1
 | a::l,j+1,k+1,i,n,h,h'=>by
  simp at h h';rw[nX (List.nodup_cons.mp n).2 h h']
abbrev FG:=D->FSt->(FSt->Prop)->Prop
variable{fg:FG}
abbrev FGs:=List D->FSt->(FSt->Prop)->Prop
structure GF(K:Frag)(μ:List Nat)(T:List Nat)(g:TG)(f:FG):Prop where
 h:∀{F Z H:Hp} {τ σ:St} {ρ:FSt} {A:List Addr} {v:V} {d:D} {Q:St->Hp->Prop} {P:FSt->Prop},View μ τ σ->Rel K F Z H σ ρ A->Den K F v d->f d ρ P ->
  (∀τ' σ' ρ' A',P ρ'->View μ τ' σ'->Rel K F Z H σ' ρ' A'->(∀i,i∉T->σ'[i]?=σ[i]?)->σ'.length=σ.length->((∀j i:Nat,μ[j]?=some i->i=j)->τ=σ->τ'=σ')->(∀a∈A',a∈A)->Q τ' H)->g v τ H Q
structure GsF(K:Frag)(μ:List Nat)(T:List Nat)(g:TGs)(f:FGs):Prop where
 h:∀{F Z H:Hp} {τ σ:St} {ρ:FSt} {A:List Addr} {v:List V} {d:List D} {Q:St->Hp->Prop} {P:FSt->Prop},View μ τ σ->Rel K F Z H σ ρ A->Dens K F v d->f d ρ P ->
  (∀τ' σ' ρ' A',P ρ'->View μ τ' σ'->Rel K F Z H σ' ρ' A'->(∀i,i∉T->σ'[i]?=σ[i]?)->σ'.length=σ.length->((∀j i:Nat,μ[j]?=some i->i=j)->τ=σ->τ'=σ')->(∀a∈A',a∈A)->Q τ' H)->g v τ H Q
def ac(i:Nat):FG:=λd ρ P=>P (ρ.set i (some (.fz d)))
def qo:FGs:=λds ρ P=>match ds with
 |[]=>P ρ
 |_=>False
def da(f:FG)(fs:FGs):FGs:=λds ρ P=>match ds with
 |d::ds=>f d ρ λa=>fs ds a P
 |_=>False
def qp(n:Nat)(f:FGs):FG:=λd ρ P=>match d with
 |.tup ds=>ds.length=n/\f ds ρ P
 |_=>False
section
variable {K:Frag} 
theorem tt(k:μ[j]?=some i)(p:μ.Nodup):GF K μ [i] (fE j) (ac i):=⟨by
 intro F Z H t σ ρ A v d Q P f R dn h q;obtain⟨A',s,m⟩:=R.assign (i:=i) (.fz dn) Fresh.nil;refine q _ (σ.set i (some v)) _ _ h (λg c h'=>⟨?_,by rw[aaP];exact(f g c h').2.1,by rw[aaP];exact(f g c h').2.2⟩) s (λc o=>?_) (aaP ..) (λn e=>?_) λa r=>(m a r).elim id λz=>nomatch z
 ·by_cases b:j=g
  ·subst b;rw[k] at h';cases h';have:=f j i k;rw[List.getElem?_set_self this.2.1,List.getElem?_set_self this.2.2]
  ·have l:i≠c:=λz=>by
    subst z;exact b (nX p k h')
   rw[List.getElem?_set_ne b,List.getElem?_set_ne l];exact(f g c h').1
 ·rw[List.getElem?_set_ne λz=>o (by simp[z])]
 ·rw[n j i k,e]⟩
theorem Dq:GsF K μ [] KJ qo:=⟨by
 intro F Z H b σ ρ A v d Q P a R dn h q
 cases dn with
 |nil=>exact⟨rfl,q _ _ _ _ h a R (λ_ _=>rfl) rfl (λ_ e=>e) λ_ z=>z⟩
 |cons _ _=>exact h.elim⟩
theorem xx{T':List Nat}{f:FG}{fs:FGs}(h1:GF K μ T g f)(h2:GsF K μ T' gs fs):GsF K μ (T++T') (rl g gs) (da f fs):=⟨by
 intro F Z H I σ ρ A v d Q P x R dn h q
 cases dn with
 |nil=>exact h.elim
 | cons E D=>
  refine⟨_,_,rfl,h1.h x R E h fun r t w A' p e G k z n m=>h2.h e G D p fun o s u J p2 c R2 B j l y=>q _ _ _ _ p2 c R2 (λi hi=>?_) (j.trans z) (λa b=>l a (n a b)) λa C=>m a (y a C)⟩;rw[abE,not_or] at hi;rw[B i hi.2,k i hi.1]⟩
theorem Ii{fs:FGs}(h2:GsF K μ T gs fs):GF K μ T (Gw K n gs) (qp n fs):=⟨by
 intro F Z H b σ ρ A v d Q P a R dn h q
 cases dn with
 |tup hs t=>exact⟨_,_,rfl,SqT.of (R.fh _ _ hs),t.length.trans h.1,h2.h a R t h.2 q⟩
 |_=>exact h.elim⟩
end
structure Walk(K:Frag)(F:Hp)(J:It)(ds:List D):Prop where
 go:∀H i,Same F H->i<ds.length->J.go i H
 yld:∀H i x H',Same F H->i<ds.length->J.yld i H x H'->H'=H/\∃d,ds[i]?=some d/\Den K F x d
 stop:∀H,Same F H->J.stop ds.length H
abbrev FI:=FSt->(List D->FSt->Prop)->Prop
variable{fi:FI}
structure ITF(K:Frag)(μ:List Nat)(t:TI)(f:FI):Prop where
 h:∀{F Z H:Hp} {τ σ:St} {ρ:FSt} {A:List Addr} {Q:It->Hp->Prop} {P:List D->FSt->Prop},View μ τ σ->Rel K F Z H σ ρ A->f ρ P ->
  (∀ds ρ' J F' H' A',P ds ρ'->Same F F'->Rel K F' Z H' σ ρ' A'->Walk K F' J ds->Q J H')->t τ H Q
def cE(fe:FE):FI:=λρ Q=>fe ρ λr b=>match fzR r b with
 |some (.lst ds,a)=>Q ds a
 |_=>False
def Ij(fe:FE):FI:=λρ Q=>fe ρ λr b=>match fzR r b with
 |some (.tup ds,a)=>Q ds a
 |_=>False
def fR(z:Str):List D:=z.cps.toList.map λc=>.str ⟨#[c]⟩
def xy(fe:FE):FI:=λρ Q=>fe ρ λr b=>match fzR r b with
 |some (.str z,a)=>Q (fR z) a
 |_=>False
def dS(lo:Int)(n:Nat):List D:=(List.range n).map λ(k:Nat)=>.int (lo+(k:Int))
def cW(fa:FA):FI:=λρ Q=>fa ρ λb a=>onL a b λds=>match ds with
 |[.int j]=>(-(2 ^ 62)<=j/\j<2 ^ 62)/\Q (dS 0 j.toNat) a
 |_=>False
def nY(fa:FA):FI:=λρ Q=>fa ρ λb a=>onL a b λds=>match ds with
 |[.int i,.int j]=>(-(2 ^ 62)<=i/\i<2 ^ 62/\-(2 ^ 62)<=j/\j<2 ^ 62)/\Q (dS i (j - i).toNat) a
 |_=>False
section
variable {K:Frag}  
theorem tu(h:SqL K F a xs)(t:Dens K F xs ds):Walk K F (Itl K a) ds:=
 ⟨λH i s hi=>by
  obtain⟨x,h1,h2⟩:=t.get (List.getElem?_eq_getElem hi);exact⟨xs,x,s.seq h,h1⟩,λH i x H' s hi y=>by
  obtain⟨rfl,y⟩:=y;obtain⟨d,h1,h2⟩:=t.get' (y xs (s.seq h));exact⟨rfl,d,h1,h2⟩,λH s=>⟨xs,s.seq h,by rw[t.length];exact aac _⟩⟩
theorem xz(h:SqT K F a xs)(t:Dens K F xs ds):Walk K F (Itt K a) ds:=
 ⟨λH i s hi=>by
  obtain⟨x,h1,h2⟩:=t.get (List.getElem?_eq_getElem hi);exact⟨xs,x,h.same s,h1⟩,λH i x H' s hi y=>by
  obtain⟨rfl,y⟩:=y;obtain⟨d,h1,h2⟩:=t.get' (y xs (h.same s));exact⟨rfl,d,h1,h2⟩,λH s=>⟨xs,h.same s,by rw[t.length];exact aac _⟩⟩
theorem xA :Walk K F (Its z) (fR z):=
 ⟨λH i s hi=>by (have hi:i<z.cps.size:=by simpa [fR] using hi);exact hi,λH i x H' s hi y=>by
  obtain⟨rfl,c,h1,rfl⟩:=y;exact⟨rfl,.str ⟨#[c]⟩,by rw[fR,List.getElem?_map,h1];rfl,.str _⟩,λH s=>by
  show (fR z).length=z.cps.size;simp[fR]⟩
theorem nZ{lo:Int}:Walk K F (Itr lo n) (dS lo n):=
 ⟨λH i s hi=>by (have hi:i<n:=by simpa [dS] using hi);exact hi,λH i x H' s hi y=>by
  obtain⟨rfl,rfl⟩:=y;have hi:i<n:=by simpa [dS] using hi
  exact⟨rfl,.int (lo+i),by simp[dS,hi],.int _⟩,λH s=>by
  show n<=(dS lo n).length;simp[dS]⟩
theorem xB(i:EF K μ te fe):ITF K μ (wn K te) (cE fe):=⟨by
 intro F Z H k σ ρ A Q P c R h q;refine i.h c R h λr a v F1 H1 p m h1 g j v1 f1=>?_;generalize e:fzR r a=o at h1;obtain _|⟨d,b⟩:=o
 ·exact False.elim h1
 cases d
 case lst ds=>
  obtain⟨l,n,f,R2,dn,_,_⟩:=j.frz v1 f1 e
  cases dn with
  |lst hs t=>exact ⟨_,rfl,⟨_,R2.fh.seq hs⟩,q _ _ _ _ _ _ h1 (g.trans f) R2 (tu hs t)⟩
 all_goals exact False.elim h1⟩
theorem Dr(i:EF K μ te fe):ITF K μ (KL K te) (Ij fe):=⟨by
 intro F Z H k σ ρ A Q P c R h q;refine i.h c R h λr a v F1 H1 p m h1 g j v1 f1=>?_;generalize e:fzR r a=o at h1;obtain _|⟨d,b⟩:=o
 ·exact False.elim h1
 cases d
 case tup ds=>
  obtain⟨l,n,f,R2,dn,_,_⟩:=j.frz v1 f1 e
  cases dn with
  |tup hs t=>exact ⟨_,rfl,⟨_,SqT.of (R2.fh _ _ hs)⟩,q _ _ _ _ _ _ h1 (g.trans f) R2 (xz (SqT.of hs) t)⟩
 all_goals exact False.elim h1⟩
theorem Ds(g:EF K μ te fe):ITF K μ (LL te) (xy fe):=⟨by
 intro F Z H j σ ρ A Q P c R h q;refine g.h c R h λr b v F1 H1 n l h1 f i v1 f1=>?_;split at h1
 ·rename_i z a e;obtain⟨k,m,d,R2,dn,_,_⟩:=i.frz v1 f1 e;exact⟨z,dn.str_eq,q _ _ _ _ _ _ h1 (f.trans d) R2 xA⟩
 ·exact h1.elim⟩
theorem bQ(h:Accs K F H xs [d]):∃x,xs=[x]/\Acc K F H x d:=by
 cases h with|cons a t=>cases t;exact⟨_,rfl,a⟩
theorem n6(h:Accs K F H xs [d,e]):∃x y,xs=[x,y]/\Acc K F H x d/\Acc K F H y e:=by
 cases h with|cons a t=>obtain⟨y,rfl,b⟩:=bQ t;exact⟨_,_,rfl,a,b⟩
theorem xC{fa:FA}(g:AF K μ t fa):ITF K μ (BH t) (cW fa):=⟨by
 intro F Z H k σ ρ A Q P e R h q;refine g.h e R h λl c xs F1 H1 n m h1 f b v1 f1=>?_;obtain⟨ds,i,h2⟩:=sY h1;obtain _|⟨d,r⟩:=ds
 ·exact False.elim h2
 cases d
 case int j=>
  cases r with
  |cons=>exact False.elim h2
  | nil=>
   obtain⟨x,rfl,a⟩:=bQ (b.accs v1 i);exact⟨j,by rw[a.int_eq],h2.1.1,h2.1.2,q _ _ _ _ _ _ h2.2 f b nZ⟩
 all_goals exact False.elim h2⟩
theorem xD{fa:FA}(g:AF K μ t fa):ITF K μ (BJ t) (nY fa):=⟨by
 intro F Z H l σ ρ A Q P e R h q;refine g.h e R h λm d xs F1 H1 o n h1 f c v1 f1=>?_;obtain⟨ds,k,h2⟩:=sY h1;split at h2
 ·rename_i i j;obtain⟨x,y,rfl,a,b⟩:=n6 (c.accs v1 k);exact⟨i,j,by rw[a.int_eq,b.int_eq],h2.1,q _ _ _ _ _ _ h2.2 f c nZ⟩
 ·exact h2.elim⟩
end
structure FEnds where
 nx:FSt->Prop
 rt:OV->FSt->Prop
 bk:FSt->Prop:=λ_=>False
 ct:FSt->Prop:=λ_=>False
variable{E:FEnds}
abbrev FS:=FEnds->FSt->Prop
variable{fb:FS}
def Pin(n:Nat)(m:List Nat)(σ0 σ:St):Prop:=σ.length=n/\∀i∈m,σ[i]?=σ0[i]?
structure EndsOk(K:Frag)(n:Nat)(m:List Nat)(F Z:Hp)(σ0:St)(D:Ends)(fD:FEnds):Prop where
 nx:∀F' H' σ' ρ' A',Same F F'->Rel K F' Z H' σ' ρ' A'->Pin n m σ0 σ'->fD.nx ρ'->D.nx σ' H'
 rt:∀F' H' σ' ρ' A' v o B,Same F F'->Rel K F' Z H' σ' ρ' A'->Pin n m σ0 σ'->Ow K F' H' v o B->Fresh F' Z A' B->fD.rt o ρ'->D.rt v H'
 bk:∀F' H' σ' ρ' A',Same F F'->Rel K F' Z H' σ' ρ' A'->Pin n m σ0 σ'->fD.bk ρ'->D.bk σ' H'
 ct:∀F' H' σ' ρ' A',Same F F'->Rel K F' Z H' σ' ρ' A'->Pin n m σ0 σ'->fD.ct ρ'->D.ct σ' H'
theorem EndsOk.mono{K:Frag}{D:Ends}{fD:FEnds}(E:EndsOk K n m F Z σ0 D fD)(e:Same F F1):EndsOk K n m F1 Z σ0 D fD:=
 ⟨λF' H' a b A' s=>E.nx F' H' a b A' (e.trans s),λF' H' a b A' v o B s=>E.rt F' H' a b A' v o B (e.trans s),λF' H' a b A' s=>E.bk F' H' a b A' (e.trans s),λF' H' a b A' s=>E.ct F' H' a b A' (e.trans s)⟩
structure SF(K:Frag)(n:Nat)(m:List Nat)(t:TS)(f:FS):Prop where
 h:∀{F Z H:Hp} {σ0 σ:St} {ρ:FSt} {A:List Addr} {D:Ends} {fD:FEnds},Rel K F Z H σ ρ A->Pin n m σ0 σ->EndsOk K n m F Z σ0 D fD->f fD ρ->t D σ H
def aP:FS:=λD ρ=>D.nx ρ
def Ay:FS:=λD ρ=>D.bk ρ
def Ik:FS:=λD ρ=>D.ct ρ
def lB:FSt->(FSt->Prop)->Prop
 |[],k=>k []
 |a::l,k=>lB l λb=>k (a::b)
theorem fS:∀(ρ:FSt) (k:FSt->Prop),lB ρ k↔k ρ
 |[],k=>Iff.rfl
 |a::l,k=>by rw[lB,fS l]
def al(f g:FS):FS:=λD ρ=>f { D with nx:=λa=>lB a (g D) } ρ
@[irreducible] def fIf(c:FT)(f g:FS)(E:FEnds)(ρ:FSt):Prop:=c ρ λb a=>br b (f E a) (g E a)
theorem aB{c:FT}{f g:FS}(h:c ρ λb a=>br b (f E a) (g E a)):fIf c f g E ρ:=by unfold fIf;exact h
theorem n8{c:FT}{f:FS}(p:Prop)(rest:p->E.nx ρ)(h:(p->E.nx ρ)->c ρ λb a=>br b (f E a) (E.nx a)):fIf c f aP E ρ:=aB (h rest)
def bh(fe:FE):FS:=λD ρ=>fe ρ λr b=>match takeR r b with
 |some (o,a)=>D.rt o a
 |none=>False
def Il:FS:=λD ρ=>D.rt (.fz .non) ρ
def bN(fe:FE):FS:=λD ρ=>fe ρ λ_ a=>D.nx a
def bO(fe:FE)(fg:FG):FS:=λD ρ=>fe ρ λr b=>match fzR r b with
 |some (d,a)=>fg d a D.nx
 |none=>False
def b7(i:Nat)(fe:FE):FS:=λD ρ=>fe ρ λr a=>match r with
 |.ov o=>D.nx (a.set i (some o))
 |.br _=>False
def n9(fg:FG)(fb:FS)(E:FEnds):List D->FSt->Prop
 |[],ρ=>E.nx ρ
 |d::ds,ρ=>fg d ρ λa=>fb { nx:=n9 fg fb E ds,ct:=n9 fg fb E ds,bk:=E.nx,rt:=E.rt } a
@[irreducible] def dL(fg:FG)(fb:FS)(E:FEnds)(ds:List D)(ρ:FSt):Prop:=n9 fg fb E ds ρ
theorem j6(fg:FG)(fb:FS)(E:FEnds)(ds:List D):dL fg fb E ds=n9 fg fb E ds:=by funext ρ;unfold dL;rfl
theorem lD(fg:FG)(fb:FS)(E:FEnds)(ρ:FSt):dL fg fb E [] ρ=E.nx ρ:=by rw[j6];rfl
theorem lE(fg:FG)(fb:FS)(E:FEnds)(d:D)(ds:List D)(ρ:FSt):dL fg fb E (d::ds) ρ=fg d ρ λa=>fb { nx:=dL fg fb E ds,ct:=dL fg fb E ds,bk:=E.nx,rt:=E.rt } a:=by rw[j6,j6];rfl
def qq(fi:FI)(fg:FG)(fb:FS):FS:=λD ρ=>fi ρ λds a=>lB a (dL fg fb D ds)
def j7(fc:FT)(fb:FS)(E:FEnds):Nat->FSt->Prop
 |0,_=>False
 |n+1,ρ=>fc ρ λb a=>br b (fb { nx:=j7 fc fb E n,ct:=j7 fc fb E n,bk:=E.nx,rt:=E.rt } a) (E.nx a)
@[irreducible] def ci(fc:FT)(fb:FS)(E:FEnds)(n:Nat)(ρ:FSt):Prop:=j7 fc fb E n ρ
theorem iE(fc:FT)(fb:FS)(E:FEnds)(n:Nat):ci fc fb E n=j7 fc fb E n:=by funext ρ;unfold ci;rfl
theorem qr(fc:FT)(fb:FS)(E:FEnds)(ρ:FSt):ci fc fb E 0 ρ=False:=by rw[iE];rfl
theorem jD(fc:FT)(fb:FS)(E:FEnds)(n:Nat)(ρ:FSt):ci fc fb E (n+1) ρ=fc ρ λb a=>br b (fb { nx:=ci fc fb E n,ct:=ci fc fb E n,bk:=E.nx,rt:=E.rt } a) (E.nx a):=by rw[iE,iE];rfl
theorem tw(h:E.nx ρ):dL fg fb E [] ρ:=by rw[lD];exact h
theorem qt(h:fg d ρ λa=>fb { nx:=dL fg fb E ds,ct:=dL fg fb E ds,bk:=E.nx,rt:=E.rt } a):dL fg fb E (d::ds) ρ:=by rw[lE];exact h
theorem mU(h:fc ρ λb a=>br b (fb { nx:=ci fc fb E n,ct:=ci fc fb E n,bk:=E.nx,rt:=E.rt } a) (E.nx a)):ci fc fb E (n+1) ρ:=by rw[jD];exact h
def fT(fc:FT)(fb:FS):FS:=λD ρ=>∃n,ci fc fb D n ρ
section
variable {K:Frag}  
theorem Pin.refl{σ:St}(h:σ.length=n):Pin n m σ σ:=⟨h,λ_ _=>rfl⟩
theorem Pin.set{x:Option V}(p:Pin n m σ0 σ)(hi:i∉m):Pin n m σ0 (σ.set i x):=⟨by rw[aaP];exact p.1,λj a=>by
 rw[List.getElem?_set_ne λz=>hi (by rw[z];exact a)];exact p.2 j a⟩
theorem Dt:SF K n m Bu aP:=⟨fun {F Z H σ0 σ ρ A D a} R p E h=>E.nx _ _ _ _ _ (Same.refl _) R p h⟩
theorem xE:SF K n m rh Ay:=⟨fun {F Z H σ0 σ ρ A D a} R p E h=>E.bk _ _ _ _ _ (Same.refl _) R p h⟩
theorem Du:SF K n m Bx Ik:=⟨fun {F Z H σ0 σ ρ A D a} R p E h=>E.ct _ _ _ _ _ (Same.refl _) R p h⟩
theorem Im{t u:TS}{f g:FS}(h1:SF K n m t f)(h2:SF K n m u g):SF K n m (Li t u) (al f g):=⟨fun {F Z H σ0 σ ρ A D b} R p E h=>
 h1.h (fD:={ b with nx:=λa=>lB a (g b) }) R p ⟨λF' H' c a A' s e d q=>h2.h e d (E.mono s) ((fS a (g b)).mp q),E.rt,E.bk,E.ct⟩ h⟩
theorem L6{c:TT}{t u:TS}{f g:FS}(i:TF K (List.range n) c fc)(h1:SF K n m t f)(h2:SF K n m u g):SF K n m (Lk c t u) (fIf fc f g):=⟨fun {F Z H σ0 σ ρ A D d} R p E h=>
 i.h (P:=λb a=>br b (f d a) (g d a)) (View.id p.1) R (by unfold fIf at h;exact h) λb a F1 H1 j q s e=>by
  cases b with
  |true=>exact h1.h e p (E.mono s) (xt q)
  |false=>exact h2.h e p (E.mono s) (xu q)⟩
theorem Io(f:EF K (List.range n) te fe):SF K n m (Lj te) (bh fe):=⟨by
 intro F Z H σ0 σ ρ A D i R p E h;refine f.h (View.id p.1) R h λr b v F1 H1 l j h1 c g v1 f1=>?_;split at h1
 ·rename_i o a e;obtain⟨C,k,R2,d,f2,_,_⟩:=g.takeR v1 f1 e;exact E.rt _ _ _ _ _ _ _ _ c R2 p d f2 h1
 ·exact h1.elim⟩
theorem Dv:SF K n m Bz Il:=⟨fun {F Z H σ0 σ ρ A D a} R p E h=>E.rt _ _ _ _ _ _ _ _ (Same.refl _) R p (.fz .non) Fresh.nil h⟩
theorem Dw(c:EF K (List.range n) te fe):SF K n m (wg te) (bN fe):=⟨fun {F Z H σ0 σ ρ A D e} R p E h=>
 c.h (View.id p.1) R h λr a v F1 H1 g f h1 b d v1 f1=>E.nx _ _ _ _ _ b d p h1⟩
theorem j8(n:Nat):∀j i:Nat,(List.range n)[j]?=some i->i=j:=λj i h=>by
 obtain⟨h1,h2⟩:=List.getElem?_eq_some_iff.mp h;rw[List.getElem_range] at h2;exact h2.symm
theorem Ip(w:EF K (List.range n) te fe)(u:GF K (List.range n) T g fg)(x:∀i∈m,i∉T):SF K n m (pM te g) (bO fe fg):=⟨by
 intro F Z H σ0 σ ρ A D B R p E h;refine w.h (View.id p.1) R h λr j v F1 H1 J G h1 s y v1 f1=>?_;split at h1
 ·rename_i d f e;obtain⟨C,I,o,R2,dn,_,_⟩:=y.frz v1 f1 e;refine u.h (View.id p.1) R2 dn h1 fun b c l A' q _ z k t a _=>?_;rw[a (j8 n) rfl];exact E.nx _ _ _ _ _ (s.trans o) z ⟨t.trans p.1,λi hi=>by rw[k i (x i hi)];exact p.2 i hi⟩ q
 ·exact h1.elim⟩
theorem Dx(c:EF K (List.range n) te fe)(hi:i∉m):SF K n m (pM te (fE i)) (b7 i fe):=⟨by
 intro F Z H σ0 σ ρ A D e R p E h;refine c.h (View.id p.1) R h λr a v F1 H1 k f h1 b d v1 f1=>?_
 cases r with
 | ov o=>
  obtain⟨g,R2,_⟩:=d.assign (i:=i) v1 f1;exact E.nx _ _ _ _ _ b R2 (p.set hi) h1
 |br j=>exact h1.elim⟩
theorem Iq{tb:TS}(hi:ITF K (List.range n) wi fi)(Y:GF K (List.range n) T g fg)(hT:∀i∈m,i∉T)(hb:SF K n m tb fb):SF K n m (Lo wi g tb) (qq fi fg fb):=⟨by
 intro F Z H σ0 σ ρ A D l R p E h;refine hi.h (View.id p.1) R h λds N J F1 H1 A1 h1 P R1 O=>?_;rw[fS] at h1;refine⟨λi k s H'=>k=ds.length - i/\i<=ds.length/\∃F' t A',Same F1 F'/\Rel K F' Z H' s t A'/\Pin n m σ0 s/\dL fg fb l (ds.drop i) t,⟨_,rfl,aan _,F1,N,A1,Same.refl _,R1,p,by rw[abj];exact h1⟩,?_⟩;rintro i k s H' ⟨rfl,X,F',t,A',s',G,L,h'⟩;by_cases f:i<ds.length
 ·rw[aaD f,lE] at h';refine .inr ⟨O.go H' i (s'.trans G.fh) f,λj H2=>∃I c M,Same F1 I/\Rel K I Z H2 j c M/\Pin n m σ0 j/\dL fg fb l (ds.drop (i+1)) c,λj H2 q=>⟨_,by nofun,rfl,f,q⟩,λx H2 y=>?_⟩;obtain⟨rfl,d,hd,dn⟩:=O.yld H' i x H2 (s'.trans G.fh) f y;rw[List.getElem?_eq_getElem f] at hd;cases hd;refine Y.h (View.id L.1) G (dn.mono s') h' fun S j c M q _ R2 k W Q _=>?_;rw[Q (j8 n) rfl]
  have C:∀r u a b w,Same F' r->Rel K r Z u a b w->Pin n m σ0 a->dL fg fb l (ds.drop (i+1)) b->∃I c M,Same F1 I/\Rel K I Z u a c M/\Pin n m σ0 a/\dL fg fb l (ds.drop (i+1)) c:=
   λr u a b w z R3 V U=>⟨r,b,w,s'.trans z,R3,V,U⟩
  refine hb.h (fD:={ nx:=dL fg fb l (ds.drop (i+1)),ct:=dL fg fb l (ds.drop (i+1)),bk:=l.nx,rt:=l.rt }) R2 ⟨W.trans L.1,λi hi=>by rw[k i (hT i hi)];exact L.2 i hi⟩ ⟨C,λr u a b w v o B z=>E.rt r u a b w v o B (P.trans (s'.trans z)),λr u a b w z=>E.nx r u a b w (P.trans (s'.trans z)),C⟩ q
 ·have e:i=ds.length:=by nofun
  subst e;rw[aby,lD] at h';exact .inl ⟨O.stop H' (s'.trans G.fh),E.nx _ _ _ _ _ (P.trans s') G L h'⟩⟩
theorem xF{c:TT}{tb:TS}(L:TF K (List.range n) c fc)(M:SF K n m tb fb):SF K n m (rm c tb) (fT fc fb):=⟨by
 intro F Z H σ0 σ ρ A D f R p E h;obtain⟨N,h⟩:=h;refine⟨λk j H'=>∃F' l A',Same F F'/\Rel K F' Z H' j l A'/\Pin n m σ0 j/\ci fc fb f k l,⟨N,F,ρ,A,Same.refl _,R,p,h⟩,?_⟩;rintro k j H' ⟨F',l,A',s',P,y,h'⟩
 cases k with
 |zero=>rw[qr] at h';exact h'.elim
 | succ k=>
  rw[jD] at h';refine L.h (View.id y.1) P h' λb G F1 H1 Q q x C=>?_
  cases b with
  |false=>exact E.nx _ _ _ _ _ (s'.trans x) C y (xu q)
  | true=>
   replace q:=xt q;rw[if_pos rfl]
   have u:∀g r a d s,Same F1 g->Rel K g Z r a d s->Pin n m σ0 a->ci fc fb f k d->∃w e z,Same F w/\Rel K w Z r a e z/\Pin n m σ0 a/\ci fc fb f k e:=
    λg r a d s t O J I=>⟨g,d,s,(s'.trans x).trans t,O,J,I⟩
   exact⟨λi H2=>∃w e z,Same F w/\Rel K w Z H2 i e z/\Pin n m σ0 i/\ci fc fb f k e,λi H2 q=>⟨k,aaz k,q⟩,
    M.h (fD:={ nx:=ci fc fb f k,ct:=ci fc fb f k,bk:=f.nx,rt:=f.rt }) C y ⟨u,λg r a d s v o B t=>E.rt g r a d s v o B ((s'.trans x).trans t),λg r a d s t=>E.nx g r a d s ((s'.trans x).trans t),u⟩ q⟩⟩
end
def oa(fg:FG)(ft:FT)(fe:FE)(P:List D->FSt->Prop):List D->List D->FSt->Prop
 |[],as,ρ=>P as ρ
 | d::ds,as,ρ=>fg d ρ λf=>ft f λb a=>br b (fe a λr e=>match fzR r e with
  |some (y,c)=>as.length<sizeLine/\oa fg ft fe P ds (as++[y]) c
  |none=>False) (oa fg ft fe P ds as a)
@[irreducible] def eG(fg:FG)(ft:FT)(fe:FE)(P:List D->FSt->Prop)(ds as:List D)(ρ:FSt):Prop:=oa fg ft fe P ds as ρ
theorem j9(fg:FG)(ft:FT)(fe:FE)(P:List D->FSt->Prop)(ds:List D):eG fg ft fe P ds=oa fg ft fe P ds:=by funext as ρ;unfold eG;rfl
theorem iF(fg:FG)(ft:FT)(fe:FE)(P:List D->FSt->Prop)(as:List D)(ρ:FSt):eG fg ft fe P [] as ρ=P as ρ:=by rw[j9];rfl
theorem iG(fg:FG)(ft:FT)(fe:FE)(P:List D->FSt->Prop)(d:D)(ds as:List D)(ρ:FSt):eG fg ft fe P (d::ds) as ρ=(fg d ρ λf=>ft f λb a=>br b (fe a λr e=>match fzR r e with
  |some (y,c)=>as.length<sizeLine/\eG fg ft fe P ds (as++[y]) c
  |none=>False) (eG fg ft fe P ds as a)):=by rw [j9,j9];rfl
theorem tD{P:List D->FSt->Prop}(h:P as ρ):eG fg ft fe P [] as ρ:=by rw[iF];exact h
theorem qu{P:List D->FSt->Prop}(h:fg d ρ λf=>ft f λb a=>br b (fe a λr e=>match fzR r e with
  |some (y,c)=>as.length<sizeLine/\eG fg ft fe P ds (as++[y]) c
  |none=>False) (eG fg ft fe P ds as a)):eG fg ft fe P (d::ds) as ρ:=by rw [iG];exact h
def Ir(no:Nat)(fi:FI)(fg:FG)(ft:FT)(fe:FE):FE:=λρ Q=>fi ρ λds ρ1=>lB (List.replicate no none++ρ1) (eG fg ft fe (λas a=>Q (.ov (.fl as)) (a.drop no)) ds [])
def muC(no:Nat)(ixs μ:List Nat):List Nat:=List.range no++ixs.map λj=>no+μ.getD j 0
section
variable {K:Frag}     
theorem Slots.none_app{K:Frag}{F H:Hp}{σ:St}{ρ:FSt}{A:List Addr}(h:Slots K F H σ ρ A):∀n,Slots K F H (List.replicate n none++σ) (List.replicate n none++ρ) A
 |0=>h
 |n+1=>.skip (Slots.none_app h n)
theorem Slots.dropN{K:Frag}(n:Nat)(h:Slots K F H σ ρ A):∃A' B,A=B++A'/\Slots K F H (σ.drop n) (ρ.drop n) A':=by
 induction h generalizing n with
 |nil=>cases n <;> exact⟨[],[],rfl,.nil⟩
 | skip t a=>
  cases n with
  |zero=>exact ⟨_,[],rfl,.skip t⟩
  |succ n=>exact a n
 | @has _ _ _ _ C _ h t a=>
  cases n with
  |zero=>exact ⟨_,[],rfl,.has h t⟩
  | succ n=>
   obtain⟨A',B,rfl,h2⟩:=a n;exact⟨A',C++B,by rw[aar],h2⟩
theorem Rel.write{o:HO}(R:Rel K F Z H σ ρ A)(g:a∉A)(f:F a=none)(d:Z a=none):Rel K F Z (upd H a o) σ ρ A:=by
 have e:∀b u,b≠a->H b=some u->upd H a o b=some u:=λb u h q=>by rw[aj h];exact q
 exact⟨R.sl.keep (Same.refl _) λb u c q=>e b u (λz=>g (z ▸ c)) q,R.nd,R.fr,λb u q=>e b u (λz=>by rw[z,f] at q;cases q) (R.fh b u q),⟨λb u q=>e b u (λz=>by rw[z,d] at q;cases q) (R.zh.s b u q),R.zh.n⟩,R.dj⟩
theorem lF{c:St}(f:View μ c σ)(e:∀j∈ixs,j<μ.length):View (muC no ixs μ) (List.replicate no none++lr c ixs) (List.replicate no none++σ):=by
 intro j i h;unfold muC at h;by_cases b:j<no
 ·rw[List.getElem?_append_left (by exists b)] at h;have:=j8 no j i h;subst this;rw[List.getElem?_append_left (by exists b),List.getElem?_append_left (by exists b)];refine⟨rfl,?_,?_⟩ <;> simp <;> nofun
 ·rw[List.getElem?_append_right (by exists b)] at h;rw[abT,List.getElem?_map,aaq] at h;obtain⟨a,h1,h2⟩:=h;have d:=e a (List.mem_of_getElem? h1);obtain⟨v1,g,k⟩:=f a (μ.getD a 0) (by rw[List.getD_eq_getElem?_getD,List.getElem?_eq_getElem d];rfl);have l:j - no<ixs.length:=(List.getElem?_eq_some_iff.mp h1).1;refine⟨?_,?_,?_⟩
  ·rw[List.getElem?_append_right (by exists b),aaV,← h2,List.getElem?_append_right (by simp),aaV,abt,← v1];unfold lr;rw[List.getElem?_map,h1];show some ((c[a]?).getD none)=c[a]?;rw[List.getElem?_eq_getElem g];rfl
  ·unfold lr;simp;nofun
  ·simp;nofun
abbrev Iu(K:Frag)(fg:FG)(fc:FT)(fe:FE)(P:RV->FSt->Prop)(no:Nat)(m:List Nat)(F1 Z:Hp)(σ:St)(a:Addr)(rest:List D)(acc:List V)(d:St)(H':Hp):Prop:=
 ∃F' b A' c as,Same F1 F'/\Rel K F' Z H' c b A'/\View m d c/\(∀i,no<=i->c[i]?=(List.replicate no none++σ)[i]?)/\H' a=some (.lst acc)/\F' a=none/\a∉A'/\Dens K F' acc as /\
   eG fg fc fe (λas b=>P (.ov (.fl as)) (b.drop no)) rest as b
theorem Dy(hi:ITF K μ wi fi)(hix:∀j∈ixs,j<μ.length)(hg:GF K (muC no ixs μ) T g fg)(hT:∀i∈T,i<no)
  (hc:TF K (muC no ixs μ) tc fc) (he:EF K (muC no ixs μ) te fe):EF K μ (gR no ixs wi g tc te) (Ir no fi fg fc fe):=⟨by
 intro F Z H τ σ ρ A Q P vw R h q;refine hi.h vw R h λds ρ1 J F1 H1 A1 h1 s1 X wk=>?_;rw[fS] at h1;intro a ha;have N:F1 a=none:=X.fh.free ha;have C:Z a=none:=X.zh.free ha
 have U:a∉A1:=λz=>by
  obtain⟨u,hu⟩:=X.sl.live a z;rw[ha] at hu;cases hu
 have R1':Rel K F1 Z (upd H1 a (.lst [])) (List.replicate no none++σ) (List.replicate no none++ρ1) A1:=by
  have:=X.write (o:=.lst []) U N C;exact⟨this.sl.none_app no,this.nd,this.fr,this.fh,this.zh,this.dj⟩
 have L:∀F' H' f l A' acc as,Same F1 F'->Rel K F' Z H' f l A'->(∀i,no<=i->f[i]?=(List.replicate no none++σ)[i]?)->H' a=some (.lst acc)->F' a=none->a∉A'->Dens K F' acc as->P (.ov (.fl as)) (l.drop no)->Q (.ref a) H':=by
  intro F' H' f l A' acc as s' c k ha' hF' hA' dn p;obtain⟨Y,B2,e2,G⟩:=c.sl.dropN no
  have es:f.drop no=σ:=by
   apply List.ext_getElem?;intro i;rw[List.getElem?_drop,k (no+i) (by omega),List.getElem?_append_right (by simp),aaV,abt]
  rw[es] at G;have W:∀b∈Y,b∈A':=λb w=>by rw[e2];exact abE.mpr (.inr w)
  have R2:Rel K F' Z H' σ (l.drop no) Y:=⟨G,by have:=c.nd;rw[e2,abP] at this;exact this.2.1,λb w=>c.fr b (W b w),c.fh,c.zh,c.dj⟩
  exact q _ _ _ _ _ _ [a] p (s1.trans s') R2 (.fl ha' dn) ⟨by simp,λb w=>by
   have:b=a:=(by exists w);subst this;exact⟨hF',C,λz=>hA' (W _ z)⟩⟩
 refine⟨λi k acc n H'=>k=ds.length - i/\i<=ds.length/\Iu K fg fc fe P no (muC no ixs μ) F1 Z σ a (ds.drop i) acc n H',
  ⟨_,rfl,aan _,F1,_,A1,_,[],Same.refl _,R1',lF vw hix,λ_ _=>rfl,af,N,U,.nil,by rw[abj];exact h1⟩,?_⟩
 rintro i k acc n H' ⟨rfl,hle,F',l,A',f,as,s',c,vw',kp,O,M,S,dn,h'⟩;by_cases m:i<ds.length
 ·rw[aaD m,iG] at h';refine .inr ⟨wk.go H' i (s'.trans c.fh) m,λacc n H'=>Iu K fg fc fe P no (muC no ixs μ) F1 Z σ a (ds.drop (i+1)) acc n H',λacc' s H2 z=>⟨_,by omega,rfl,m,z⟩,λx H2 y=>?_⟩;obtain⟨rfl,d,hd,dx⟩:=wk.yld H' i x H2 (s'.trans c.fh) m y;rw[List.getElem?_eq_getElem m] at hd;cases hd;refine hg.h vw' c (dx.mono s') h' fun τ2 s ρ2 Y p2 t R2 k2 kl2 _ W=>?_
  have I:∀i,no<=i->s[i]?=(List.replicate no none++σ)[i]?:=λi hi=>by
   rw[k2 i λz=>by have:=hT i z;omega];exact kp i hi
  have fD:Fresh F' Z Y [a]:=⟨by simp,λb w=>by
   have:b=a:=(by exists w);subst this;exact⟨M,C,λz=>S (W _ z)⟩⟩
  obtain⟨Z',sz,R2',zl,back⟩:=R2.hold (B:=[a]) (λb w=>by
   have:b=a:=(by exists w);subst this;exact⟨_,O⟩) (.one O (λ_ z=>nomatch z) .nil) fD
  refine hc.h t R2' p2 λb ρ3 F3 H3 A3 E D R3=>?_
  cases b with
  | false=>
   replace E:=xu E;rw[if_neg abK];obtain⟨R3',f3,k3⟩:=back _ _ _ _ D R3;have fa:=f3.fr a (by simp);exact⟨F3,ρ3,A3,s,as,s'.trans D,R3',t,I,k3 a _ (by simp) O,fa.1,fa.2.2,dn.mono D,E⟩
  | true=>
   replace E:=xt E;rw[if_pos rfl];refine he.h t R3 E λr ρ4 v F4 H4 A4 B4 V s4 R4 v4 f4=>?_;split at V
   ·rename_i y ρ5 e5;obtain⟨F5,A5,s5,R5,dy,_,_⟩:=R4.frz v4 f4 e5;obtain⟨R5',f5,k5⟩:=back _ _ _ _ ((D.trans s4).trans s5) R5;have fa:=f5.fr a (by simp);refine⟨k5 a _ (by simp) O,by rw[dn.length];exact V.1,F5,ρ5,A5,s,as++[y],((s'.trans D).trans s4).trans s5,R5'.write fa.2.2 fa.1 C,t,I,af,fa.1,fa.2.2,(dn.mono ((D.trans s4).trans s5)).snoc dy,V.2⟩
   ·exact V.elim
 ·have e:i=ds.length:=by omega
  subst e;rw[aby,iF] at h';exact .inl ⟨wk.stop H' (s'.trans c.fh),L _ _ _ _ _ _ _ s' c kp O M S dn h'⟩⟩
def unL(ρ:FSt)(i:Nat):Option (List D):=match ρ[i]? with
 |some (some (.fl ds))=>some ds
 |_=>none
def unD(ρ:FSt)(i:Nat):Option (List Key×List D):=match ρ[i]? with
 |some (some (.fd ks ds))=>some (ks,ds)
 |_=>none
theorem Iv(h:unL ρ i=some ds):ρ[i]?=some (some (.fl ds)):=by
 unfold unL at h;split at h
 ·rename_i os e;cases h;exact e
 ·cases h
theorem lG(h:unD ρ i=some (ks,ds)):ρ[i]?=some (some (.fd ks ds)):=by
 unfold unD at h;split at h
 ·rename_i a os e;cases h;exact e
 ·cases h
theorem Rel.mutL(R:Rel K F Z H σ ρ A)(h:unL ρ i=some ds):∃a xs,σ[i]?=some (some (.ref a))/\H a=some (.lst xs)/\Dens K F xs ds /\
  ∀b c,Dens K F b c->∃A',Rel K F Z (upd H a (.lst b)) σ (ρ.set i (some (.fl c))) A':=by
 have e:=Iv h;obtain⟨v,B,A',h1,h2,k,f,pm⟩:=R.takeI e
 cases h2 with
 | @fl a xs os j dn=>
  have fa:=f.fr a (by simp);refine⟨a,xs,h1,j,dn,λb c d=>?_⟩;have R2:=k.write (o:=.lst b) fa.2.2 fa.1 fa.2.1;obtain⟨l,g,_⟩:=R2.putI (eY e) h1 (.fl af d) f;rw[abx] at g;exact⟨l,g⟩
theorem Rel.mutD(R:Rel K F Z H σ ρ A)(h:unD ρ i=some (ks,ds)):∃a ys,σ[i]?=some (some (.ref a))/\H a=some (.dK ys)/\ys.map (·.1)=ks/\Dens K F (ys.map (·.2)) ds /\
  ∀b c d,b.map (·.1)=c->Dens K F (b.map (·.2)) d->∃A',Rel K F Z (upd H a (.dK b)) σ (ρ.set i (some (.fd c d))) A':=by
 have e:=lG h;obtain⟨v,B,A',h1,h2,n,j,pm⟩:=R.takeI e
 cases h2 with
 | @fd a ys ks os l m dn=>
  have fa:=j.fr a (by simp);refine⟨a,ys,h1,l,m,dn,λb c d f g=>?_⟩;have R2:=n.write (o:=.dK b) fa.2.2 fa.1 fa.2.1;obtain⟨p,k,_⟩:=R2.putI (eY e) h1 (.fd af f g) j;rw[abx] at k;exact⟨p,k⟩
def v9(i:Nat)(fe:FE):FE:=λρ Q=>(unL ρ i).isSome=true/\fe ρ λr b=>match fzR r b with
 | some (d,a)=>(match unL a i with
  |some ds=>ds.length<sizeLine/\Q (.ov (.fz .non)) (a.set i (some (.fl (ds++[d]))))
  |none=>False)
 |none=>False
theorem Iw(p:μ[j]?=some i)(s:EF K μ te fe):EF K μ (tBM K "list" eB (ei j) (c7 te jc)) (v9 i fe):=⟨by
 intro F Z H D σ ρ A Q P k R h q;obtain⟨t,h⟩:=h;obtain⟨z,x⟩:=abV.mp t;obtain⟨a,xs,h1,h2,E,_⟩:=R.mutL x;refine⟨.ref a,(k j i p).1.trans h1,.inl ⟨rfl,xs,SqL.of h2⟩,?_⟩;refine s.h k R h λr m v F1 H1 N J b o C v1 f1=>?_;split at b
 ·rename_i d l w;obtain⟨I,M,n,R2,y,_,_⟩:=C.frz v1 f1 w;split at b
  ·rename_i ds u;obtain⟨G,c,f,g,e,mt⟩:=R2.mutL u;rw[h1] at f;cases f;obtain⟨L,B⟩:=mt (c++[v]) (ds++[d]) (e.snoc y);exact⟨a,c,v,rfl,rfl,g,by rw[e.length];exact b.1,q _ _ _ _ _ _ _ b.2 (o.trans n) B (.fz .non) Fresh.nil⟩
  ·exact b.elim
 ·exact b.elim⟩
def oe(i:Nat)(fe fk:FE):FS:=λE ρ=>fe ρ λr c=>match fzR r c with
 | some (d,b)=>(unL b i).isSome=true/\fk b λs a=>on1 a s λe=>(match e,unL a i with
  | .int k,some ds=>(match ixN ds.length k with
   |some x=>E.nx (a.set i (some (.fl (ds.set x d))))
   |none=>False)
  |_,_=>False)
 |none=>False
def lH:D->Option Key
 |.int i=>some (.inl i)
 |.str z=>some (.inr z)
 |_=>none
def gH(ks:List Key)(ds:List D)(k:Key)(d:D):List Key×List D:=
 if (ks.any λx=>decide (x=k))=true then (ks,(ks.zip ds).map λa=>if a.1=k then d else a.2) else (ks++[k],ds++[d])
def gT(i:Nat)(fe fk:FE):FS:=λE ρ=>fe ρ λr c=>match fzR r c with
 | some (d,b)=>(unD b i).isSome=true/\fk b λs a=>on1 a s λe=>(match lH e,unD a i with
  |some k,some (ks,ds)=>ks.length<sizeLine/\E.nx (a.set i (some (.fd (gH ks ds k d).1 (gH ks ds k d).2)))
  |_,_=>False)
 |none=>False
theorem eI{k:Key}(h:Acc K F H v d)(e:lH d=some k):v=kV k:=by
 cases d with
 |int i=>simp only[lH,Option.some.injEq] at e;subst e;exact h.int_eq
 |str z=>simp only[lH,Option.some.injEq] at e;subst e;exact h.str_eq
 |_=>simp[lH] at e
theorem ka{k:Key}(e:ys.map (·.1)=ks)(dn:Dens K F (ys.map (·.2)) ds)(g:Den K F v d):(gQ ys k v).map (·.1)=(gH ks ds k d).1/\Dens K F ((gQ ys k v).map (·.2)) (gH ks ds k d).2:=by
 have j:ys.length=ds.length:=by have:=dn.length;simpa using this
 unfold gH gQ;have f:(ks.any λx=>decide (x=k))=(ys.any λb=>decide (b.1=k)):=by rw[← e,ab5];rfl
 by_cases c:(ks.any λx=>decide (x=k))=true
 ·have a:(ys.any λb=>decide (b.1=k))=true:=f ▸ c;rw[if_pos a,if_pos c];constructor
  ·rw[aat,← e];refine aay λb _=>?_;show (if b.1=k then (b.1,v) else b).1=b.1;split <;> rfl
  ·subst e;clear c a j f
   induction ys generalizing ds with
   |nil=>cases dn;exact .nil
   | cons y ys i=>
    cases dn with
    | cons m l=>
     refine .cons ?_ (i l);show Den K F (if y.1=k then (y.1,v) else y).2 (if y.1=k then d else _);split
     ·exact g
     ·exact m
 ·have a:¬(ys.any λb=>decide (b.1=k))=true:=f ▸ c;rw[if_neg a,if_neg c];refine⟨by rw[aad,e];rfl,?_⟩;rw[aad];exact dn.snoc g
theorem xG{l:TE}(J:i<n)(L:EF K (List.range n) te fe)(I:EF K (List.range n) l fk):SF K n m (pM te (Ln (ei i) l Ce)) (oe i fe fk):=⟨by
 intro F Z H σ0 σ ρ A D X R p E h;refine L.h (View.id p.1) R h λr y v F1 H1 A1 B1 e C V v1 f1=>?_;split at e
 ·rename_i d u P;obtain⟨F2,A2,B,R2,S,_,_⟩:=V.frz v1 f1 P;obtain⟨M,e⟩:=e;obtain⟨T,Q⟩:=abV.mp M;obtain⟨a,xs,h1,h2,W,_⟩:=R2.mutL Q;refine⟨.ref a,h1,?_⟩;refine I.h (View.id p.1) R2 e λs t w F3 H3 A3 B3 G o q z Y=>?_;obtain⟨dk,N,c⟩:=bX G;split at c
  ·rename_i k ds O;split at c
   ·rename_i x ex;obtain⟨a',b,g,j,f,mt⟩:=q.mutL O;rw[h1] at g;cases g;obtain⟨A4,U⟩:=mt (b.set x v) (ds.set x d) (f.set (S.mono o) x);exact⟨a,b,k,x,rfl,(q.acc z N).int_eq,j,by rw[f.length];exact ex,E.nx _ _ _ _ _ ((C.trans B).trans o) U p c⟩
   ·exact c.elim
  ·exact c.elim
 ·exact e.elim⟩
theorem Dz(N:EF K (List.range n) tv fe)(M:EF K (List.range n) ty fk):SF K n m (wB (ei i) ty tv) (gT i fe fk):=⟨by
 intro F Z H σ0 σ ρ A D fD R p E h;refine N.h (View.id p.1) R h λr j v F1 H1 A1 B1 c B R1 v1 f1=>?_;generalize T:fzR r j=o at c;obtain _|⟨d,x⟩:=o
 ·exact False.elim c
 ·obtain⟨F2,A2,z,R2,V,_,_⟩:=R1.frz v1 f1 T;obtain⟨O,c⟩:=c;obtain⟨⟨J,W⟩,U⟩:=abV.mp O;obtain⟨a,xs,h1,h2,h3,_⟩:=R2.mutD U;refine⟨.ref a,h1,?_⟩;refine M.h (View.id p.1) R2 c λs g w F3 H3 A3 B3 I t u y f3=>?_;obtain⟨X,P,b⟩:=bX I;generalize Q:lH X=o at b;generalize S:unD g i=o' at b;obtain _|k:=o
  ·exact False.elim b
  obtain _|⟨ks,ds⟩:=o'
  ·exact False.elim b
  ·obtain⟨a',ys,f,q,e,l,mt⟩:=u.mutD S;rw[h1] at f;cases f;obtain⟨G,C⟩:=ka (k:=k) e l (V.mono t);obtain⟨A4,Y⟩:=mt (gQ ys k v) _ _ G C;have L:ys.length=ks.length:=by rw[← e,abD]
   exact⟨a,_,rfl,.inl ⟨ys,k,q,eI (u.acc y P) Q,by rw[L];exact b.1,rfl⟩,E.nx _ _ _ _ _ ((B.trans z).trans t) Y p b.2⟩⟩
end
def outs(m:List Nat):Nat->List OV->FSt->Option (List OV)
 |_,[],_=>some []
 | i,o::os,ρ=>if m.contains i=true then (match ρ[i]? with
   |some (some o')=>(outs m (i+1) os (ρ.set i none)).map (o'::·)
   |_=>none) else (outs m (i+1) os ρ).map (o::·)
def tE:OV->Bool
 |.fz _=>true
 |_=>false
def fin(m:List Nat)(os:List OV)(P:OV->List OV->Prop)(o:OV)(ρ:FSt):Prop:=match outs m 0 os ρ with
 |some a=>P o a
 |none=>False
def ai(n:Nat)(os:List OV):FSt:=os.map some++List.replicate (n - os.length) none
section
variable {K:Frag}
theorem Ows.length{F H:Hp}{vs:List V}{os:List OV}{A:List Addr}(h:Ows K F H vs os A):vs.length=os.length:=by
 induction h with
 |nil=>rfl
 |cons _ t a=>exact congrArg (·+1) a
theorem Slots.nones(k:Nat):Slots K F H (List.replicate k none) (List.replicate k none) []:=by
 induction k with
 |zero=>exact .nil
 |succ k a=>exact .skip a
theorem Slots.of_ows(k:Nat){os:List OV}(h:Ows K F H vs os A):Slots K F H (vs.map some++List.replicate k none) (os.map some++List.replicate k none) A:=by
 induction h with
 |nil=>exact Slots.nones k
 |cons h t a=>exact .has h a
theorem Rel.outs :∀{vs:List V} {os:List OV} {C:List Addr} {i:Nat} {ρ:FSt} {A:List Addr} {c:List OV},Ows K F H vs os C->Same F F'->(∀j o,os[j]?=some o->i+j∉m->tE o=true) ->
  (∀j v,vs[j]?=some v->i+j∈m->σ[i+j]?=some (some v))->Rel K F' Z H' σ ρ A->L2.outs m i os ρ=some c->∃C' A':List Addr,Ows K F' H' vs c C'/\Rel K F' Z H' σ ρ A/\C'.Nodup/\(∀a,a∈C'->a∈A/\a∉A')/\(∀a,a∈A'->a∈A):=by
 intro vs
 induction vs with
 | nil=>
  intro os C i ρ A c h s w x R e;cases h;simp only[L2.outs,Option.some.injEq] at e;subst e;exact⟨[],A,.nil,R,abS,λ_ z=>(nomatch z),λ_ z=>z⟩
 | cons v vs G=>
  intro os C i ρ A c h s w x R e
  cases h with
  | @cons _ o _ os S Q h t=>
   simp only[L2.outs] at e;have g:∀j o,os[j]?=some o->i+1+j∉m->tE o=true:=λj o q n=>w (j+1) o (by exists q) (by rw[show i+(j+1)=i+1+j by nofun];exact n)
   have k:∀j v,vs[j]?=some v->i+1+j∈m->σ[i+1+j]?=some (some v):=λj v q n=>by
    have:=x (j+1) v (by exists q) (by rw[show i+(j+1)=i+1+j by nofun];exact n);rw[show i+1+j=i+(j+1) by nofun];exact this
   split at e
   ·rename_i d;have d:i∈m:=(by exists d);split at e
    ·rename_i o' L;rw[aaq] at e;obtain⟨u,D,rfl⟩:=e;obtain⟨J,P,A',h1,h2,O,B,pm⟩:=R.takeI L;have I:=x 0 v rfl (by exists d);rw[Nat.add_zero] at I;have:J=v:=by rw[I] at h1;simpa using h1.symm
     subst this;obtain⟨C',E,r,_,n1,f,p⟩:=G t s g k O D;refine⟨P++C',E,.cons h2 r,R,abP.mpr ⟨B.nd,n1,λa l b N z=>(B.fr a l).2.2 (by rw[z];exact(f b N).1)⟩,λa l=>?_,λa l=>pm.mem_iff.mpr (abE.mpr (.inr (p a l)))⟩;rcases abE.mp l with z|z
     ·exact⟨pm.mem_iff.mpr (abE.mpr (.inl z)),λy=>(B.fr a z).2.2 (p a y)⟩
     ·exact⟨pm.mem_iff.mpr (abE.mpr (.inr (f a z).1)),(f a z).2⟩
    ·cases e
   ·rename_i d;rw[aaq] at e;obtain⟨u,D,rfl⟩:=e;have d:i∉m:=(by exists d);have M:=w 0 o rfl (by exists d);obtain⟨C',E,r,_,n1,f,p⟩:=G t s g k R D
    cases h with
    |fz dn=>exact⟨C',E,.cons (.fz (dn.mono s)) r,R,n1,f,p⟩
    |_=>simp[tE] at M
theorem Fun.okF{P:Program}{mg:Str->Option Value}{base:Heap}{qual:Str}{st:Stmt}{f:Addr}{fd:FuncData}{N ps:List Str}{k:Nat}{fs:FS}(F:Fun K x qual st f fd)(S:FnScope N ps (aw st))
  (hN:ps.length<=N.length) (p:∀os P,c os P->os.length=ps.length/\∀j o,os[j]?=some o->j∉m->tE o=true) (hm:∀i∈m,i<ps.length)
  (y:∀(cdv:Value) (A:Around) (outer:List Env) (s:Shared) (H:Hp) (E:XK),Room k (A.deeper (envOfC qual (aw st) s.heap.objs.size f cdv)) ->
   ∃t,BSs (rP CX0 P w K mg base N qual (aw st) f cdv A outer s H E).nox (bu st) t/\SF K N.length m t fs)
  (hc:∀os P,c os P->fs { nx:=fin m os P (.fz .non),rt:=fin m os P } (ai N.length os)):FnOk P w K mg base CX0 (k+1) f fd ps (spM K c):=by
 refine F.okB S (λvs H Q E h=>?_) (λcdv A outer s H vs Q E hr h=>?_)
 ·obtain⟨F1,Z,os,C,u,_,_,_,G,_,_,r,_⟩:=h;rw[G.length];exact(p os u r).1
 ·obtain⟨F1,Z,os,C,u,V,sz,dj,G,nd,fr,r,q⟩:=h;obtain⟨t,X,hs⟩:=y cdv A outer s H E hr;refine⟨t,X,?_⟩;have hl:=(p os u r).1;have M:=G.length
  have R:Rel K F1 Z H (start N vs) (ai N.length os) C:=by
   refine⟨?_,nd,fr,V,sz,dj⟩;unfold start ai;rw[M];exact Slots.of_ows _ G
  have Y:(start N vs).length=N.length:=by unfold start;simp;nofun
  have d:∀F' H' g l A' v o B,Same F1 F'->Rel K F' Z H' g l A'->Pin N.length m (start N vs) g->Ow K F' H' v o B->Fresh F' Z A' B->fin m os u o l->Q v H':=by
   intro F' H' g l A' v o B s' D J W I h';unfold fin at h';split at h'
   ·rename_i L e
    obtain⟨C',A2,U,_,n1,T,m2⟩:=Rel.outs (i:=0) G s' (λj o q n=>(p os u r).2 j o q (by exists n)) (λj v q n=>by
     have hj:j<vs.length:=(List.getElem?_eq_some_iff.mp q).1;rw[Nat.zero_add] at n ⊢;rw[J.2 j n];unfold start;rw[List.getElem?_append_left (by exists hj),List.getElem?_map,q];rfl) D e
    refine q o L v F' H' C' B h' s' D.fh D.zh.s D.dj U W (abP.mpr ⟨n1,I.nd,λa O b hb z=>(I.fr b hb).2.2 (by rw[← z];exact(T a O).1)⟩) λa O=>?_;rcases abE.mp O with z|z
    ·exact D.fr a (T a z).1
    ·exact⟨(I.fr a z).1,(I.fr a z).2.1⟩
   ·exact h'.elim
  exact hs.h (fD:={ nx:=fin m os u (.fz .non),rt:=fin m os u }) R (Pin.refl Y) ⟨λF' H' g l A' s' D J h'=>d F' H' g l A' .non (.fz .non) [] s' D J (.fz .non) Fresh.nil h',
   d,λ_ _ _ _ _ _ _ _ z=>z.elim,λ_ _ _ _ _ _ _ _ z=>z.elim⟩ (hc os u r)
end
def Nc:R2:=λx y H Q=>∃a v,x=.ref a/\DGet H a y (some v)/\Q v H
theorem DA(e:X.A.units+1<cLine):IxR X Nc:=by
 intro value slice pins s σ H x y v u Q I d c h hs;obtain⟨a,z,rfl,g,q⟩:=h;cases d;exact tail_any (mP I g) PySem.F.slot_dict_getitem.lookup (rW e I g c λi j f b=>⟨z,H,f,b,q⟩) hs
def K6(K:Frag):R2:=λx y H Q=>rIx K x y H Q∨Nc x y H Q
def Nd:R2:=λx y H Q=>∃a o,y=.ref a/\DGet H a x o/\Q (.bl o.isSome) H
def tF:R2:=λx y H Q=>∃a o,y=.ref a/\DGet H a x o/\Q (.bl (!o.isSome)) H
theorem Iy(d:X.A.units+1<cLine):OpR X (compareOp .In) Nd:=by
 intro pins s σ H x y v u Q I c b h;obtain⟨a,o,rfl,g,q⟩:=h;cases b;exact d_in d I g c λf e=>⟨.bl o.isSome,H,e,rfl,q⟩
theorem tG(d:X.A.units+1<cLine):OpR X (compareOp .NotIn) tF:=by
 intro pins s σ H x y v u Q I c b h;obtain⟨a,o,rfl,g,q⟩:=h;cases b;exact Cg d I g c λf e=>⟨.bl (!o.isSome),H,e,rfl,q⟩
def L7(K:Frag):R2:=λx y H Q=>M8 K x y H Q∨Nd x y H Q
def tH(K:Frag):R2:=λx y H Q=>sx K x y H Q∨tF x y H Q
theorem DB(K:Frag)(a:X.A.units+64<cLine)(h:X.K=K):BOp X (compareOp .In) (L7 K):=by subst h;exact⟨OpR.or Ha (Iy (by nofun))⟩
theorem qv(K:Frag)(a:X.A.units+64<cLine)(h:X.K=K):BOp X (compareOp .NotIn) (tH K):=by subst h;exact⟨OpR.or sy (tG (by nofun))⟩
theorem Iz{a b:Expr}(K:Frag)(f:X.A.units+64<cLine)(d:BE X a ta)(c:BE X b tb)(hs:∀o i,subscripted b false o i=operate [o,i] (getItem o i))(e:X.K=K):BE X (.Subscript a b pos) (tOp (K6 K) ta tb):=by
 subst e;exact⟨LB (IxR.or GW (DA (by nofun))) d.h c.h hs⟩
def IA(b:Int->Int->Bool)(a:Str->Str->Bool):R2:=λx y H Q=>(∃i j,x=.int i/\y=.int j/\Q (.bl (b i j)) H)∨∃i j,x=.str i/\y=.str j/\Q (.bl (a i j)) H
def aU(x y:Str):Bool:=decide (x.cps.toList<y.cps.toList)
theorem IB:OpR X (compareOp .Lt) (λx y H Q=>∃i j,x=.str i/\y=.str j/\Q (.bl (aU i j)) H):=by
 intro pins s σ H x y v u Q I b a h;obtain⟨i,j,rfl,rfl,q⟩:=h;obtain⟨t,rfl⟩:=b;obtain⟨t',rfl⟩:=a;exact PyProof.Rows.lt_str ⟨.bl _,H,I,rfl,q⟩
theorem IC:OpR X (compareOp .LtE) (λx y H Q=>∃i j,x=.str i/\y=.str j/\Q (.bl (!aU j i)) H):=by
 intro pins s σ H x y v u Q I b a h;obtain⟨i,j,rfl,rfl,q⟩:=h;obtain⟨t,rfl⟩:=b;obtain⟨t',rfl⟩:=a;refine PySem.P.le_str ⟨.bl _,H,I,rfl,?_⟩;have e:decide (¬(j.cps.toList<i.cps.toList))=!aU j i:=by unfold aU;rw[decide_not]
 first|exact q|(rw[← e] at q;exact q)|(simpa [aU] using q)
theorem ID:OpR X (compareOp .Gt) (λx y H Q=>∃i j,x=.str i/\y=.str j/\Q (.bl (aU j i)) H):=by
 intro pins s σ H x y v u Q I b a h;obtain⟨i,j,rfl,rfl,q⟩:=h;obtain⟨t,rfl⟩:=b;obtain⟨t',rfl⟩:=a;exact PySem.P.gt_str ⟨.bl _,H,I,rfl,q⟩
theorem IE:OpR X (compareOp .GtE) (λx y H Q=>∃i j,x=.str i/\y=.str j/\Q (.bl (!aU i j)) H):=by
 intro pins s σ H x y v u Q I b a h;obtain⟨i,j,rfl,rfl,q⟩:=h;obtain⟨t,rfl⟩:=b;obtain⟨t',rfl⟩:=a;refine PySem.P.ge_str ⟨.bl _,H,I,rfl,?_⟩;have e:decide (¬(i.cps.toList<j.cps.toList))=!aU i j:=by unfold aU;rw[decide_not]
 first|exact q|(rw[← e] at q;exact q)|(simpa [aU] using q)
theorem DC:BOp X (compareOp .Lt) (IA (λi j=>decide (i<j)) aU):=⟨OpR.or Lv IB⟩
theorem DD:BOp X (compareOp .LtE) (IA (λi j=>decide (i<=j)) λi j=>!aU j i):=⟨OpR.or Lw IC⟩
theorem DE:BOp X (compareOp .Gt) (IA (λi j=>decide (j<i)) λi j=>aU j i):=⟨OpR.or Lx ID⟩
theorem DF:BOp X (compareOp .GtE) (IA (λi j=>decide (j<=i)) λi j=>!aU i j):=⟨OpR.or Ly IE⟩
def tyD:D->String
 |.non => "NoneType"
 |.bl _ => "bool"
 |.int _ => "int"
 |.str _ => "str"
 |.lst _ => "list"
 |.tup _ => "tuple"
 |.dct _ _ => "dict"
 |.ty _ => "type"
 |.opq _ _ => "dict"
 |.gt _ => "tuple"
 |.dt _ _ => "dict"
def DG(T:String):Bool:=T == "str" || T == "int" || T == "bool" || T == "list" || T == "tuple" || T == "dict" || T == "NoneType"
theorem tI{T:String}(h:DG T=true):okT T:=by
 simp only[DG,Bool.or_eq_true,beq_iff_eq] at h;unfold okT;rcases h with (((((h|h)|h)|h)|h)|h)|h <;> simp[h]
def L8(K:Frag):List V->Hp->VK->Prop:=λxs H Q=>∃x d T,xs=[x,.ty T]/\Den K H x d/\DG (tyD d)=true/\DG T=true/\Q (.bl (isT (tyD d) T)) H
theorem xH:CallR X (.builtin "isinstance") (L8 X.K):=by
 intro pins s σ H xs us Q I r h;obtain⟨x,d,T,rfl,dn,g,k,q⟩:=h;obtain⟨u,j,rfl,c,f⟩:=wq r;cases (show j=Value.type T from f);have e:=G4 (K:=X.K) (tI g) (tI k);have fin:∀tk,EP X pins σ Q (.bool (isT (tyD d) T)) { s with toks:=tk }:=λtk=>⟨.bl _,H,I.tok tk,rfl,q⟩
 cases dn with
 |non=>exact fO I c .non e fin
 |bl b=>exact fO I c (.bl b) e fin
 |int i=>exact fO I c (.int i) e fin
 |str z=>exact fO I c (.str z) e fin
 |ty w=>simp[tyD,DG] at g
 | @lst a ys ds hs t=>
  cases (show u=Value.ref a from c);obtain⟨its,_,⟨o,n,h1,h2,_⟩,_⟩:=I.list hs;exact aaw PySem.W.kitx_list I.kIn ⟨_,h1,h2⟩ e (λz=>nomatch z) fin
 | @tup a ys ds hs t=>
  cases (show u=Value.ref a from c);obtain⟨its,_,⟨o,h1,h2,_⟩,_⟩:=I.tuple (SqT.of hs);exact aaw PySem.W.kitx_tuple I.kIn ⟨o,h1,h2⟩ e (λz=>nomatch z) fin
 | @gt a ys ds hs t=>
  cases (show u=Value.ref a from c);obtain⟨its,_,⟨o,h1,h2,_⟩,_⟩:=I.tuple hs;exact aaw PySem.W.kitx_tuple I.kIn ⟨o,h1,h2⟩ e (λz=>nomatch z) fin
 | @dt a ys ks ds hs m t=>
  cases (show u=Value.ref a from c);obtain⟨_,_,xs,_,o,es,ep,h1,h2,_⟩:=(show ObjOk X.prog X.w H s.heap a (.dT ys) from hs.ok I.hok);exact aaw abw I.kIn ⟨o,h1,h2.1⟩ e (λz=>nomatch z) fin
 | @dct a ys ks ds hs m t=>
  cases (show u=Value.ref a from c);obtain⟨_,_,vs,_,p⟩:=(show ObjOk X.prog X.w H s.heap a (.dK ys) from hs.ok I.hok);obtain⟨o,es,ep,h1,h2,_⟩:=p;exact aaw abw I.kIn ⟨o,h1,h2.1⟩ e (λz=>nomatch z) fin
 | @opq a ys n hs v l=>
  cases (show u=Value.ref a from c);obtain⟨_,_,vs,_,p⟩:=(show ObjOk X.prog X.w H s.heap a (.dK ys) from hs.ok I.hok);obtain⟨o,es,ep,h1,h2,_⟩:=p;exact aaw abw I.kIn ⟨o,h1,h2.1⟩ e (λz=>nomatch z) fin
theorem IF(K:Frag)(h:X.K=K):BCall X (.builtin "isinstance") (L8 K):=by subst h;exact⟨xH⟩
def IG(K:Frag):R2:=λx y H Q=>∃l b xs zs,x=.ref l/\y=.ref b/\SqL K H l xs/\SqL K H b zs/\xs.length+zs.length<=sizeLine/\∀p,H p=none->Q (.ref p) (upd H p (.lst (xs++zs)))
theorem DH:OpR X (binaryOp .Add) (IG X.K):=by
 intro pins s σ H x y v u Q I p o h;obtain⟨l,b,xs,zs,rfl,rfl,w,z,C,q⟩:=h;cases p;cases o;obtain⟨its,r,⟨⟨cls,E,data,sl⟩,n,j,k,d,hd⟩,_⟩:=I.list w;obtain⟨its2,i,⟨⟨m,B,data2,g⟩,n2,c,f,a,e⟩,_⟩:=I.list z;dsimp only at k hd f e d a;subst k hd f e d a;have D:=r.length;have t:=i.length;refine concat_meets ⟨_,j,rfl⟩ ⟨_,c,rfl⟩ noFill_list_add seq_list_add PySem.F.slot_list_add PySem.F.entry_list_add (PySem.F.args_list_add_2 _ _) (list_addW l b its.toArray its2.toArray n n2 none none sl g (by simp;nofun)) ⟨j,c,?_⟩;have A:its.toArray++its2.toArray=(its++its2).toArray:=by simp
 rw[A];exact⟨.ref _,_,I.lnew (t':=s.toks) (r.append i) (by rw[abH];nofun),rfl,q _ I.fresh⟩
def IH(K:Frag):R2:=λx y H Q=>(∃i j,x=.int i/\y=.int j/\Q (.int (i+j)) H)∨(∃i j,x=.str i/\y=.str j/\i.length+j.length<=sizeLine/\Q (.str (i++j)) H)∨IG K x y H Q∨GT K x y H Q
theorem xI(K:Frag)(h:X.K=K):BOp X (binaryOp .Add) (IH K):=by subst h;exact⟨GD.or (pQ.or (DH.or Cb))⟩
theorem tJ:CallR X (.builtin "ord") (λxs H Q=>∃c:Nat,xs=[.str ⟨#[c]⟩]/\Q (.int c) H):=by
 intro pins s σ H xs us Q I r h;obtain⟨c,rfl,q⟩:=h;obtain⟨u,rfl,a⟩:=dZ r;obtain⟨t,rfl⟩:=a;exact PySem.P.ord_of_char ⟨.int c,H,I.tok _,⟨_,rfl⟩,q⟩
def Nf:List V->Hp->VK->Prop:=λxs H Q=>∃c:Nat,xs=[.str ⟨#[c]⟩]/\Q (.int c) H
theorem II:BCall X (.builtin "ord") Nf:=⟨tJ⟩
def tGU(K:Frag)(xs:List V):TE:=λ_ H Q=>∀a,(∀H',SqT K H' a xs)->Q (.ref a) H
theorem DI{K:Frag}(h:HQ K X.mg x xs)(b:X.env.kindOf x=some .globalImplicit)(hd:autoParam ((x==("__debug__" : Str))=false) L2.aD._auto_1):BE X (.Name x pos) (tGU K xs):=by
 obtain⟨a,e,hs⟩:=h;exact⟨λpins s σ H Q I q=>Ao (v:=.ref a) ⟨_,e,rfl⟩ b hd pins s σ H Q I (q a hs)⟩
section
variable {K:Frag} 
theorem ax(e:Same F H)(n:Di K F H P Q)(h:Den K F v d)(p:P (.fz d)):Q v H:=n _ v F H [] p (Pure.refl e) (.fz h) New.nil
theorem dM(e:Same F H)(n:Di K F H P Q)(h:Dens K F xs ds)(p:P (.fl ds)):∀q,H q=none->Q (.ref q) (upd H q (.lst xs)):=λq a=>
 n _ (.ref q) F _ [q] p (Pure.new e a) (.fl af h) (New.one a (e.free a))
theorem kb(e:Same F H)(n:Di K F H P Q)(h:Dens K F xs ds)(p:P (.fz (.tup ds))):∀q,H q=none->Q (.ref q) (upd H q (.tup xs)):=λq a=>
 n _ (.ref q) (upd F q (.tup xs)) _ [] p (Pure.frz e a) (.fz (.tup af (h.mono (bp (e.free a))))) New.nil
theorem L9(hd:∀F,Dens K F xs ds):EF K μ (tGU K xs) (fC (.gt ds)):=⟨fun {F Z H c σ ρ A Q P} d R h q a b=>q _ _ _ F H A [] h (Same.refl _) R (.fz (.gt (b F) (hd F))) Fresh.nil⟩
def aI0(g:Int->Int->D):D->D->(OV->Prop)->Prop
 |.int i,.int j,P=>P (.fz (g i j))
 |_,_,_=>False
def aIC(C:Int->Int->Prop)(g:Int->Int->D):D->D->(OV->Prop)->Prop
 |.int i,.int j,P=>C i j/\P (.fz (g i j))
 |_,_,_=>False
theorem IJ(h:∀F i j,Den K F (gV i j) (gD i j)):OpF K (rI0 gV) (aI0 gD):=⟨by
 intro F H x y d e Q P s b a f n
 cases d with
 | int i=>
  cases e with
  | int j=>
   exact⟨_,_,b.int_eq,a.int_eq,ax s n (h F _ _) f⟩
  |_=>exact False.elim f
 |_=>exact False.elim f⟩
theorem jE{C:Int->Int->Prop}(h:∀F i j,Den K F (gV i j) (gD i j)):OpF K (rI C gV) (aIC C gD):=⟨by
 intro F H x y d e Q P s b a f n
 cases d with
 | int i=>
  cases e with
  | int j=>
   exact⟨_,_,b.int_eq,a.int_eq,f.1,ax s n (h F _ _) f.2⟩
  |_=>exact False.elim f
 |_=>exact False.elim f⟩
theorem DJ:OpF K (rI0 λi j=>.int (i - j)) (aI0 λi j=>.int (i - j)):=IJ λ_ _ _=>.int _
theorem DK:OpF K (rI CMul λi j=>.int (i*j)) (aIC CMul λi j=>.int (i*j)):=jE λ_ _ _=>.int _
theorem xJ:OpF K (rI BK λi j=>.int (i / j)) (aIC BK λi j=>.int (i / j)):=jE λ_ _ _=>.int _
theorem DL:OpF K (rI (λ_ j=>0<j) λi j=>.int (i % j)) (aIC (λ_ j=>0<j) λi j=>.int (i % j)):=jE λ_ _ _=>.int _
theorem DM:OpF K (rI F0 λi j=>.int (i ^ j.toNat)) (aIC F0 λi j=>.int (i ^ j.toNat)):=jE λ_ _ _=>.int _
def gU(b:Int->Int->Bool)(a:Str->Str->Bool):D->D->(OV->Prop)->Prop
 |.int i,.int j,P=>P (.fz (.bl (b i j)))
 |.str i,.str j,P=>P (.fz (.bl (a i j)))
 |_,_,_=>False
theorem DN{b:Int->Int->Bool}{a:Str->Str->Bool}:OpF K (IA b a) (gU b a):=⟨by
 intro F H x y d e Q P s g c f n
 cases d with
 | int i=>
  cases e with
  | int j=>
   exact .inl ⟨_,_,g.int_eq,c.int_eq,ax s n (.bl _) f⟩
  |_=>exact False.elim f
 | str i=>
  cases e with
  | str j=>
   exact .inr ⟨_,_,g.str_eq,c.str_eq,ax s n (.bl _) f⟩
  |_=>exact False.elim f
 |_=>exact False.elim f⟩
def b6:D->D->(OV->Prop)->Prop
 |.int i,.int j,P=>P (.fz (.int (i+j)))
 |.str i,.str j,P=>i.length+j.length<=sizeLine/\P (.fz (.str (i++j)))
 |.lst xs,.lst ys,P=>xs.length+ys.length<=sizeLine/\P (.fl (xs++ys))
 |.tup xs,.tup ys,P=>xs≠[]/\xs.length+ys.length<=sizeLine/\P (.fz (.tup (xs++ys)))
 |_,_,_=>False
theorem DO:OpF K (IH K) b6:=⟨by
 intro F H x y d e Q P s k g f n
 cases d with
 | int i=>
  cases e with
  | int j=>
   exact .inl ⟨_,_,k.int_eq,g.int_eq,ax s n (.int _) f⟩
  |_=>exact False.elim f
 | str i=>
  cases e with
  | str j=>
   exact .inr (.inl ⟨_,_,k.str_eq,g.str_eq,f.1,ax s n (.str _) f.2⟩)
  |_=>exact False.elim f
 | lst ds=>
  cases e with
  | lst es=>
   obtain⟨a,xs,rfl,h1,h2⟩:=k.asL s;obtain⟨b,ys,rfl,l,c⟩:=g.asL s;exact .inr (.inr (.inl ⟨a,b,xs,ys,rfl,rfl,h1,l,by rw[h2.length,c.length];exact f.1,dM s n (h2.append c) f.2⟩))
  |_=>exact False.elim f
 | tup ds=>
  cases e with
  | tup es=>
   have m:=g;obtain⟨a,xs,rfl,h1,h2⟩:=k.asT s;obtain⟨b,ys,rfl,l,c⟩:=g.asT s;refine .inr (.inr (.inr ⟨a,b,xs,ys,rfl,rfl,h1,l,λz=>f.1 ?_,by rw[h2.length,c.length];exact f.2.1,λz=>?_,λz=>kb s n (h2.append c) f.2.2⟩))
   ·have:=h2.length;rw[z] at this;exact aaC this.symm
   ·subst z;cases c;have f2:=f.2.2;rw[aam] at f2
    cases k with
    |fz hd=>exact ax s n hd f2
  |_=>exact False.elim f
 |_=>exact False.elim f⟩
end
def cU(a b:Str):Bool:=!aU b a
theorem eJ{a:Str}:cU a b=true↔¬(b.cps.toList<a.cps.toList):=by unfold cU aU;simp
theorem iH(a b c:Str)(h1:cU a b=true)(h2:cU b c=true):cU a c=true:=by
 rw[eJ] at *;exact ab2.mpr (List.le_trans (ab2.mp h1) (ab2.mp h2))
theorem mV(a b:Str):(cU a b || cU b a)=true:=by
 rw[Bool.or_eq_true,eJ,eJ];rcases List.le_total a.cps.toList b.cps.toList with h|h
 ·exact .inl (ab2.mpr h)
 ·exact .inr (ab2.mpr h)
theorem gu{a:Str}(h1:cU a b=true)(h2:cU b a=true):a=b:=by
 rw[eJ] at *;exact j1 (List.le_antisymm (ab2.mp h1) (ab2.mp h2))
def bC(zs:List Str):List Str:=zs.mergeSort cU
theorem aK(zs:List Str):(bC zs).Perm zs:=List.mergeSort_perm zs _
theorem bR(zs:List Str):(bC zs).Pairwise λa b=>cU a b=true:=List.pairwise_mergeSort iH mV zs
theorem eM:∀(p:Str) (l:List Str),risingS p l=true->(p::l).Pairwise λa b=>cU a b=true
 |p,[],_=>List.pairwise_singleton _ _
 | p,x::r,h=>by
  simp only[risingS,Bool.and_eq_true] at h;have e:=eM x r h.2
  have c:cU p x=true:=by
   unfold cU aU;rw[← ltCps_eq];exact h.1
  refine List.pairwise_cons.mpr ⟨λy d=>?_,e⟩;rcases abI.mp d with rfl|d
  ·exact c
  ·exact iH _ _ _ c (List.rel_of_pairwise_cons e d)
theorem dU:∀(l:List Str),sortedS l=true->l.Pairwise λa b=>cU a b=true
 |[],_=>.nil
 |x::r,h=>eM x r h
theorem gI(c:ss.Perm zs)(hs:sortedS ss=true):ss=bC zs:=
 List.Perm.eq_of_pairwise (le:=λa b=>cU a b=true) (λa b _ _ h1 h2=>gu h1 h2) (dU ss hs) (bR zs) (c.trans (aK zs).symm)
theorem iI(c:ss.Perm zs)(hs:ss.Pairwise λa b=>cU a b=true):ss=bC zs:=
 List.Perm.eq_of_pairwise (le:=λa b=>cU a b=true) (λa b _ _ h1 h2=>gu h1 h2) hs (bR zs) (c.trans (aK zs).symm)
section
open PySem.Calls
variable {prog:Program}  {A:Around} {E:Value->Shared->Prop}  {T:String} {r d:Addr}  {P:Nat->Value->Prop} {OK:Heap->Prop}
theorem IK{R:List Value->Shared->Prop}(S:PySem.W.KdlSrc prog w T r d n P OK)(calm:A.handled=none)(ok:OK s.heap)(few:n<=sizeLine)
  (go:∀(g:Heap) (tk:Nat) (acc:Array Value),(∀b o,s.heap.get? b=some o->g.get? b=some o)->s.heap.objs.size<g.objs.size->ItemsOf P acc n->R acc.toList { s with heap:=g,toks:=tk }) :
  wpAny (model prog w) A (collect (.ref r)) R E s:=by
 obtain⟨t,p⟩:=S.there _ ok;unfold collect;refine aaa (wpAny_runValue (codeAny_builtin entry_proto_collect' ?_));rw[aaH PySem.F.plain_proto_collect _];show wpAny _ A.in1 (newList [] >>= λx=>again (.builtin "list.__iadd__" ⟨[x,.ref r],[]⟩)) _ _ s;refine aaa (aaK (aaf ⟨plainId_quiet PySem.F.plain_list_iadd _,codeAny_builtin entry_list_iadd' ?_⟩));rw[aaH PySem.F.plain_list_iadd _];have top:(s.heap.push { cls:=.type "list", data:=.seq ([]:List Value).toArray }).get? s.heap.objs.size=some { cls:=.type "list", data:=.seq #[] }:=Heap.get?_push_size _ rfl;show wpAny _ A.in1 (Builtin.List.listExtendWith (.ref s.heap.objs.size) (.ref r) (.ref s.heap.objs.size)) _ _ _
 have j:=PySem.W.kdl_extend (A:=A) (s:={ s with heap:=s.heap.push { cls:=.type "list", data:=.seq ([]:List Value).toArray } })
  (R:=λ(q:Result) (s':Shared)=>∃(g:Heap) (tk:Nat) (acc:Array Value) (c:Nat),q=.ok (.ret (.ref s.heap.objs.size))/\s'={ s with heap:=g,toks:=tk } /\
   (∀b o,s.heap.get? b=some o->g.get? b=some o)/\g.get? s.heap.objs.size=some { cls:=.type "list", dict:=none,data:=.seq acc c,slots:=#[] }/\ItemsOf P acc n)
  S calm (S.keep _ _ ok λb _ o e=>Heap.get?_push_of_some _ e) s.heap.objs.size (Nat.ne_of_gt t) (Nat.ne_of_gt p) (.ref s.heap.objs.size) 0 top
  (λg tk acc c k i a=>⟨g,tk,acc,c,rfl,rfl,λb o e=>k b o (aak (aag e)) (Heap.get?_push_of_some _ e),i,a⟩) few
 refine abp j (λz s' x=>?_) λe s' x=>?_
 ·cases z with
  | done f=>
   obtain⟨g,tk,acc,c,e,rfl,k,i,a⟩:=x;cases e;exact aaa (wpAny_load i (aaf (go g tk acc k (aag i) a)))
  | again m=>
   refine⟨x.1,codeAny_mono x.2 λq l y=>?_⟩;obtain⟨g,tk,acc,c,rfl,rfl,k,i,a⟩:=y;exact aaa (wpAny_load i (aaf (go g tk acc k (aag i) a)))
 ·obtain⟨_,_,_,_,u,_⟩:=x;cases u
end
theorem lI(W:X.calm=true):CallR X (.builtin "sorted") (λxs H Q=>∃p kvs zs,xs=[.ref p]/\Rd H p (.dK kvs)/\kvs.map (·.1)=zs.map Sum.inr/\kvs.length<64/\∀q ss,H q=none->ss.Perm zs->sortedS ss=true->Q (.ref q) (upd H q (.lst (ss.map .str)))):=by
 intro pins s σ H xs us Q I r h;obtain⟨p,kvs,zs,rfl,O,A,E,q⟩:=h;obtain⟨u,rfl,U⟩:=dZ r;cases U;obtain⟨g,Y,vs,N,m⟩:kvs.length<=sizeLine/\(p==sysModules)=false/\∃vs,KV kvs vs/\s.heap.DictOf (ay X.prog X.w) p vs:=O.ok I.hok;obtain⟨ep,D⟩:=m.dictAt;have G:kvs.length=vs.length:=aa4 N;refine Calls.call_function_entry kind_sorted plain_sorted entry_sorted (args_sorted1 _) ?_;unfold Builtin.«sorted»;refine aaa (m:=checkCount "sorted" 1 1 _) (aaf ?_);refine aaa (IK (PySem.W.kdl_dict (knd:=ay X.prog X.w) (kvs:=vs) (ep:=ep) Y) (by simpa using I.ok.hd W) D (by rw[← G];exact g) λh' tk acc P J f=>?_);have c:acc.toList.length=kvs.length:=by rw[abO,f.1,G]
 have y:StrsAre acc.toList zs:=by
  have d:∀(j:Nat) v,acc.toList[j]?=some v->∃k x,vs[j]?=some (k,x)/\jT k v=true:=λj v e=>f.2 j v (by rw[← Array.getElem?_toList];exact e);clear f P q O m D;generalize acc.toList=us at c d;clear g G E I r
  induction N generalizing us zs with
  | nil=>
   cases zs with
   |nil=>cases us with|nil=>exact .nil|cons a b=>simp at c
   |cons z zs=>simp at A
  | cons h1 h2 V=>
   cases zs with
   |nil=>simp at A
   | cons z zs=>
    cases us with
    |nil=>simp at c
    | cons a b=>
     simp only[List.map_cons,List.cons.injEq] at A;obtain⟨k,x,T,S⟩:=d 0 a rfl;simp only[List.getElem?_cons_zero,Option.some.injEq] at T;subst T;have Z:_=k:=h1.1;rw[← Z,A.1] at S;rcases aN S with ⟨i,t,q,_⟩|⟨z',t,q,rfl⟩
     ·cases q
     ·cases q;exact .cons _ t (V zs A.2 b (by exists c) λj v e=>by simpa using d (j+1) v (by exists e))
 refine aaa (wpAny_newList ?_ (hsz:=by rw[c];exact g));have n:(h'.push (seqObj "list" acc.toList.toArray 0)).get? h'.objs.size=some (seqObj "list" acc.toList.toArray 0):=Heap.get?_push_size _ rfl;have w:s.heap.objs.size<=h'.objs.size:=ab4 J;refine aaa (aaM (aaA slot_list_sort ⟨_,n,rfl⟩ entry_list_sort (list_sort_treeK strKind_oneLt n y.keysOf (λM L rest e=>keyKind_strs (by rw[← e];exact y)) (by rw[c];exact E) λB a1 a2=>⟨_,rfl,?_⟩) (args_list_sort _)));obtain⟨l,b1,b2,b3⟩:=sorted_out_str y a1 a2;obtain⟨e',K⟩:=sortedHeap_at (out:=(arrOf B).map (·.2)) n;have F:l.length=kvs.length:=by rw[b2.length_eq];have:=congrArg List.length A;simpa using this.symm
 refine aaf ⟨_,rfl,.ref h'.objs.size,_,I.laid (t':=tk) (o:=.lst (l.map .str)) (λb ob R=>?_) w ⟨by rw[abD,F];exact g,((arrOf B).map (·.2)).toList,e',eD b1,by rw[abh];exact K⟩,rfl,q h'.objs.size l (I.hok.fresh w) b2 b3⟩;have C:b<h'.objs.size:=aao (aag R) w;rw[sortedHeap_old (aak C) (by rw[size_push'];exact aaL C)];exact Heap.get?_push_of_some _ (P b ob R)
section
variable {K:Frag} 
def Ga(d e:D):Prop:=okD d=true/\okD e=true/\dep (xr d)<=40
def aEq:D->D->(OV->Prop)->Prop:=λd e P=>Ga d e/\P (.fz (.bl (dEq d e)))
def aNe:D->D->(OV->Prop)->Prop:=λd e P=>Ga d e/\P (.fz (.bl (!dEq d e)))
theorem IL:OpF K (KZ K) aEq:=⟨fun {F H x y d e Q P} s b a f n=>.inr ⟨_,_,(b.den s).deep f.1.1,(a.den s).deep f.1.2.1,f.1.2.2,ax s n (.bl _) f.2⟩⟩
theorem IM:OpF K (K0 K) aNe:=⟨fun {F H x y d e Q P} s b a f n=>.inr ⟨_,_,(b.den s).deep f.1.1,(a.den s).deep f.1.2.1,f.1.2.2,ax s n (.bl _) f.2⟩⟩
def vOf:D->V
 |.non=>.non
 |.bl b=>.bl b
 |.int i=>.int i
 |.str z=>.str z
 |_=>.non
def flD:D->Bool
 |.non=>true
 |.bl _=>true
 |.int _=>true
 |.str _=>true
 |_=>false
theorem Den.flat(h:Den K F v d)(f:flD d=true):v=vOf d/\ip v=true:=by
 cases h <;> first|exact⟨rfl,rfl⟩|exact(abK f).elim
theorem Dens.flat{v:List V}{d:List D}(h:Dens K F v d)(f:d.all flD=true):v=d.map vOf/\v.all ip=true:=by
 induction d generalizing v with
 |nil=>cases h;exact⟨rfl,rfl⟩
 | cons d ds a=>
  cases h with
  | cons h t=>
   rw[aaQ,abR] at f;obtain⟨h1,h2⟩:=h.flat f.1;obtain⟨c,b⟩:=a t f.2;exact⟨by rw[abG,← h1,← c],by rw[aaQ,h2,b];rfl⟩
theorem Acc.flat(h:Acc K F H v d)(f:flD d=true):v=vOf d/\ip v=true:=by
 cases h with
 |fz h=>exact h.flat f
 |lst _ _=>exact(abK f).elim
 |dct _ _ _=>exact(abK f).elim
 |dt _ _ _=>exact(abK f).elim
def inD(d:D)(ds:List D):Bool:=inV (vOf d) (ds.map vOf)
def qw(ks:List Key)(k:Key):Bool:=ks.any λx=>decide (x=k)
def tK(ks:List (List Key))(k:List Key):Bool:=ks.any λx=>decide (x=k)
def jk:List D->Option (List Key)
 |[]=>some []
 | d::ds=>match lH d with
  | some k=>match jk ds with
   |some ks=>some (k::ks)
   |none=>none
  |none=>none
theorem xK(h:Dens K F xs ds)(e:jk ds=some k):xs=k.map kV:=by
 induction ds generalizing xs k with
 |nil=>cases h;cases e;rfl
 | cons d ds g=>
  cases h with
  | cons h t=>
   unfold jk at e
   cases c:lH d with
   |none=>rw[c] at e;cases e
   | some a=>
    cases f:jk ds with
    |none=>rw[c,f] at e;cases e
    | some b=>
     rw[c,f] at e;cases e;rw[abG,← g t f,eI (F:=F) (H:=F) (.fz h) c]
theorem ke(s:Same F H)(h:Acc K F H v (.tup ds))(e:jk ds=some k):∃b,v=.ref b/\H b=some (.tup (k.map kV)):=by
 obtain⟨b,xs,rfl,h1,h2⟩:=h.asTH s;exact⟨b,rfl,by rw[← xK h2 e];exact h1⟩
def bIn(d:D)(R:Bool->Prop):D->Prop
 | .str y=>(match d with
  | .str x=>(match x.cps.toList with
   |[c]=>R (decide (c∈y.cps.toList))
   |_=>False)
  |_=>False)
 |.lst ds=>(flD d=true/\ds.all flD=true)/\R (inD d ds)
 |.tup ds=>(flD d=true/\ds.all flD=true)/\R (inD d ds)
 | .dct ks _=>(match lH d with
  |some k=>R (qw ks k)
  |none=>False)
 |.gt ds=>(flD d=true/\ds.all flD=true)/\R (inD d ds)
 | .dt ks _=>(match d with
  | .tup a=>(match jk a with
   |some k=>R (tK ks k)
   |none=>False)
  |_=>False)
 |_=>False
def aIn(d e:D)(P:OV->Prop):Prop:=bIn d (λb=>P (.fz (.bl b))) e
def jF(d e:D)(P:OV->Prop):Prop:=bIn d (λb=>P (.fz (.bl (!b)))) e
theorem Az{c:Nat}(h:x.cps.toList=[c]):x=⟨#[c]⟩:=j1 h
theorem og{k:Key}(h:ys.map (·.1)=ks):(gP ys k).isSome=qw ks k:=by
 rw[← g8,qw,← h,ab5];rfl
theorem xL{ys:List (List Key×V)}{ks:List (List Key)}(h:ys.map (·.1)=ks):(gP ys k).isSome=tK ks k:=by
 rw[← g8,tK,← h,ab5];rfl
theorem AA{x y:V}{R:Bool->Prop}(s:Same F H)(hx:Acc K F H x d)(g:Acc K F H y e)(f:bIn d R e)(n:∀b,R b->Q (.bl b) H):L7 K x y H Q:=by
 cases e with
 | str z=>
  cases d with
  | str u=>
   unfold bIn at f;dsimp only at f;generalize t:u.cps.toList=l at f
   cases l with
   |nil=>exact False.elim f
   | cons c r=>
    cases r with
    |nil=>exact .inl (.inl ⟨c,_,by rw[hx.str_eq,Az t],g.str_eq,n _ f⟩)
    |cons=>exact False.elim f
  |_=>exact False.elim f
 | lst ds=>
  obtain⟨a,xs,rfl,h1,h2⟩:=g.asL s;obtain⟨o,m⟩:=hx.flat f.1.1;obtain⟨j,i⟩:=h2.flat f.1.2;subst o j;exact .inl (.inr ⟨a,_,rfl,.inl h1,m,i,n _ f.2⟩)
 | tup ds=>
  obtain⟨a,xs,rfl,h1,h2⟩:=g.asT s;obtain⟨o,m⟩:=hx.flat f.1.1;obtain⟨j,i⟩:=h2.flat f.1.2;subst o j;exact .inl (.inr ⟨a,_,rfl,.inr h1,m,i,n _ f.2⟩)
 | dct ks vs=>
  unfold bIn at f;dsimp only at f;generalize p:lH d=l at f
  cases l with
  |none=>exact False.elim f
  | some k=>
   obtain⟨a,ys,rfl,h1,h2,w⟩:=g.asD s;refine .inr ⟨a,gP ys k,rfl,by rw[eI hx p];exact DGet.kR h1,?_⟩;rw[og h2];exact n _ f
 | gt ds=>
  obtain⟨a,xs,rfl,h1,h2⟩:=g.asG s;obtain⟨o,m⟩:=hx.flat f.1.1;obtain⟨j,i⟩:=h2.flat f.1.2;subst o j;exact .inl (.inr ⟨a,_,rfl,.inr h1,m,i,n _ f.2⟩)
 | dt ks vs=>
  cases d with
  | tup q=>
   unfold bIn at f;dsimp only at f;generalize p:jk q=l at f
   cases l with
   |none=>exact False.elim f
   | some k=>
    obtain⟨a,ys,rfl,h1,h2,w⟩:=g.asDT s;obtain⟨b,rfl,v⟩:=ke s hx p;refine .inr ⟨a,gP ys k,rfl,.inr ⟨ys,k,b,h1,rfl,v,rfl⟩,?_⟩;rw[xL h2];exact n _ f
  |_=>exact False.elim f
 |_=>exact False.elim f
theorem IN:OpF K (L7 K) aIn:=⟨λs b a f n=>AA s b a f λ_ q=>ax s n (.bl _) q⟩
theorem tL:OpF K (tH K) jF:=⟨by
 intro F H x y d e Q P s k j f n;have h:=AA (Q:=λv H'=>∀b,v=.bl b->Q (.bl (!b)) H') s k j f λb q c e=>by cases e;exact ax s n (.bl _) q
 obtain (⟨c,z,i,g,q⟩|⟨a,xs,i,g,m,l,q⟩)|⟨a,o,i,g,q⟩:=h
 ·exact .inl (.inl ⟨c,z,i,g,q _ rfl⟩)
 ·exact .inl (.inr ⟨a,xs,i,g,m,l,q _ rfl⟩)
 ·exact .inr ⟨a,o,i,g,q _ rfl⟩⟩
def iJ(ks:List Key)(ds:List D)(k:Key):Option D:=((ks.zip ds).find? λa=>decide (a.1=k)).map (·.2)
def jl(ks:List (List Key))(ds:List D)(k:List Key):Option D:=((ks.zip ds).find? λa=>decide (a.1=k)).map (·.2)
def aIx:D->D->(OV->Prop)->Prop
 | .lst ds,.int i,P=>(match atI ds i with
  |some d=>P (.fz d)
  |none=>False)
 | .tup ds,.int i,P=>(match atI ds i with
  |some d=>P (.fz d)
  |none=>False)
 | .str z,.int i,P=>z.length<=sizeLine/\(match atI z.cps.toList i with
  |some c=>P (.fz (.str ⟨#[c]⟩))
  |none=>False)
 | .dct ks ds,k,P=>(match lH k with
  | some k=>(match iJ ks ds k with
   |some d=>P (.fz d)
   |none=>False)
  |none=>False)
 | .dt ks ds,.tup a,P=>(match jk a with
  | some k=>(match jl ks ds k with
   |some d=>P (.fz d)
   |none=>False)
  |none=>False)
 |_,_,_=>False
theorem Dens.atI{i:Int}(h:Dens K F xs ds)(e:L2.atI ds i=some d):∃x,L2.atI xs i=some x/\Den K F x d:=by
 unfold L2.atI at e ⊢;rw[h.length]
 cases q:ixN ds.length i with
 |none=>rw[q] at e;cases e
 |some j=>rw[q] at e;exact h.get e
theorem lJ{κ:Type}[DecidableEq κ]{ys:List (κ×V)}{ks:List κ}{k:κ}(f:ys.map (·.1)=ks)(h:Dens K F (ys.map (·.2)) ds)(e:((ks.zip ds).find? λb=>decide (b.1=k)).map (·.2)=some d):∃v,gP ys k=some v/\Den K F v d:=by
 subst f
 induction ys generalizing ds with
 |nil=>simp at e
 | cons y ys c=>
  cases h with
  | @cons _ g _ ds h1 h2=>
   by_cases a:y.1=k
   ·rw[g6 a];simp only[List.map_cons,List.zip_cons_cons,List.find?_cons,a,decide_true,Option.map_some,Option.some.injEq] at e;subst e;exact⟨y.2,rfl,h1⟩
   ·rw[g7 a];simp only[List.map_cons,List.zip_cons_cons,List.find?_cons,a,decide_false] at e;exact c h2 e
theorem kg{k:Key}(a:ys.map (·.1)=ks)(h:Dens K F (ys.map (·.2)) ds)(e:iJ ks ds k=some d):∃v,gP ys k=some v/\Den K F v d:=lJ a h e
theorem tM{ys:List (List Key×V)}{ks:List (List Key)}(a:ys.map (·.1)=ks)(h:Dens K F (ys.map (·.2)) ds)(e:jl ks ds k=some d):∃v,gP ys k=some v/\Den K F v d:=lJ a h e
theorem IP:OpF K (K6 K) aIx:=⟨by
 intro F H x y d e Q P s o m f n
 cases d with
 | lst ds=>
  cases e with
  | int i=>
   unfold aIx at f;dsimp only at f
   cases hd:L2.atI ds i with
   |none=>rw[hd] at f;exact False.elim f
   | some d=>
    rw[hd] at f;obtain⟨a,xs,rfl,h1,h2⟩:=o.asL s;obtain⟨v,l,j⟩:=h2.atI hd;exact .inl (.inl ⟨a,xs,_,v,rfl,m.int_eq,h1,l,ax s n j f⟩)
  |_=>exact False.elim f
 | tup ds=>
  cases e with
  | int i=>
   unfold aIx at f;dsimp only at f
   cases hd:L2.atI ds i with
   |none=>rw[hd] at f;exact False.elim f
   | some d=>
    rw[hd] at f;obtain⟨a,xs,rfl,h1,h2⟩:=o.asT s;obtain⟨v,l,j⟩:=h2.atI hd;exact .inl (.inr (.inl ⟨a,xs,_,v,rfl,m.int_eq,h1,l,ax s n j f⟩))
  |_=>exact False.elim f
 | str z=>
  cases e with
  | int i=>
   obtain⟨f1,f⟩:=f
   cases p:L2.atI z.cps.toList i with
   |none=>rw[p] at f;exact False.elim f
   | some c=>
    rw[p] at f;exact .inl (.inr (.inr ⟨_,_,c,o.str_eq,m.int_eq,f1,p,ax s n (.str _) f⟩))
  |_=>exact False.elim f
 | dct ks ds=>
  unfold aIx at f;dsimp only at f
  cases g:lH e with
  |none=>rw [g] at f;exact False.elim f
  | some k=>
   rw[g] at f;dsimp only at f
   cases hd:iJ ks ds k with
   |none=>rw[hd] at f;exact False.elim f
   | some d=>
    rw[hd] at f;obtain⟨a,ys,rfl,h1,h2,l⟩:=o.asD s;obtain⟨v,j,q⟩:=kg h2 l hd;exact .inr ⟨a,v,rfl,by rw[eI m g,← j];exact DGet.kR h1,ax s n q f⟩
 | dt ks ds=>
  cases e with
  | tup r=>
   unfold aIx at f;dsimp only at f
   cases g:jk r with
   |none=>rw[g] at f;exact False.elim f
   | some k=>
    rw[g] at f;dsimp only at f
    cases hd:jl ks ds k with
    |none=>rw[hd] at f;exact False.elim f
    | some d=>
     rw[hd] at f;obtain⟨a,ys,rfl,h1,h2,l⟩:=o.asDT s;obtain⟨b,rfl,t⟩:=ke s m g;obtain⟨v,j,q⟩:=tM h2 l hd;exact .inr ⟨a,v,rfl,.inr ⟨ys,k,b,h1,rfl,t,j.symm⟩,ax s n q f⟩
  |_=>exact False.elim f
 |_=>exact False.elim f⟩
def oh(n:Nat)(lo hi:Option Int):Prop:=¬(HT.sIx n 0 lo=0/\HT.sIx n n hi=n)
def gv(z:Str)(lo hi:Option Int):Str:=⟨(eC z.cps.toList lo hi).toArray⟩
def aSl:D->Option Int->Option Int->(OV->Prop)->Prop
 |.str z,lo,hi,P=>z.length<=sizeLine/\P (.fz (.str (gv z lo hi)))
 |.lst ds,lo,hi,P=>P (.fl (eC ds lo hi))
 |.tup ds,lo,hi,P=>oh ds.length lo hi/\P (.fz (.tup (eC ds lo hi)))
 |_,_,_,_=>False
theorem Dens.cut{lo hi:Option Int}(h:Dens K F xs ds):Dens K F (eC xs lo hi) (eC ds lo hi):=by
 unfold eC;rw[h.length];exact(h.drop _).take _
theorem kh:SlF K (G9 K) aSl:=⟨by
 intro F H x d lo hi Q P s b f n
 cases d with
 | str z=>
  refine .inl ⟨_,b.str_eq,f.1,λy c=>?_⟩;have e:y=gv z lo hi:=j1 (c.trans (by simp[gv]));rw[e];exact ax s n (.str _) f.2
 | lst ds=>
  obtain⟨a,xs,rfl,h1,h2⟩:=b.asL s;exact .inr (.inl ⟨a,xs,rfl,h1,dM s n h2.cut f⟩)
 | tup ds=>
  obtain⟨a,xs,rfl,h1,h2⟩:=b.asT s;exact .inr (.inr ⟨a,xs,rfl,h1,by rw[h2.length];exact f.1,kb s n h2.cut f.2⟩)
 |_=>exact False.elim f⟩
def et:List D->(OV->Prop)->Prop
 |[.str z],P=>z.length<=sizeLine/\P (.fz (.int z.length))
 |[.lst ds],P=>P (.fz (.int ds.length))
 |[.tup ds],P=>P (.fz (.int ds.length))
 |[.dct ks _],P=>P (.fz (.int ks.length))
 |_,_=>False
theorem IQ:CallF K (F8 K) et:=⟨by
 intro F H xs ds Q P s b f n
 cases ds with
 |nil=>exact False.elim f
 | cons d tl=>
 cases d with
 | str z=>
  cases tl with
  |cons _ _=>exact False.elim f
  | nil=>
  obtain⟨x,rfl,a⟩:=bQ b;exact .inl ⟨_,by rw[a.str_eq],f.1,ax s n (.int _) f.2⟩
 | lst ds=>
  cases tl with
  |cons _ _=>exact False.elim f
  | nil=>
  obtain⟨x,rfl,a⟩:=bQ b;obtain⟨p,ys,rfl,h1,h2⟩:=a.asL s;exact .inr (.inl ⟨p,ys,rfl,.inl h1,by rw[h2.length];exact ax s n (.int _) f⟩)
 | tup ds=>
  cases tl with
  |cons _ _=>exact False.elim f
  | nil=>
  obtain⟨x,rfl,a⟩:=bQ b;obtain⟨p,ys,rfl,h1,h2⟩:=a.asT s;exact .inr (.inl ⟨p,ys,rfl,.inr h1,by rw[h2.length];exact ax s n (.int _) f⟩)
 | dct ks es=>
  cases tl with
  |cons _ _=>exact False.elim f
  | nil=>
  obtain⟨x,rfl,a⟩:=bQ b;obtain⟨p,ys,rfl,h1,h2,c⟩:=a.asD s;subst h2;have f:P (.fz (.int (ys.map (·.1)).length)):=f;rw[abD] at f;exact .inr (.inr ⟨p,ys,rfl,h1,ax s n (.int _) f⟩)
 |_=>exact False.elim f⟩
def Ma:List D->(OV->Prop)->Prop
 |[.int i,.int j],P=>P (.fz (.int (if j > i then j else i)))
 |_,_=>False
def Ng:List D->(OV->Prop)->Prop
 |[.int i,.int j],P=>P (.fz (.int (if j<i then j else i)))
 |_,_=>False
theorem IR:CallF K LN Ma:=⟨by
 intro F H xs ds Q P s c f n
 cases ds with
 |nil=>exact False.elim f
 | cons d tl=>
 cases d with
 | int i=>
  cases tl with
  |nil=>exact False.elim f
  | cons e tl=>
  cases e with
  | int j=>
   cases tl with
   |cons _ _=>exact False.elim f
   | nil=>
   obtain⟨x,y,rfl,a,b⟩:=n6 c;exact⟨_,_,by rw[a.int_eq,b.int_eq],ax s n (.int _) f⟩
  |_=>exact False.elim f
 |_=>exact False.elim f⟩
theorem IS:CallF K LO Ng:=⟨by
 intro F H xs ds Q P s c f n
 cases ds with
 |nil=>exact False.elim f
 | cons d tl=>
 cases d with
 | int i=>
  cases tl with
  |nil=>exact False.elim f
  | cons e tl=>
  cases e with
  | int j=>
   cases tl with
   |cons _ _=>exact False.elim f
   | nil=>
   obtain⟨x,y,rfl,a,b⟩:=n6 c;exact⟨_,_,by rw[a.int_eq,b.int_eq],ax s n (.int _) f⟩
  |_=>exact False.elim f
 |_=>exact False.elim f⟩
def cIs:List D->(OV->Prop)->Prop
 |[d,.ty T],P=>(DG (tyD d)=true/\DG T=true)/\P (.fz (.bl (isT (tyD d) T)))
 |_,_=>False
theorem Mb:CallF K (L8 K) cIs:=⟨by
 intro F H xs ds Q P s c f n
 cases ds with
 |nil=>exact False.elim f
 | cons d ds=>
 cases ds with
 |nil=>exact False.elim f
 | cons e ds=>
 cases e with
 | ty T=>
  cases ds with
  |cons _ _=>exact False.elim f
  | nil=>
  obtain⟨x,y,rfl,a,b⟩:=n6 c;exact⟨x,_,_,by rw[b.ty_eq],a.den s,f.1.1,f.1.2,ax s n (.bl _) f.2⟩
 |_=>exact False.elim f⟩
def gW:List D->Option (List Bool)
 |[]=>some []
 |.bl b::ds=>(gW ds).map (b::·)
 |_::_=>none
theorem ki:∀{ds:List D} {bs:List Bool},gW ds=some bs->ds=bs.map .bl
 |[],_,h=>by simp only[gW,Option.some.injEq] at h;subst h;rfl
 | d::ds,bs,h=>by
  cases d <;> simp[gW] at h;obtain⟨a,h1,rfl⟩:=h;rw[ki h1];rfl
theorem lK:∀bs:List Bool,gW (bs.map .bl)=some bs
 |[]=>rfl
 |b::bs=>by rw[abG,gW,lK bs];rfl
def xM:List D->(OV->Prop)->Prop
 | [.lst ds],P=>(match gW ds with
  |some bs=>P (.fz (.bl (bs.all id)))
  |none=>False)
 |_,_=>False
def K8:List D->(OV->Prop)->Prop
 | [.lst ds],P=>(match gW ds with
  |some bs=>P (.fz (.bl (bs.any id)))
  |none=>False)
 |_,_=>False
theorem IT:CallF K (KW K) xM:=⟨by
 intro F H xs ds Q P s c f n
 cases ds with
 |nil=>exact False.elim f
 | cons d tl=>
 cases d with
 | lst ds=>
  cases tl with
  |cons _ _=>exact False.elim f
  | nil=>
  obtain⟨x,rfl,a⟩:=bQ c;obtain⟨p,ys,rfl,h1,h2⟩:=a.asL s;unfold xM at f;dsimp only at f
  cases b:gW ds with
  |none=>rw [b] at f;exact False.elim f
  | some bs=>
   rw[b] at f;rw[ki b] at h2;exact⟨p,bs,rfl,by rw[← h2.bls_eq];exact h1,ax s n (.bl _) f⟩
 |_=>exact False.elim f⟩
theorem IU:CallF K (KY K) K8:=⟨by
 intro F H xs ds Q P s c f n
 cases ds with
 |nil=>exact False.elim f
 | cons d tl=>
 cases d with
 | lst ds=>
  cases tl with
  |cons _ _=>exact False.elim f
  | nil=>
  obtain⟨x,rfl,a⟩:=bQ c;obtain⟨p,ys,rfl,h1,h2⟩:=a.asL s;unfold K8 at f;dsimp only at f
  cases b:gW ds with
  |none=>rw [b] at f;exact False.elim f
  | some bs=>
   rw[b] at f;rw[ki b] at h2;exact⟨p,bs,rfl,by rw[← h2.bls_eq];exact h1,ax s n (.bl _) f⟩
 |_=>exact False.elim f⟩
def xN:Key->D
 |.inl i=>.int i
 |.inr z=>.str z
theorem fU{F:Hp}:∀(ks:List Key),Dens K F (ks.map kV) (ks.map xN)
 |[]=>.nil
 |.inl i::ks=>.cons (.int i) (fU ks)
 |.inr z::ks=>.cons (.str z) (fU ks)
def IV:List D->(OV->Prop)->Prop
 |[.lst ds],P=>P (.fl ds)
 |[.tup ds],P=>P (.fl ds)
 |[.dct ks _],P=>P (.fl (ks.map xN))
 |_,_=>False
theorem DP:CallF K (sU K) IV:=⟨by
 intro F H xs ds Q P s b f n
 cases ds with
 |nil=>exact False.elim f
 | cons d tl=>
 cases d with
 | lst ds=>
  cases tl with
  |cons _ _=>exact False.elim f
  | nil=>
  obtain⟨x,rfl,a⟩:=bQ b;obtain⟨p,ys,rfl,h1,h2⟩:=a.asL s;exact sW h1 (dM s n h2 f)
 | tup ds=>
  cases tl with
  |cons _ _=>exact False.elim f
  | nil=>
  obtain⟨x,rfl,a⟩:=bQ b;obtain⟨p,ys,rfl,h1,h2⟩:=a.asT s;exact sX h1 (dM s n h2 f)
 | dct ks es=>
  cases tl with
  |cons _ _=>exact False.elim f
  | nil=>
  obtain⟨x,rfl,a⟩:=bQ b;obtain⟨p,ys,rfl,h1,h2,g⟩:=a.asD s;refine qj h1 (dM s n ?_ f);have e:(ys.map λc=>kV c.1)=(ys.map (·.1)).map kV:=by rw[aat];rfl
  rw[e,h2];exact fU _
 |_=>exact False.elim f⟩
def AB:List D->(OV->Prop)->Prop
 |[.lst ds],P=>P (.fz (.tup ds))
 |[.tup ds],P=>P (.fz (.tup ds))
 |_,_=>False
theorem xO:CallF K (sV K) AB:=⟨by
 intro F H xs ds Q P s b f n
 cases ds with
 |nil=>exact False.elim f
 | cons d tl=>
 cases d with
 | lst ds=>
  cases tl with
  |cons _ _=>exact False.elim f
  | nil=>
  obtain⟨x,rfl,a⟩:=bQ b;obtain⟨p,ys,rfl,h1,h2⟩:=a.asL s;exact qk h1 (kb s n h2 f)
 | tup ds=>
  cases tl with
  |cons _ _=>exact False.elim f
  | nil=>
  obtain⟨x,rfl,a⟩:=bQ b;have c:=a;obtain⟨p,ys,rfl,h1,h2⟩:=a.asT s;refine⟨p,ys,rfl,.inr ⟨h1,?_⟩⟩
  cases c with
  |fz h=>exact ax s n h f
 |_=>exact False.elim f⟩
def dW:List D->Option (List Str)
 |[]=>some []
 |.str z::ds=>(dW ds).map (z::·)
 |_::_=>none
theorem fV:∀{ds:List D} {zs:List Str},dW ds=some zs->ds=zs.map .str
 |[],_,h=>by simp only[dW,Option.some.injEq] at h;subst h;rfl
 | d::ds,bs,h=>by
  cases d <;> simp[dW] at h;obtain⟨a,h1,rfl⟩:=h;rw[fV h1];rfl
theorem gw:∀zs:List Str,dW (zs.map .str)=some zs
 |[]=>rfl
 |b::bs=>by rw[abG,dW,gw bs];rfl
def dN:List Key->Option (List Str)
 |[]=>some []
 |.inr z::ks=>(dN ks).map (z::·)
 |.inl _::_=>none
theorem jG:∀{ds:List Key} {zs:List Str},dN ds=some zs->ds=zs.map Sum.inr
 |[],_,h=>by simp only[dN,Option.some.injEq] at h;subst h;rfl
 | d::ds,bs,h=>by
  cases d <;> simp[dN] at h;obtain⟨a,h1,rfl⟩:=h;rw[jG h1];rfl
theorem iK:∀zs:List Str,dN (zs.map Sum.inr)=some zs
 |[]=>rfl
 |b::bs=>by rw[abG,dN,iK bs];rfl
def qx:List D->(OV->Prop)->Prop
 | [.lst ds],P=>(match dW ds with
  |some zs=>zs.length<64/\P (.fl ((bC zs).map .str))
  |none=>False)
 | [.dct ks _],P=>(match dN ks with
  |some zs=>zs.length<64/\P (.fl ((bC zs).map .str))
  |none=>False)
 |_,_=>False
def oj(P:Program)(w:World)(K:Frag):List V->Hp->VK->Prop:=λxs H Q=>sT P w K xs H Q∨∃p kvs zs,xs=[.ref p]/\Rd H p (.dK kvs)/\kvs.map (·.1)=zs.map Sum.inr/\kvs.length<64/\∀q ss,H q=none->ss.Perm zs->sortedS ss=true->Q (.ref q) (upd H q (.lst (ss.map .str)))
theorem xP(P:Program)(w:World)(K:Frag)(a:X.calm=true)(c:X.prog=P)(b:X.w=w)(h:X.K=K):BCall X (.builtin "sorted") (oj P w K):=by subst h c b;exact⟨(lz a).or (lI a)⟩
theorem DQ{P:Program}:CallF K (oj P w K) qx:=⟨by
 intro F H xs ds Q k s g f n
 cases ds with
 |nil=>exact False.elim f
 | cons d tl=>
 cases d with
 | lst ds=>
  cases tl with
  |cons _ _=>exact False.elim f
  | nil=>
  obtain⟨x,rfl,a⟩:=bQ g;obtain⟨p,ys,rfl,h1,h2⟩:=a.asL s;unfold qx at f;dsimp only at f
  cases b:dW ds with
  |none=>rw [b] at f;exact False.elim f
  | some zs=>
   rw[b] at f;rw[fV b] at h2;rw[h2.strs_eq] at h1;refine .inl ⟨p,zs,rfl,.inr h1,f.1,λq ss c e hs=>?_⟩;rw[gI e hs];exact dM s n (Dens.strs _) f.2 q c
 | dct ks es=>
  cases tl with
  |cons _ _=>exact False.elim f
  | nil=>
  obtain⟨x,rfl,a⟩:=bQ g;obtain⟨p,ys,rfl,h1,h2,j⟩:=a.asD s;unfold qx at f;dsimp only at f
  cases b:dN ks with
  |none=>rw [b] at f;exact False.elim f
  | some zs=>
   rw[b] at f;rw[jG b] at h2;have i:ys.length=zs.length:=by have:=congrArg List.length h2;rwa [abD,abD] at this
   refine .inr ⟨p,ys,zs,rfl,h1,h2,by rw[i];exact f.1,λq ss c e hs=>?_⟩;rw[gI e hs];exact dM s n (Dens.strs _) f.2 q c
 |_=>exact False.elim f⟩
def Mc:List D->(OV->Prop)->Prop
 | [.str z],P=>(match z.cps.toList with
  |[c]=>P (.fz (.int c))
  |_=>False)
 |_,_=>False
theorem IW:CallF K Nf Mc:=⟨by
 intro F H xs ds Q P s d f n;unfold Mc at f;split at f
 ·split at f
  ·rename_i c b;obtain⟨x,rfl,a⟩:=bQ d;exact⟨c,by rw[a.str_eq,Az b],ax s n (.int _) f⟩
  ·exact f.elim
 ·exact f.elim⟩
def lL(zs:List Str):List Str:=zs.foldl (λacc z=>KS.dedup1 acc z) []
theorem gx:∀(zs acc:List Str),acc.Nodup->(zs.foldl (λacc z=>KS.dedup1 acc z) acc).Nodup/\∀k,k∈zs.foldl (λacc z=>KS.dedup1 acc z) acc↔k∈acc∨k∈zs
 |[],acc,h=>⟨h,λk=>by simp⟩
 | z::zs,acc,h=>by
  obtain⟨h1,h2⟩:=gx zs (KS.dedup1 acc z) (lA h);refine⟨h1,λk=>?_⟩;rw[List.foldl_cons,h2 k,ql,abI];constructor
  ·rintro ((a|a)|a)
   ·exact .inl a
   ·exact .inr (.inl a)
   ·exact .inr (.inr a)
  ·rintro (a|a|a)
   ·exact .inl (.inl a)
   ·exact .inl (.inr a)
   ·exact .inr a
theorem gJ(zs:List Str):(lL zs).Nodup:=(gx zs [] abS).1
theorem jH{k:Str}:k∈lL zs↔k∈zs:=by
 have:=(gx zs [] abS).2 k;simpa [lL] using this
def mF(zs:List Str):List Str:=bC (lL zs)
theorem kj{k:Str}:k∈mF zs↔k∈zs:=by rw[mF,(aK _).mem_iff,jH]
theorem jI(zs:List Str):(mF zs).Nodup:=(aK _).nodup_iff.mpr (gJ zs)
theorem mW(zs:List Str):(mF zs).Pairwise λa b=>cU a b=true:=bR _
theorem iL{a b:List Str}(d:a.Nodup)(c:b.Nodup)(h:∀k,k∈a↔k∈b):a.Perm b:=(List.perm_ext_iff_of_nodup d c).mpr h
theorem fG(c:ss.Nodup)(d:∀k,k∈ss↔k∈zs)(hs:ss.Pairwise λa b=>cU a b=true):ss=mF zs:=
 iI (iL c (gJ zs) λk=>(d k).trans jH.symm) hs
def km(fe:FE):FE:=λρ Q=>fe ρ λr a=>on1 a r λd=>match d with
 | .lst ds=>(match dW ds with
  |some zs=>(zs.length+1<scanBound/\(mF zs).length<64)/\Q (.ov (.fl ((mF zs).map .str))) a
  |none=>False)
 |_=>False
theorem qy{P:Program}(G:EF K μ te fe):EF K μ (tCB (oj P w K) (c7 (tCB (K3 P w K) (c7 te jc)) jc)) (km fe):=⟨by
 intro F Z H M σ ρ A Q L x R h q;refine G.h x R h λr i v F1 H1 T S h1 z c v1 f1=>?_;obtain⟨d,I,h2⟩:=bX h1;split at h2
 ·split at h2
  ·rename_i zs E;obtain⟨p,ys,rfl,u,t⟩:=(c.acc v1 I).asL c.fh;rw[fV E] at t;rw[t.strs_eq] at u;refine⟨p,zs,rfl,u,h2.1.1,λl b m s n _=>?_⟩;refine .inl ⟨l,b,rfl,.inl af,?_,λj ss f g hs=>?_⟩
   ·have g:b.Perm (mF zs):=iL n (jI zs) λk=>(s k).trans kj.symm;rw[g.length_eq];exact h2.1.2
   ·have e:ss=mF zs:=fG (g.nodup_iff.mpr n) (λk=>(g.mem_iff).trans (s k)) (dU ss hs);subst e;have C:=(Pure.new (o:=K1 P w l b) c.fh m).trans (Pure.new (p:=j) (o:=.lst ((mF zs).map .str)) (c.fh.trans (bp m)) f);have a:H1 j=none:=(bp m).free f;exact c.after (P:=λo=>L (.ov o) i) (λo v O N B p y J D fr=>q _ _ _ _ _ _ _ p (z.trans y) J D fr) _ _ F1 _ [j] h2.2 C (.fl af (Dens.strs _)) (New.one a (c.fh.free a))
  ·exact h2.elim
 ·exact h2.elim⟩
end
end L2
namespace KS
open PySem PySem.Spec PyProof.Rows
section
variable {prog:Program} {w:World} {A:Around} {E:Value->Shared->Prop} {s:Shared}
end
end KS
namespace L2
open PySem PySem.Spec PyProof.Rows
section
variable {X:Cx}
end
section
variable {K:Frag} {μ:List Nat}
end
end L2
namespace L2
open PySem PySem.Spec PyProof.Rows PySem.W
variable{prog:Program}{w:World}{A:Around}{s:Shared}
def xQ(n:Nat){α:Type}(c:α->Prop):KasT α->Prop
 |.ret a=>c a
 |.ask i j k=>i<n/\j<n/\∀b,xQ n c (k b)
section
variable    {E:Value->Shared->Prop} 
end
section
variable     {C:Bool->Shared->Prop} {bb fn:Bool}
end
section
variable {X:Cx}
end
end L2
namespace L2
open PySem PySem.Spec PyProof.Rows
variable{μ T:List Nat}{P:Program}{w:World}{te:TE}{fe:FE}{n j:Nat}{fg:FG}{ds:List D}{ρ:FSt}{fb:FS}{E:FEnds}{lo i:Int}{d:D}{α:Type}{Q:D->Prop}{a b z:Str}{zs:List Str}
section
variable {K:Frag} 
def om:List D->Option (List Str)
 |[]=>some []
 |.tup (.str z::_)::ds=>(om ds).map (z::·)
 |_::_=>none
def tN(P:Program)(w:World)(K:Frag):List V->Hp->VK->Prop:=oj P w K
theorem xR{X:Cx}(P:Program)(w:World)(K:Frag)(b:X.calm=true)(c:X.prog=P)(a:X.w=w)(h:X.K=K):BCall X (.builtin "sorted") (tN P w K):=xP P w K b c a h
@[irreducible] def cF(ds:List D)(P:OV->Prop):Prop:=qx ds P
theorem xS :CallF K (tN P w K) cF:=⟨by
 intro F H xs ds Q b s a f n;unfold cF at f;exact DQ.h s a f n⟩
theorem mX(a:EF K μ te fe):EF K μ (tCB (tN P w K) (c7 (tCB (K3 P w K) (c7 te jc)) jc)) (km fe):=qy a
@[irreducible] def Nh:List D->(OV->Prop)->Prop
 | [.lst ds],P=>(match dW ds with
  |some zs=>zs.length<64/\P (.fl ((bC zs).map .str))
  | none=>(match om ds with
   |some zs=>(zs.Nodup/\zs.length<64)/\∀a:List D,a.Perm ds->P (.fl a)
   |none=>False))
 | [.dct ks _],P=>(match dN ks with
  |some zs=>zs.length<64/\P (.fl ((bC zs).map .str))
  |none=>False)
 |_,_=>False
def tO(e fe:FE):FE:=λρ Q=>e ρ λr b=>on1 b r λd=>match d with
 | .str z=>fe b λc a=>on1 a c λf=>(match f with
  | .lst ds=>(match dW ds with
   |some zs=>(zs.map (·.length)).sum+zs.length*z.length<=16777216/\Q (.ov (.fz (.str (Builtin.Str.glued z zs)))) a
   |none=>False)
  |_=>False)
 |_=>False
theorem DR{to:TE}{c:FE}(o:EF K μ to c)(r:EF K μ te fe):EF K μ (tBM K "str" (wU K) to (c7 te jc)) (tO c fe):=⟨by
 intro F Z H v σ ρ A Q P b R h q;refine o.h b R h λB j x F1 H1 J G h1 m g v1 f1=>?_;obtain⟨d,u,h2⟩:=bX h1;split at h2
 ·rename_i z;have ex:=(g.acc v1 u).str_eq;subst ex;refine⟨rfl,r.h b g h2 λw i y D H2 I E s l R2 k f2=>?_⟩;obtain⟨C,t,a⟩:=bX s;split at a
  ·split at a
   ·rename_i zs n;obtain⟨p,ys,rfl,f,e⟩:=(R2.acc k t).asL R2.fh;rw[fV n] at e;rw[e.strs_eq] at f;exact⟨z,p,zs,rfl,rfl,f,a.1,q _ _ _ _ _ _ [] a.2 (m.trans l) R2 (.fz (.str _)) Fresh.nil⟩
   ·exact a.elim
  ·exact a.elim
 ·exact h2.elim⟩
end
section
variable {K:Frag}
theorem Ni(h:j<n):EF K (List.range n) (ei j) (ab j):=tf (by simp[h])
theorem ef_w(h:autoParam (j<n) L2.aD._auto_1):EF K (List.range n) (ei j) (ab j):=Ni h
theorem gf_n(h:j<n):GF K (List.range n) [j] (fE j) (ac j):=tt (by simp[h]) List.nodup_range
theorem DS(h:j<n)(a:EF K (List.range n) te fe):EF K (List.range n) (tBM K "list" eB (ei j) (c7 te jc)) (v9 j fe):=Iw (by simp[h]) a
theorem xT{m:List Nat}(h:(m.all λi=>!T.contains i)=true):∀i∈m,i∉T:=λi hi a=>by
 have:=abY.mp h i hi;simp[a] at this
theorem Md{no:Nat}(h:(T.all λi=>decide (i<no))=true):∀i∈T,i<no:=λi hi=>of_decide_eq_true (abY.mp h i hi)
theorem Fun.okG{mg:Str->Option Value}{base:Heap}{x qual:Str}{st:Stmt}{f:Addr}{fd:FuncData}{N ps:List Str}{k:Nat}{c:Ct}{fs:FS}(n:Nat)(m:List Nat)(F:Fun K x qual st f fd)(S:FnScope N ps (aw st))(d:N.length=n)
  (l:ps.length<=n) (b:∀os P,c os P->os.length=ps.length/\∀j o,os[j]?=some o->j∉m->tE o=true) (e:∀i∈m,i<ps.length)
  (a:∀(cdv:Value) (A:Around) (outer:List Env) (s:Shared) (H:Hp) (E:XK),Room k (A.deeper (envOfC qual (aw st) s.heap.objs.size f cdv)) ->
   ∃t,BSs (rP CX0 P w K mg base N qual (aw st) f cdv A outer s H E).nox (bu st) t/\SF K n m t fs)
  (g:∀os P,c os P->fs { nx:=fin m os P (.fz .non),rt:=fin m os P } (ai n os)):FnOk P w K mg base CX0 (k+1) f fd ps (spM K c):=by
 subst d;exact Fun.okF F S l b e a g
end
theorem aA{ft:FT}{P:List D->FSt->Prop}{f:List D}(I:Nat->List D->FSt->Prop)(p:I 0 f ρ)
  (hs:∀(i:Nat) (d:D) (as:List D) (ρ:FSt) (R:List D->FSt->Prop),ds[i]?=some d->I i as ρ->(∀c a,I (i+1) c a->R c a) ->
   fg d ρ λn=>ft n λb g=>br b (fe g λr m=>match fzR r m with
    |some (y,l)=>as.length<sizeLine/\R (as++[y]) l
    |none=>False) (R as g))
  (hd:∀as ρ,I ds.length as ρ->P as ρ):eG fg ft fe P ds f ρ:=by
 have j:∀(k i:Nat) (as:List D) (ρ:FSt),i+k=ds.length->I i as ρ->eG fg ft fe P (ds.drop i) as ρ:=by
  intro k
  induction k with
  | zero=>
   intro i as ρ e h;have:i=ds.length:=by nofun
   subst this;rw[aby];exact tD (hd as ρ h)
  | succ k o=>
   intro i as ρ e h;have hi:i<ds.length:=by nofun
   rw[aaD hi];exact qu (hs i ds[i] as ρ _ (List.getElem?_eq_getElem hi) h λc a h'=>o (i+1) c a (by nofun) h')
 have:=j ds.length 0 f ρ (by nofun) p
 rwa [abj] at this
theorem bL(I:Nat->FSt->Prop)(g:I 0 ρ)
  (hs:∀(i:Nat) (d:D) (ρ:FSt) (R:FSt->Prop),ds[i]?=some d->I i ρ->(∀a,I (i+1) a->R a)->fg d ρ λc=>fb { nx:=R,ct:=R,bk:=E.nx,rt:=E.rt } c)
  (hd:∀ρ,I ds.length ρ->E.nx ρ):dL fg fb E ds ρ:=by
 have b:∀(k i:Nat) (ρ:FSt),i+k=ds.length->I i ρ->dL fg fb E (ds.drop i) ρ:=by
  intro k
  induction k with
  | zero=>
   intro i ρ e h;have:i=ds.length:=by nofun
   subst this;rw[aby];exact tw (hd ρ h)
  | succ k f=>
   intro i ρ e h;have hi:i<ds.length:=by nofun
   rw[aaD hi];exact qt (hs i ds[i] ρ _ (List.getElem?_eq_getElem hi) h λa h'=>f (i+1) a (by nofun) h')
 have:=b ds.length 0 ρ (by nofun) g
 rwa [abj] at this
theorem cG{fc:FT}(I:Nat->FSt->Prop)(n:Nat)(f:I n ρ)
  (hs:∀(m:Nat) (ρ:FSt) (R:FSt->Prop),I m ρ->(∀k a,k<m->I k a->R a)->fc ρ λb c=>br b (fb { nx:=R,ct:=R,bk:=E.nx,rt:=E.rt } c) (E.nx c)):fT fc fb E ρ:=by
 refine⟨n+1,?_⟩
 have d:∀(N m:Nat) (ρ:FSt),m<N->I m ρ->ci fc fb E N ρ:=by
  intro N
  induction N with
  |zero=>intro m ρ h _;nofun
  | succ N e=>
   intro m ρ h hi;exact mU (hs m ρ _ hi λk a g h'=>e k a (by nofun) h')
 exact d (n+1) n ρ (by nofun) f
theorem aQ{i:Nat}(h:(dS lo n)[i]?=some d):i<n/\d=.int (lo+i):=by
 unfold dS at h;rw[List.getElem?_map,aaq] at h;obtain⟨k,h1,rfl⟩:=h;obtain⟨h2,a⟩:=List.getElem?_eq_some_iff.mp h1;rw[List.getElem_range] at a;rw[abT] at h2;subst a;exact⟨h2,rfl⟩
theorem a9 :(dS lo n).length=n:=by simp[dS]
theorem AC{xs:List α}(a:0<=i)(h:i<xs.length):∃c,atI xs i=some c/\c∈xs:=sA a h
theorem fH{xs:List D}(a:0<=i)(h:i<xs.length)(q:∀d∈xs,Q d):match atI xs i with
  |some d=>Q d
  | none=>False:=by
 obtain⟨c,h1,h2⟩:=sA a h;rw[h1];exact q c h2
theorem kn{xs:List Nat}{Q:Nat->Prop}(a:0<=i)(h:i<xs.length)(q:∀d∈xs,Q d):match atI xs i with
  |some d=>Q d
  | none=>False:=by
 obtain⟨c,h1,h2⟩:=sA a h;rw[h1];exact q c h2
theorem bY :dEq (.str a) (.str b)=true↔a=b:=by
 show (a==b)=true↔_;rw[beq_iff_eq]
theorem aL{a b:Int}:dEq (.int a) (.int b)=true↔a=b:=by
 show (a==b)=true↔_;rw[beq_iff_eq]
theorem bq :Ga (.str a) (.str b):=⟨rfl,rfl,aan _⟩
theorem aq{a b:Int}:Ga (.int a) (.int b):=⟨rfl,rfl,aan _⟩
theorem oo{z:Str}:∀{zs:List Str},inV (.str z) (zs.map V.str)=true↔z∈zs
 |[]=>by simp[inV]
 | y::zs=>by
  have a:=oo (z:=z) (zs:=zs);unfold inV at a ⊢;rw[abG,abA,Bool.or_eq_true,a,abI]
  have:eqV (.str y) (.str z)=true↔z=y:=by
   show (y==z)=true↔_;rw[beq_iff_eq];exact eq_comm
  rw[this]
theorem eZ :inD (.str z) (zs.map D.str)=true↔z∈zs:=by
 unfold inD;have:(zs.map D.str).map vOf=zs.map V.str:=by rw[aat];rfl
 rw[this];exact oo
theorem oq(zs:List Str):(zs.map D.str).all flD=true:=by
 induction zs with
 |nil=>rfl
 |cons z zs a=>exact a
theorem bv :qw (zs.map Sum.inr) (.inr z)=true↔z∈zs:=by
 unfold qw;rw[ab5,aa0];constructor
 ·rintro⟨y,h1,h2⟩;have:=of_decide_eq_true h2;cases this;exact h1
 ·intro h;exact⟨z,h,by simp⟩
theorem iM{Q:List Str->Prop}(q:Q zs):match dW (zs.map .str) with
  |some zs=>Q zs
  | none=>False:=by
 rw[gw];exact q
theorem ou{bs:List Bool}{Q:List Bool->Prop}(q:Q bs):match gW (bs.map .bl) with
  |some zs=>Q zs
  | none=>False:=by
 rw[lK];exact q
theorem tP :(gH (zs.map Sum.inr) ds (.inr z) d).1=(KS.dedup1 zs z).map Sum.inr:=by
 unfold gH KS.dedup1;by_cases h:z∈zs
 ·have e:((zs.map Sum.inr).any λx=>decide (x=(Sum.inr z:Key)))=true:=bv.mpr h;rw[if_pos e,if_pos h]
 ·have e:¬((zs.map Sum.inr).any λx=>decide (x=(Sum.inr z:Key)))=true:=λq=>h (bv.mp q);rw[if_neg e,if_neg h,aad];rfl
theorem lM:∀(zs acc:List Str),(zs.foldl (λacc z=>KS.dedup1 acc z) acc).length<=acc.length+zs.length
 |[],acc=>by simp
 | z::zs,acc=>by
  rw[List.foldl_cons,abM];have:=lM zs (KS.dedup1 acc z);have:=(qm acc z).2.1;nofun
theorem xU(zs:List Str):(mF zs).length<=zs.length:=by
 rw[mF,(aK _).length_eq];have:=lM zs [];simpa [lL] using this
theorem cH{P:OV->Prop}(a:zs.length<64)(h:P (.fl ((bC zs).map .str))):cF [.lst (zs.map .str)] P:=by
 unfold cF qx;simp only[gw];exact⟨a,h⟩
theorem lN{P:OV->Prop}(a:zs.length<64)(h:P (.fl ((bC zs).map .str))):cF [.dct (zs.map Sum.inr) ds] P:=by
 unfold cF qx;simp only[iK];exact⟨a,h⟩
def K9(fa:FE):FE:=λρ Q=>fa ρ λr a=>on1 a r λd=>match d with
 |.int i=>Q (.ov (.fz (.int (-i)))) a
 |_=>False
theorem IX{K:Frag}{ta:TE}{fa:FE}(f:EF K μ ta fa):EF K μ (tUn (rU λi=>.int (-i)) ta) (K9 fa):=⟨by
 intro F Z H j σ ρ A Q P c R h q;refine f.h c R h λk b x F1 H1 m l h1 e a v1 f1=>?_;obtain⟨d,g,h2⟩:=bX h1;split at h2
 ·rename_i i;exact⟨i,(a.acc v1 g).int_eq,q _ _ _ _ _ _ _ h2 e a (.fz (.int _)) Fresh.nil⟩
 ·exact h2.elim⟩
theorem ox(xs:List α)(a b:Nat):eC xs (some (a:Int)) (some (b:Int))=(xs.drop (min a xs.length)).take (min b xs.length - min a xs.length):=by
 unfold eC;rw[HT.sIx_nat,HT.sIx_nat]
theorem eN{x:D}{r:List D}(q:Q x):match atI (x::r) 0 with
  |some d=>Q d
  | none=>False:=by
 rw[HP];exact q
end L2
namespace KS
open PySem PySem.Spec PyProof.Rows
open PySem.W
section
variable {prog:Program} {w:World} {K:Type} [DecidableEq K] {knd:KeyKind prog w K} {A:Around} {E:Value->Shared->Prop} {s:Shared}
end
end KS
namespace L2
open PySem PySem.Spec PyProof.Rows
variable{X:Cx}{μ ixs T:List Nat}{ty tl te:TE}{i j n ep no:Nat}{fk fe:FE}{F H:Hp}{tg l:Expr}{a:Addr}{o:Obj}{kvs:List (Key×V)}{st:Stmt}{g:TG}{fg:FG}{tc:TT}{fc:FT}
section
variable {K:Frag} 
end
theorem DT{o e:Expr}{td:TE}{apos cpos:Pos}(d:BE X o td)(f:BE X e ty)(b:attributeBase o "pop" X.env (eval o X.env)=eval o X.env)(c:bg e=true)(a:(apos.endLine==cpos.line)=true):BE X (.Call (.Attribute o "pop" apos) [e] [] cpos) (nN td ty):=
 ⟨wJ d.h f.h ⟨b,nT (es:=[e]) (by simp[c]) (by show 1<29;decide),a,by
  rw[bc c];rfl⟩⟩
section
variable {K:Frag} 
def mY(ks:List Key)(ds:List D)(k:Key):List Key×List D:=(ks.filter λx=>decide (x≠k),((ks.zip ds).filter λa=>decide (a.1≠k)).map (·.2))
def DU(i:Nat)(fk:FE):FE:=λρ Q=>(unD ρ i).isSome=true/\fk ρ λs a=>on1 a s λb=>match lH b,unD a i with
 | some k,some (ks,ds)=>(match iJ ks ds k with
  |some d=>Q (.ov (.fz d)) (a.set i (some (.fd (mY ks ds k).1 (mY ks ds k).2)))
  |none=>False)
 |_,_=>False
theorem lO{F:Hp}{k:Key}:∀{ys:List (Key×V)} {ks:List Key} {ds:List D},ys.map (·.1)=ks->Dens K F (ys.map (·.2)) ds->(jd ys k).map (·.1)=(mY ks ds k).1/\Dens K F ((jd ys k).map (·.2)) (mY ks ds k).2
 |[],_,ds,a,h=>by subst a;cases h;exact⟨rfl,.nil⟩
 | y::ys,_,ds,a,h=>by
  subst a
  cases h with
  | @cons _ f _ ds h1 h2=>
   obtain⟨d,c⟩:=lO (k:=k) rfl h2;unfold jd mY at *;by_cases e:y.1=k
   ·have b:decide (y.1≠k)=false:=decide_eq_false λz=>z e;simp only[List.map_cons,List.zip_cons_cons,List.filter_cons,b,if_neg Bool.false_ne_true];exact⟨d,c⟩
   ·have b:decide (y.1≠k)=true:=decide_eq_true e;simp only[List.map_cons,List.zip_cons_cons,List.filter_cons,b,if_pos];exact⟨by rw[d],.cons h1 c⟩
theorem DW(z:μ[j]?=some i)(y:EF K μ ty fk):EF K μ (nN (ei j) ty) (DU i fk):=⟨by
 intro F Z H O σ ρ A Q P m R h q;obtain⟨B,h⟩:=h;obtain⟨⟨x,M⟩,J⟩:=abV.mp B;obtain⟨a,g,h1,h2,_,_,_⟩:=R.mutD J;refine⟨.ref a,(m j i z).1.trans h1,a,rfl,.inl ⟨g,.inl h2⟩,?_⟩;refine y.h m R h λr o v F1 H1 W U w s n v1 f1=>?_;obtain⟨S,D,b⟩:=bX w;split at b
 ·rename_i k ks ds G I;split at b
  ·rename_i d E;obtain⟨T,ys,f,l,c,e,mt⟩:=n.mutD I;rw[h1] at f;cases f;obtain⟨p,C,L⟩:=kg c e E;obtain⟨u,t⟩:=lO (k:=k) c e;obtain⟨V,N⟩:=mt (jd ys k) _ _ u t;exact⟨ys,k,p,l,eI (n.acc v1 D) G,C,q _ _ _ _ _ _ _ b s N (.fz L) Fresh.nil⟩
  ·exact b.elim
 ·exact b.elim⟩
theorem xV(h:j<n)(a:EF K (List.range n) ty fk):EF K (List.range n) (nN (ei j) ty) (DU j fk):=DW (by simp[h]) a
def tQ:D->Bool
 |.non=>true
 |_=>false
theorem Acc.isNon{v:V}{d:D}(h:Acc K F H v d):decide (v=.non)=tQ d:=by
 cases h with
 |fz h=>cases h <;> first|rfl|exact decide_eq_false (λz=>nomatch z)
 |lst=>exact decide_eq_false (λz=>nomatch z)
 |dct=>exact decide_eq_false (λz=>nomatch z)
 |dt=>exact decide_eq_false (λz=>nomatch z)
def AD:D->D->(OV->Prop)->Prop
 |d,.non,P=>P (.fz (.bl (tQ d)))
 |_,_,_=>False
def tR:D->D->(OV->Prop)->Prop
 |d,.non,P=>P (.fz (.bl (!tQ d)))
 |_,_,_=>False
theorem DX:OpF K Na AD:=⟨by
 intro F H x y d e Q P s b a f n;unfold AD at f;split at f
 ·exact⟨a.non_eq,by rw[b.isNon];exact ax s n (.bl _) f⟩
 ·exact f.elim⟩
theorem xW:OpF K HG tR:=⟨by
 intro F H x y d e Q P s b a f n;unfold tR at f;split at f
 ·exact⟨a.non_eq,by rw[b.isNon];exact ax s n (.bl _) f⟩
 ·exact f.elim⟩
end
section
variable {K:Frag} 
end
section
variable {K:Frag} 
end
section
variable {K:Frag} 
end
section
variable {K:Frag}
@[irreducible] def cMinD:List D->(OV->Prop)->Prop
 |[.dct ks _],P=>∃zs:List Str,ks=zs.map Sum.inr/\zs≠[]/\∀z∈zs,P (.fz (.str z))
 |_,_=>False
end
def tS(K:Frag):List V->Hp->VK->Prop:=λxs H Q=>∃p kvs,xs=[.ref p]/\Rd H p (.dK kvs)/\∀l,H l=none->Q (.ref l) (upd H l (.dK kvs))
theorem qz:CallR X (.type "dict") (tS X.K):=by
 intro pins s σ H xs us Q I r h;obtain⟨p,kvs,rfl,b,q⟩:=h;obtain⟨u,rfl,a⟩:=dZ r;cases a;exact wK I b λl s' c d=>⟨.ref l,_,d,rfl,q l c⟩
theorem xX(K:Frag)(h:X.K=K):BCall X (.type "dict") (tS K):=by subst h;exact⟨qz⟩
section
variable {K:Frag}
def DY:List D->(OV->Prop)->Prop
 |[.dct ks ds],P=>P (.fd ks ds)
 |_,_=>False
theorem DZ:CallF K (tS K) DY:=⟨by
 intro F H xs ds Q P s d f n;unfold DY at f;split at f
 ·rename_i ks g;obtain⟨x,rfl,c⟩:=bQ d;obtain⟨a,ys,rfl,h1,h2,e⟩:=c.asD s;exact⟨a,ys,rfl,h1,λq b=>n _ (.ref q) F _ [q] f (Pure.new s b) (.fd af h2 e) (New.one b (s.free b))⟩
 ·exact f.elim⟩
end
section
variable  {pins:List (Addr×Obj)} {σ:St}  {s:Shared} 
theorem Inv.frozen(I:Inv X pins σ H s)(e:H a=some (.dK kvs))(f:s.heap.get? a=some o):Inv X pins σ (upd H a (.frz o (.dK kvs))) s:=by
 have st:∀{b u},ObjOk X.prog X.w H s.heap b u->ObjOk X.prog X.w (upd H a (.frz o (.dK kvs))) s.heap b u:=λx=>x.stay (λ_ _ _ q=>q) (λc q=>by
  rw[aj λz=>by rw[z,e] at q;cases q];exact q) λc xs q=>by
  rw[aj λz=>by rw[z,e] at q;cases q];exact q
 exact I.un (h':=s.heap) (t':=s.toks) (H':=upd H a (.frz o (.dK kvs))) ⟨λb ob q _ _ _=>q,λb ob q _ _ _=>⟨ob.slots,q⟩,λb ob q n _=>by rw[aj λz=>by rw[z,e] at n;cases n];exact n,λb ob q _=>⟨ob,q⟩,
  λb xs q=>by rw[aj λz=>by rw[z,e] at q;cases q];exact q,λb ob u q=>by rw[aj λz=>by rw[z,e] at q;cases q];exact q,λb ps q=>⟨#[],by rw[aj (λz=>by rw[z,e] at q;cases q),q];simp⟩⟩ (λb u q=>by
  by_cases d:b=a
  ·subst d;rw[af] at q;cases q;exact⟨f,st (I.hok b _ e)⟩
  ·rw[aj d] at q;exact st (I.hok b u q))
theorem Inv.thaw(I:Inv X pins σ H s)(e:H a=some (.frz o (.dK kvs)))(k:∀o' g,X.H₀ a≠some (.frz o' g)):Inv X pins σ (upd H a (.dK kvs)) s:=by
 have d:∀b,H b=none->upd H a (.dK kvs) b=none:=λb h=>by rw[aj λz=>by rw[z,e] at h;cases h];exact h
 have st:∀{b u},ObjOk X.prog X.w H s.heap b u->ObjOk X.prog X.w (upd H a (.dK kvs)) s.heap b u:=λx=>x.stay (λ_ _ _ q=>q) (λc q=>by
  rw[aj λz=>by rw[z,e] at q;cases q];exact q) λc xs q=>by
  rw[aj λz=>by rw[z,e] at q;cases q];exact q
 refine⟨I.ok,I.os,I.bare,⟨I.base.keep,I.base.slot,λb ob q n i=>d b (I.base.free b ob q n i),I.base.there,λb xs q=>?_,λb ob u q=>?_,λb ps q=>?_⟩,I.loc,I.cell,d _ I.free,λx c q=>d c (I.freeC x c q),λp j=>?_,λb u q=>?_,I.len⟩
 ·have h:=I.base.tups b xs q;rw[aj λz=>by rw[z,e] at h;cases h];exact h
 ·have h:=I.base.frzs b ob u q;rw[aj (λz=>k ob u (by rw[← z];exact q))];exact h
 ·obtain⟨m,h⟩:=I.base.tbls b ps q;exact⟨m,by rw[aj λz=>by rw[z,e] at h;cases h];exact h⟩
 ·obtain⟨h1,h2,l⟩:=I.pin p j;exact⟨h1,d _ h2,l⟩
 ·by_cases f:b=a
  ·subst f;rw[af] at q;cases q;exact st (I.hok b _ e).2
  ·rw[aj f] at q;exact st (I.hok b u q)
def Gb(kv:Key×V):V:=kV kv.1
def Itd(c:Key×V->V)(a:Addr)(o:Obj)(kvs:List (Key×V)):It:=
 ⟨λi H=>H a=some (.frz o (.dK kvs))/\i<kvs.length,λi H x H'=>H'=H/\∃b,kvs[i]?=some b/\x=c b,λi H=>H a=some (.frz o (.dK kvs))/\i=kvs.length⟩
theorem Me{vs:List (Key×Value)}(r:KV kvs vs):∀{i:Nat} {kv:Key×V},kvs[i]?=some kv->∃x,vs[i]?=some (kv.1,x):=by
 induction r with
 |nil=>intro i kv h;simp at h
 | @cons p q ps c h t a=>
  intro i kv e
  cases i with
  |zero=>simp at e;subst e;exact ⟨q.2,by simp [h.1]⟩
  |succ i=>obtain ⟨x,b⟩:=a (i:=i) (kv:=kv) (by exists e);exact ⟨x,(by exists b)⟩
theorem tT{es:Array DictEntry}(I:Inv X pins σ H s)(hd:o.data=.dict es ep)(e:H a=some (.frz o (.dK kvs))):∃vs,KV kvs vs/\kvs.length=vs.length/\s.heap.DictAt (ay X.prog X.w) a vs ep:=by
 obtain⟨c,j,k,vs,b,o',g,i,h1,h2,d,f⟩:=(show ObjOk X.prog X.w H s.heap a (.frz o (.dK kvs)) from I.hok a _ e);rw[c] at h1;cases h1;rw[hd] at d;cases d;exact⟨vs,b,aa4 b,o,es,c,h2,hd,f⟩
theorem tU{P:Program}{w:World}{K:Frag}{it:Addr}{es:Array DictEntry}(hd:o.data=.dict es ep):Turn P w K tg (Itd Gb a o kvs) [it] it (λi h=>h.IsKeyIter it a i kvs.length ep) where
 mem:=by simp
 obj:=λi h st b hb=>by
  have e:b=it:=(by exists hb);subst e;obtain⟨o,e,c,d⟩:=st;exact⟨o,e,λv z=>by rw[d] at z;cases z⟩
 keep:=λi h h' st k=>st.at λo e=>k it (by simp) o e
 item:=by
  intro X hP hw hK hc i pins s σ H E I hf st hg;subst hP hw hK;obtain⟨e,hlt⟩:=hg;obtain⟨vs,rv,hl,hat⟩:=tT I hd e;obtain⟨x,hx⟩:=Me rv (List.getElem?_eq_getElem hlt);obtain⟨f0,f1,f2,f3,f4,f5⟩:=hf it (by simp);have st0:s.heap.IsKeyIter it a i vs.length ep:=hl ▸ st;refine wpAny_pyNext_dict_item (knd:=ay X.prog X.w) st0 hat hx λkey h' hkey st' sb=>?_;have I1:Inv X pins σ H { s with heap:=h' }:=I.turned (t':=s.toks) (λb o hb e=>(sb.2 b hb).trans e) f0 f1 f3 f4 f5;rw[← hl] at st';obtain⟨o2,e2,c2,d2⟩:=id st';refine⟨key,rfl,kZ (s:={ s with heap:=h' }) e2 c2 d2 (by decide) ⟨kV kvs[i].1,H,I1,?_,⟨rfl,_,List.getElem?_eq_getElem hlt,rfl⟩,st',λb hb=>(hf b hb).1⟩⟩;rcases aN (show jT kvs[i].1 key=true from hkey) with ⟨j,t,q1,q2⟩|⟨z,t,q1,q2⟩
  ·rw[q1,q2];exact⟨t,rfl⟩
  ·rw[q1,q2];exact⟨t,rfl⟩
 done:=by
  intro X hP hw hK hc i pins s σ H E I hf st hg;subst hP hw hK;obtain⟨e,hlt⟩:=hg;obtain⟨vs,rv,hl,hat⟩:=tT I hd e;obtain⟨f0,f1,f2,f3,f4,f5⟩:=hf it (by simp);have st0:s.heap.IsKeyIter it a i vs.length ep:=hl ▸ st;exact wpAny_pyNext_dict_end (knd:=ay X.prog X.w) (I.ok.hd hc) st0 hat (by simp;nofun) λh' eb=>⟨rfl,I.turned (t':=s.toks) (λb o hb e=>eb b o hb e) f0 f1 f3 f4 f5⟩
 self:=λ_ _ _ _ _ st h=>wpAny_pyIter_keyiter st h
def tV(b:Key×V->V)(tl:TE):TI:=λσ H R=>tl σ H λx H1=>∃a kvs,x=.ref a/\H1 a=some (.dK kvs)/\∀o,R (Itd b a o kvs) (upd H1 a (.frz o (.dK kvs)))
theorem D0(p:PE X l tl):PI X tg l (tV Gb tl):=by
 intro pins s σ H R I h;refine thn (p pins s σ H _ I h) λv c v=>?_;obtain⟨x,H1,d,m,n⟩:=v;obtain⟨a,kvs,e,f,q⟩:=n;subst e;cases m;obtain⟨A,t,vs,k,o,es,ep,h1,h2,j,u⟩:=(show ObjOk X.prog X.w H1 c.heap a (.dK kvs) from d.hok a _ f);have g:kvs.length=vs.length:=aa4 k;refine wpAny_pyIter_dict (knd:=ay X.prog X.w) t ⟨o,es,h1,h2,j,u⟩ ?_;have y:=d.kept (t':=c.toks) (h':=c.heap.push { cls:=.type "dict_keyiterator", data:=.fields #[.ref a,.int 0 0,.int vs.length 0,.int ep 0] }) λb o e=>Heap.get?_push_of_some _ e;have w:=y.frozen f (Heap.get?_push_of_some _ h1);refine⟨c.heap.objs.size,[c.heap.objs.size],_,_,_,rfl,w,tU j,⟨_,Heap.get?_push_size _ rfl,rfl,by rw[g];rfl⟩,λb r=>?_,q o⟩;have e:b=c.heap.objs.size:=(by exists r);subst e;have i:=d.hok.fresh (aac c.heap.objs.size);exact d.fpOk (aac _) (by rw[aj λz=>by rw[z,f] at i;cases i];exact i)
theorem D3(a:BE X l tl):BI X tg l (tV Gb tl):=⟨D0 a.h⟩
def xY(t:TE):TE:=λσ H Q=>t σ H λv H'=>∃a o kvs,H a=some (.dK kvs)/\H' a=some (.frz o (.dK kvs))/\Q v (upd H' a (.dK kvs))
theorem Inv.nofrz(I:Inv X pins σ H s)(e:H a=some (.dK kvs)):∀o' b,X.H₀ a≠some (.frz o' b):=λo' b z=>by
 have:=I.base.frzs a o' b z;rw[e] at this;cases this
theorem D4{t:TE}(h:BS X st (pM t (fE i))):BS X st (pM (xY t) (fE i)):=⟨by
 intro pins s σ H D I q;refine thn (h.h pins s σ H { D with nx:=λb H'=>∃a o kvs,H a=some (.dK kvs)/\H' a=some (.frz o (.dK kvs))/\D.nx b (upd H' a (.dK kvs)) } I q) λf k c=>?_
 cases f with
 | next=>
  obtain⟨b,H',j,a,o,kvs,g,e,d⟩:=c;exact⟨b,_,j.thaw e (I.nofrz g),d⟩
 |brk=>exact c
 |cont=>exact c
 |ret u=>exact c⟩
end
def fzo:Option OV->Option OV
 |some (.fz d)=>some (.fz d)
 |_=>none
def tW(a:List Key->List D->List D)(no i:Nat)(fg:FG)(ft:FT)(fe:FE):FE:=λρ Q=>match unD ρ i with
 |some (ks,ds)=>lB (List.replicate no none++(ρ.map fzo).set i (some (.fz (.dct ks ds)))) (eG fg ft fe (λas _=>(∃zs:List Str,as=zs.map .str)/\Q (.ov (.fl as)) ρ) (a ks ds) [])
 |none=>False
def Mf:List Key->List D->List D:=λks _=>ks.map xN
def AE(no i:Nat)(fg:FG)(ft:FT)(fe:FE):FE:=tW Mf no i fg ft fe
section
variable {K:Frag} 
theorem Slots.fzo{F H:Hp}:∀{σ:St} {ρ:FSt} {A:List Addr},Slots K F H σ ρ A->Slots K F H σ (ρ.map fzo) []
 |_,_,_,.nil=>.nil
 |_,_,_,.skip t=>.skip (Slots.fzo t)
 | _,_,_,.has (o:=o) h t=>by
  cases h with
  |fz d=>exact .has (A:=[]) (B:=[]) (.fz d) (Slots.fzo t)
  |_=>exact .skip (Slots.fzo t)
theorem D5(k:Key):Den K F (kV k) (xN k):=by
 cases k with
 |inl i=>exact .int i
 |inr z=>exact .str z
def IY(K:Frag)(c:Key×V->V)(a:List Key->List D->List D):Prop:=∀(F:Hp) (ys:List (Key×V)) ks ds,ys.map (·.1)=ks->Dens K F (ys.map (·.2)) ds->(a ks ds).length=ys.length/\∀(i:Nat) b,ys[i]?=some b->∃e,(a ks ds)[i]?=some e/\Den K F (c b) e
theorem D6:IY K Gb Mf:=λF ys ks ds h1 h2=>⟨by show (ks.map xN).length=_;rw[← h1,abD,abD],λi a e=>⟨xN a.1,by show (ks.map xN)[i]?=_;rw[← h1,aat,List.getElem?_map,e];rfl,D5 a.1⟩⟩
theorem xZ{pk:Key×V->V}{m:List Key->List D->List D}(hs:IY K pk m){N j0:Nat}(hj0:μ[j0]?=some N)(hix:∀j∈ixs,j<μ.length)(hg:GF K (muC no ixs μ) T g fg)(hT:∀i∈T,i<no)
  (hc:TF K (muC no ixs μ) tc fc) (he:EF K (muC no ixs μ) te fe):EF K μ (xY (gR no ixs (tV pk (ei j0)) g tc te)) (tW m no N fg fc fe):=⟨by
 intro F Z H τ σ ρ A Q P vw R h q;unfold tW at h;split at h
 case h_2=>exact h.elim
 rename_i ks ds e0;obtain⟨a,ys,g1,g2,g3,g4,_⟩:=R.mutD e0
 have ha0:a∈A:=by
  have e:=lG e0;obtain⟨v,B,A',h1,h2,h3,h4⟩:=R.sl.take e;rw[g1] at h1;cases h1
  cases h2 with
  |fd=>exact h3.mem_iff.mpr (by simp)
 obtain⟨hF0,hZ0⟩:=R.fr a ha0;refine⟨.ref a,(vw j0 N hj0).1.trans g1,a,ys,rfl,g2,λo D hD=>?_⟩;rw[fS] at h;have I:D≠a:=λz=>by rw[z,af] at hD;cases hD
 have s:H D=none:=by rw[aj I] at hD;exact hD
 -- what is one's own is held
 obtain⟨w,S,d⟩:=mix (A.filter λb=>decide (b≠a)) H Z;have inB:∀b,b∈A->b≠a->b∈A.filter λb=>decide (b≠a):=λb h1 h2=>abQ.mpr ⟨h1,decide_eq_true h2⟩;have n:∀b,b∈(A.filter λb=>decide (b≠a))->b∈A/\b≠a:=λb c=>⟨(abQ.mp c).1,of_decide_eq_true (abQ.mp c).2⟩
 have sz:Same Z w:=λb u z=>by
  rw[d b λy=>by rw[(R.fr b (n b y).1).2] at z;cases z];exact z
 have zA:w a=none:=by rw[d a λy=>(n a y).2 rfl];exact hZ0
 have zD:w D=none:=by
  rw[d D λy=>by
   obtain⟨u,G⟩:=R.sl.live D (n D y).1;rw[s] at G;cases G]
  exact R.zh.free s
 have W:F D=none:=R.fh.free s
 let F1:Hp:=upd F a (.frz o (.dK ys))
 let H1:Hp:=upd (upd H a (.frz o (.dK ys))) D (.lst [])
 have sF:Same F F1:=λb u z=>by rw[show F1 b=F b from aj λy=>by rw[y,hF0] at z;cases z];exact z
 have fh1:Same F1 H1:=λb u z=>by
  have bD:b≠D:=λy=>by rw[y,show F1 D=F D from aj I,W] at z;cases z
  rw[show H1 b=upd H a (.frz o (.dK ys)) b from aj bD];by_cases c:b=a
  ·subst c;rw[af];rw[show F1 b=some (.frz o (.dK ys)) from af] at z;exact z
  ·rw[aj c];rw[show F1 b=F b from aj c] at z;exact R.fh b u z
 have zh1:SameN w H1:=⟨λb u z=>by
  have bD:b≠D:=λy=>by rw[y,zD] at z;cases z
  have ba:b≠a:=λy=>by rw[y,zA] at z;cases z
  rw[show H1 b=upd H a (.frz o (.dK ys)) b from aj bD,aj ba];by_cases c:b∈A.filter λb=>decide (b≠a)
  ·rw[S b c] at z;exact z
  ·rw[d b c] at z;exact R.zh.s b u z,λb xs z=>by
  by_cases c:b∈A.filter λb=>decide (b≠a)
  ·rw[S b c] at z;exact R.sl.nt b (n b c).1 xs z
  ·rw[d b c] at z;exact R.zh.n b xs z⟩
 have dj1:∀b u,F1 b=some u->w b=none:=λb u z=>by
  by_cases c:b=a
  ·rw[c];exact zA
  ·rw[show F1 b=F b from aj c] at z;rw[d b λy=>by rw[(R.fr b (n b y).1).1] at z;cases z];exact R.dj b u z
 have sl0:Slots K F1 H1 σ (ρ.map fzo) []:=(R.sl.fzo).keep sF λ_ _ z=>nomatch z;have hi0:N<ρ.length:=(List.getElem?_eq_some_iff.mp (lG e0)).1;have en:(ρ.map fzo)[N]?=some none:=by rw[List.getElem?_map,lG e0];rfl
 obtain⟨A2,p2,sl2⟩:=sl0.put (i:=N) (B:=[]) en g1 (.fz (.dct (.inr ⟨o,af⟩) g3 (g4.mono sF)));have eA2:A2=[]:=(by exists p2);subst eA2;have R1:Rel K F1 w H1 (List.replicate no none++σ) (List.replicate no none++(ρ.map fzo).set N (some (.fz (.dct ks ds)))) []:=⟨sl2.none_app no,abS,λ_ z=>(nomatch z),fh1,zh1,dj1⟩;have fD1:F1 D=none:=by rw[show F1 D=F D from aj I];exact W
 have t:∀{F' H' f l A'},Same F1 F'->Rel K F' w H' f l A'->H' a=some (.frz o (.dK ys)):=λs' J=>J.fh _ _ (s' _ _ af);have hkl:(m ks ds).length=ys.length:=(hs F ys ks ds g3 g4).1
 refine⟨λi k acc C H'=>k=ys.length - i/\i<=ys.length/\∃F' l A' f as,Same F1 F'/\Rel K F' w H' f l A'/\View (muC no ixs μ) C f/\H' D=some (.lst acc)/\F' D=none/\D∉A'/\Dens K F' acc as /\
   eG fg fc fe (λas _=>(∃zs:List Str,as=zs.map .str)/\P (.ov (.fl as)) ρ) ((m ks ds).drop i) as l,
  ⟨_,rfl,aan _,F1,_,[],_,[],Same.refl _,R1,lF vw hix,af,fD1,(λz=>nomatch z),.nil,by rw[abj];exact h⟩,?_⟩
 rintro i k acc C H' ⟨rfl,hle,F',l,A',f,as,s',J,vw',p,hFD,hAD,dn,h'⟩;by_cases O:i<ys.length
 ·have L:i<(m ks ds).length:=by rw[hkl];exact O
  rw[aaD L,iG] at h'
  refine .inr ⟨⟨t s' J,O⟩,λacc C H'=>∃F' l A' f as,Same F1 F'/\Rel K F' w H' f l A'/\View (muC no ixs μ) C f/\H' D=some (.lst acc)/\F' D=none/\D∉A'/\Dens K F' acc as /\
   eG fg fc fe (λas _=>(∃zs:List Str,as=zs.map .str)/\P (.ov (.fl as)) ρ) ((m ks ds).drop (i+1)) as l,λacc' M H2 z=>⟨_,by nofun,rfl,O,z⟩,λx H2 y=>?_⟩
  obtain⟨rfl,kv,hkv,rfl⟩:=y;obtain⟨el,hel,del⟩:=(hs F ys ks ds g3 g4).2 i kv hkv
  have ekey:(m ks ds)[i]=el:=by
   rw[List.getElem?_eq_getElem L] at hel;exact aaj hel
  rw[ekey] at h';refine hg.h vw' J (del.mono (sF.trans s')) h' fun τ2 M ρ2 A2 p2 E R2 k2 kl2 _ m2=>?_
  have fD:Fresh F' w A2 [D]:=⟨by simp,λb c=>by
   have:b=D:=(by exists c);subst this;exact⟨hFD,zD,λz=>hAD (m2 _ z)⟩⟩
  obtain⟨Z2,sz2,R2',zl,back⟩:=R2.hold (B:=[D]) (λb c=>by
   have:b=D:=(by exists c);subst this;exact⟨_,p⟩) (.one p (λ_ z=>nomatch z) .nil) fD
  refine hc.h E R2' p2 λb ρ3 F3 H3 A3 Y X R3=>?_
  cases b with
  | false=>
   replace Y:=xu Y;rw[if_neg abK];obtain⟨R3',f3,k3⟩:=back _ _ _ _ X R3;have fa:=f3.fr D (by simp);exact⟨F3,ρ3,A3,M,as,s'.trans X,R3',E,k3 D _ (by simp) p,fa.1,fa.2.2,dn.mono X,Y⟩
  | true=>
   replace Y:=xt Y;rw[if_pos rfl];refine he.h E R3 Y λr ρ4 v F4 H4 A4 B4 p4 s4 R4 v4 f4=>?_;split at p4
   ·rename_i y ρ5 e5;obtain⟨F5,A5,s5,R5,dy,_,_⟩:=R4.frz v4 f4 e5;obtain⟨R5',f5,k5⟩:=back _ _ _ _ ((X.trans s4).trans s5) R5;have fa:=f5.fr D (by simp);refine⟨k5 D _ (by simp) p,by rw[dn.length];exact p4.1,F5,ρ5,A5,M,as++[y],((s'.trans X).trans s4).trans s5,R5'.write fa.2.2 fa.1 zD,E,af,fa.1,fa.2.2,(dn.mono ((X.trans s4).trans s5)).snoc dy,p4.2⟩
   ·exact p4.elim
 ·have e:i=ys.length:=by nofun
  subst e;rw[← hkl,aby,iF] at h';obtain⟨⟨zs,rfl⟩,h'⟩:=h';refine .inl ⟨⟨t s' J,rfl⟩,a,o,ys,g2,t s' J,?_⟩;have ex:=dn.strs_eq;subst ex
  have sl3:Slots K F (upd H' a (.dK ys)) σ ρ A:=R.sl.keep (Same.refl _) λb u c G=>by
   by_cases U:b=a
   ·subst U;rw[af];rw[g2] at G;exact G
   ·rw[aj U];exact J.zh.s b u (by rw[S b (inB b c U)];exact G)
  have R3:Rel K F Z (upd H' a (.dK ys)) σ ρ A:=⟨sl3,R.nd,R.fr,λb u z=>by
   rw[aj λy=>by rw[y,hF0] at z;cases z];exact J.fh b u (s' b u (sF b u z)),⟨λb u z=>by
   rw[aj λy=>by rw[y,hZ0] at z;cases z];exact J.zh.s b u (sz b u z),R.zh.n⟩,R.dj⟩
  refine q _ _ _ F _ A [D] h' (Same.refl _) R3 (.fl (by rw[aj I];exact p) (Dens.strs zs)) ⟨by simp,λb c=>?_⟩;have:b=D:=(by exists c);subst this
  exact⟨W,R.zh.free s,λz=>by
   obtain⟨u,G⟩:=R.sl.live b z;rw[s] at G;cases G⟩⟩
theorem tX(h:j<n)(a:∀j∈ixs,j<(List.range n).length)(b:GF K (muC no ixs (List.range n)) T g fg)(e:∀i∈T,i<no)
  (d:TF K (muC no ixs (List.range n)) tc fc) (c:EF K (muC no ixs (List.range n)) te fe):EF K (List.range n) (xY (gR no ixs (tV Gb (ei j)) g tc te)) (AE no j fg fc fe):=xZ D6 (by simp[h]) a b e d c
end
theorem x9 :BS X st rj:=⟨wj⟩
def fw:FS:=λ_ _=>False
theorem ya{K:Frag}{m:List Nat}:SF K n m rj fw:=⟨λ_ _ _ h=>h.elim⟩
theorem eO{c:FT}{f g:FS}{E:FEnds}{ρ:FSt}(I:FSt->Prop)(rest:∀ρ,I ρ->E.nx ρ)(h:(∀ρ,I ρ->E.nx ρ)->c ρ λb a=>br b (f E a) (g E a)):fIf c f g E ρ:=aB (h rest)
section
variable {K:Frag} 
end
end L2
namespace L2
open PySem PySem.Spec PyProof.Rows PyProof.Rows
section
variable {X:Cx} {pins:List (Addr×Obj)} {σ:St} {H:Hp} {s:Shared}
end
section
variable {K:Frag} {n:Nat} {m:List Nat} {G:Hp->Prop}
end
end L2
namespace L2
open PySem PySem.Spec PyProof.Rows
variable{X:Cx}{pins:List (Addr×Obj)}{σ:St}{H:Hp}{s:Shared}
end L2
namespace L2
open PySem PySem.W PySem.Spec PyProof.Rows PySem.Calls PySem.Builtin PySem.Builtin.ObjectAttr PySem.Builtin.Getset_descriptor
section
variable {prog:Program} {w:World} {A:Around} {E:Value->Shared->Prop} {s:Shared} {K:Frag} {a C:Addr} {o:Obj}
end
section
variable {X:Cx}
end
end L2
namespace HT
open PySem PySem.Spec PyProof.Rows
section
variable {prog:Program} {w:World} {A:Around} {E:Value->Shared->Prop} {s:Shared}
theorem getItem_tuple_all{t sl:Addr}{items:Array Value}{vl vu:Value}{lo hi:Option Int}{Q:Value->Shared->Prop}(a:IsTup s.heap t items)(hs:s.heap.IsSliceOf sl vl vu .none)(pl:IsPart vl lo)(f:IsPart vu hi)
  (e:sIx items.size 0 lo=0/\sIx items.size items.size hi=items.size) (h:Q (.ref t) s):wpAny (model prog w) A (getItem (.ref t) (.ref sl)) Q E s:=by
 obtain⟨os,b,c,g⟩:=id hs;have d:s.TypeIs (.ref sl) "slice" := ⟨os,b,c⟩;unfold getItem
 try with_reducible refine aaM ?_
 first|refine aaa (aaf ?_)|skip
 refine aaa (wpAny_sequenceKey a.typeIs (by decide) ?_)
 refine aaa (wpAny_callSpecial?_slot (name:=Str.ofString "__getitem__") a.typeIs aa2
  (aaA aa2 a.typeIs entry_tuple_getitem ?_ (args_tuple_getitem _ _)))
 show wpAny _ _ (Builtin.Tuple.tupleItemsOf (.ref t) >>= _) _ _ s;refine aaa (tupleItemsOf_ a ?_);refine aaa (wpAny_typeOf d ?_);rw[if_pos (by decide)];refine aaa (dR hs pl f ?_);show wpAny _ _ (if (((sIx items.size 0 lo:Nat):Int)==0&&(1:Int)==1&&(sIx items.size items.size hi - sIx items.size 0 lo)==items.size)=true then _ else _) _ _ s;rw[if_pos (by rw[e.1,e.2];simp)];refine aaa (m:=Builtin.Tuple.tupleIsExact _) (aaa (wpAny_typeOf a.typeIs (aaf ?_)));rw[if_pos (by decide)]
 first
  |exact aaa (abB (aaf ⟨_,rfl,aaf h⟩))
  |exact aaa (abB (aaa (aaf (aaf ⟨_,rfl,aaf h⟩))))
  |exact aaa (aaa (abB (aaf (aaf ⟨_,rfl,aaf h⟩))))
  |exact aaa (aaa (abB (aaf ⟨_,rfl,aaf h⟩)))
end
end HT
namespace L2
open PySem PySem.Spec PyProof.Rows
variable{X:Cx}
def IZ(K:Frag):V->Option Int->Option Int->Hp->VK->Prop:=λx lo hi H Q=>∃a xs,x=.ref a/\SqT K H a xs/\HT.sIx xs.length 0 lo=0/\HT.sIx xs.length xs.length hi=xs.length/\Q (.ref a) H
theorem D7:SlR X (IZ X.K):=by
 intro pins s σ H x v vl vu lo hi sl Q I f hs pl g h;obtain⟨a,xs,rfl,i,e,d,q⟩:=h;cases f;obtain⟨its,r,c,j⟩:=I.tuple i;have b:its.toArray.size=xs.length:=by rw[abN];exact r.length.symm
 refine⟨"tuple", _,PyProof.Rows.slot_tuple_getitem.lookup,c.typeIs,?_⟩;exact HT.getItem_tuple_all c hs pl g (by rw[b];exact⟨e,d⟩) ⟨.ref a,H,I,rfl,q⟩
def Nj(K:Frag):V->Option Int->Option Int->Hp->VK->Prop:=λx lo hi H Q=>G9 K x lo hi H Q∨IZ K x lo hi H Q
theorem tY{a:Expr}{lo hi:Option Expr}{ta:TE}{tl th:TO}{pos b:Pos}(K:Frag)(d:BE X a ta)(c:BO X lo tl)(hh:BO X hi th)(e:X.K=K):BE X (.Subscript a (.Slice lo hi none b) pos) (tSl (Nj K) ta tl th):=by
 subst e;exact⟨nJ (Ap.or D7) d.h c.h hh.h⟩
section
variable {K:Frag} {μ:List Nat}
theorem tZ{α:Type}{xs:List α}{lo hi:Option Int}(h1:HT.sIx xs.length 0 lo=0)(h2:HT.sIx xs.length xs.length hi=xs.length):eC xs lo hi=xs:=by
 unfold eC;rw[h1,h2];simp
def Mg:D->Option Int->Option Int->(OV->Prop)->Prop
 |.str z,lo,hi,P=>z.length<=sizeLine/\P (.fz (.str (gv z lo hi)))
 |.lst ds,lo,hi,P=>P (.fl (eC ds lo hi))
 |.tup ds,lo,hi,P=>P (.fz (.tup (eC ds lo hi)))
 |_,_,_,_=>False
theorem Mh:SlF K (Nj K) Mg:=⟨by
 intro F H x d lo hi Q P s b f n;unfold Mg at f;split at f
 ·exact .inl (kh.h s b (by unfold aSl;exact f) n)
 ·exact .inl (kh.h s b (by unfold aSl;exact f) n)
 ·rename_i ds;by_cases c:HT.sIx ds.length 0 lo=0/\HT.sIx ds.length ds.length hi=ds.length
  ·have e:=tZ c.1 c.2;rw[e] at f;have g:=b;obtain⟨a,xs,rfl,h1,h2⟩:=b.asT s;refine .inr ⟨a,xs,rfl,h1,by rw[h2.length];exact c.1,by rw[h2.length];exact c.2,?_⟩
   cases g with
   |fz hd=>exact ax s n hd f
  ·exact .inl (kh.h s b (by unfold aSl;exact⟨c,f⟩) n)
 ·exact f.elim⟩
end
mutual
def depD:D->Nat
 |.lst xs=>depDs xs+1
 |.tup xs=>depDs xs+1
 |_=>0
def depDs:List D->Nat
 |[]=>0
 |d::ds=>max (depD d) (depDs ds)
end
mutual
def okS:D->Bool
 |.lst xs=>okSs xs
 |.tup xs=>okSs xs
 |.dct _ _=>false
 |.ty _=>false
 |.gt _=>false
 |.dt _ _=>false
 |_=>true
def okSs:List D->Bool
 |[]=>true
 |d::ds=>okS d&&okSs ds
end
section
variable  {pins:List (Addr×Obj)} {σ:St} {H:Hp} {s:Shared}
end
section
variable {K:Frag}
end
end L2
namespace L2
open PySem PySem.Spec PyProof.Rows
open PySem.Builtin PySem.Builtin.Str
section
variable {X:Cx}
end
section
variable {K:Frag} {μ:List Nat}
end
end L2
namespace L2
open PySem PySem.Builtin PySem.Builtin.Str PySem.StrLaws
theorem hX(z:Str):z.length=z.cps.toList.length:=by simp[Str.length]
theorem mZ{a b:Str}(h:a.cps.toList=b.cps.toList):a=b:=Str.ext' (Array.toList_inj.mp h)
end L2
namespace L2
open PySem PySem.Spec PyProof.Rows PySem.W
section
variable {n:Nat} {lt:Nat->Nat->Bool}
end
section
variable {prog:Program} {w:World} {A:Around} {s:Shared} {C:Bool->Shared->Prop} {bb fn:Bool}
end
section
variable {X:Cx}
end
section
variable {K:Frag}
end
end L2
namespace L2
open PySem PySem.Spec PyProof.Rows
open PySem.Builtin PySem.Builtin.Str
def cX(z:Str)(n:Int):Str:=⟨(List.replicate n.toNat z.cps).foldl (·++·) #[]⟩
theorem qA(a:Array Nat)(n:Nat)(acc:Array Nat):((List.replicate n a).foldl (·++·) acc).toList=acc.toList++(List.replicate n a.toList).flatten:=by
 induction n generalizing acc with
 |zero=>simp
 |succ n b=>rw[List.replicate_succ,List.foldl_cons,b,Array.toList_append,List.replicate_succ,List.flatten_cons,aar]
theorem fI(z:Str)(n:Int):(cX z n).cps.toList=(List.replicate n.toNat z.cps.toList).flatten:=(qA _ _ _).trans (List.nil_append _)
theorem e7(z:Str)(n:Int):(cX z n).length=z.length*n.toNat:=by
 have h:=congrArg List.length (fI z n);rw[List.length_flatten,List.map_replicate,List.sum_replicate_nat] at h;exact h.trans (Nat.mul_comm _ _)
def I0:R2:=λx y H Q=>∃(z:Str) (n:Int),x=.str z/\y=.int n/\1<n/\0<z.length/\z.length*n.toNat<=16777216/\Q (.str (cX z n)) H
section
variable {X:Cx}
theorem yb:OpR X (binaryOp .Mult) I0:=by
 intro pins s σ H x y v u Q I g f h;obtain⟨z,n,rfl,rfl,h1,i,e,q⟩:=h;obtain⟨t,rfl⟩:=g;obtain⟨t',rfl⟩:=f;have l:n.toNat<=16777216:=aas (Nat.le_mul_of_pos_left _ i) e;have k:z.length<=16777216:=aas (Nat.le_mul_of_pos_right _ (by nofun)) e
 have j:(n==1 || z.length==0)=false:=by
  rw[Bool.or_eq_false_iff,beq_eq_false_iff_ne,beq_eq_false_iff_ne];exact⟨by nofun,by nofun⟩
 refine PySem.P.mul_str (by rw[Bool.or_eq_false_iff,decide_eq_false_iff_not,decide_eq_false_iff_not];exact⟨by nofun,by nofun⟩) (λ_ _ d=>?_) (λ_ _=>?_) ?_
 ·have:((z.length*n.toNat:Nat):Int)=z.length*n:=by rw[Int.natCast_mul,Int.toNat_of_nonneg (by nofun)]
  have h2:(z.length:Int)*n<=2 ^ 63 - 1:=by nofun
  have:=Int.lt_iff_add_one_le.mp d;have m:=(Int.le_ediv_iff_mul_le (c:=n) (a:=(z.length:Int)) (b:=2 ^ 63 - 1) (by nofun)).mpr h2;nofun
 ·have:=sizeLine_eq;unfold tooLong;simp;nofun
 ·rw[if_neg (by nofun),if_neg (by rw[j];decide)];refine⟨?_,.str _,H,I.tok _,⟨_,rfl⟩,q⟩;exact(e7 z n).symm ▸ (by have:=sizeLine_eq;nofun)
end
section
variable {K:Frag} {μ:List Nat}
end
end L2
namespace L2
open PySem PySem.Spec PyProof.Rows
variable{X:Cx}{μ:List Nat}{A:Around}{E:Value->Shared->Prop}{s:Shared}
section
variable {K:Frag} 
end
section
variable {M:Model}   
end
section
variable {prog:Program} {w:World}   {R:Result->Shared->Prop} 
end
section
variable  {pins:List (Addr×Obj)} {σ:St} {H:Hp}  {T F:List Str} {ixs:List Nat} {scope:Scope} {fp:List Addr}
end
section
variable {K:Frag}  {G:Hp->Prop}
end
end L2
namespace L2
open PySem PySem.W PySem.Spec PyProof.Rows
variable{X:Cx}
end L2
namespace L2
open PySem PySem.Spec PyProof.Rows
section
variable {X:Cx}
end
section
variable {K:Frag} {μ:List Nat}
end
end L2
namespace L2
open PySem PySem.Spec PyProof.Rows
open PySem.Builtin PySem.Builtin.Str PySem.StrLaws
def D8:R2:=λx y H Q=>∃(z:Str) (n:Int),x=.str z/\y=.int n/\1<=n/\0<z.length/\z.length*n.toNat<=16777216/\Q (.str (cX z n)) H
theorem qB(z:Str):cX z 1=z:=by
 apply mZ;rw[fI];simp
section
variable {X:Cx}
theorem jJ:BOp X (binaryOp .Mult) D8:=⟨by
 intro pins s σ H x y v u Q I b a h;obtain⟨z,n,rfl,rfl,h1,e,d,q⟩:=h;by_cases c:n=1
 ·subst c;rw[qB] at q;obtain⟨t,rfl⟩:=b;obtain⟨t',rfl⟩:=a;refine PySem.P.mul_str (by decide) (λ_ h=>absurd h (by simp)) (λ_ h=>absurd h (by simp)) ?_;rw[if_neg (by decide),if_pos (by simp)];exact⟨.str z,H,I,⟨_,rfl⟩,q⟩
 ·exact yb pins s σ H _ _ v u Q I b a ⟨z,n,rfl,rfl,by nofun,e,d,q⟩⟩
end
section
variable {K:Frag} {μ:List Nat}
end
end L2
namespace L2
open PySem PySem.Spec PyProof.Rows
variable{μ ixs T m:List Nat}{n no i j c k ix:Nat}{te tv td ty tk:TE}{fe fk fv:FE}{t:TA}{fa:FA}{wi:TI}{g:TG}{fg:FG}{tc:TT}{fc:FT}{ds:List D}{os:List OV}{X:Cx}{pos p:Pos}{y v:V}{x f q mn:Str}{e:Expr}{es:List Expr}{st:Stmt}{oc doc pm cdv ct:Value}{od an:Option Addr}{osl:Array (Option Value)}{Z F F' H H':Hp}{fd:FuncData}{ps:List FV}{σ:St}{ρ:FSt}{A B:List Addr}{a C:Addr}{o:Obj}{vs xs:List V}{α K:Type}{d:D}{cc:Ct}{prog:Program}{w:World}{E:Value->Shared->Prop}{s:Shared}{Q:Option Value->Shared->Prop}{ks:List (List Key)}{trs:List (TE×TE)}
def fW(fa:FE):FT:=au fa
def bw(_:List Nat)(no:Nat)(fi:FI)(fg:FG)(ft:FT)(fe:FE):FE:=Ir no fi fg ft fe
def t0(_:List Nat)(no i:Nat)(fg:FG)(ft:FT)(fe:FE):FE:=AE no i fg ft fe
section
variable {K:Frag}    
theorem tf_B(a:EF K μ te fe):TF K μ (tB te) (fW fe):=⟨(tj a).h⟩
theorem yc{c:Ct}(a:AF K μ t fa):EF K μ (pU (spM K c) [] E0 t) (ah c fa):=tq a
theorem Mi(h:μ[μ.idxOf i]?=some i):EF K μ (ei (μ.idxOf i)) (ab i):=tf h
theorem gf_c(h:decide (i<no)=true)(a:(muC no ixs μ).Nodup):GF K (muC no ixs μ) [i] (fE i) (ac i):=tt (by
 unfold muC;rw[List.getElem?_append_left (by rw[abT];exact of_decide_eq_true h)];simp[of_decide_eq_true h]) a
theorem Mj{fi:FI}(hi:ITF K μ wi fi)(b:GF K (muC no ixs μ) T g fg)(e:∀i∈T,i<no)(a:∀j∈ixs,j<μ.length)
  (d:TF K (muC no ixs μ) tc fc) (c:EF K (muC no ixs μ) te fe):EF K μ (gR no ixs wi g tc te) (bw ixs no fi fg fc fe):=Dy hi a b e d c
theorem Ml(h:j<n)(b:GF K (muC no ixs (List.range n)) T g fg)(e:∀i∈T,i<no)(a:∀j∈ixs,j<(List.range n).length)
  (d:TF K (muC no ixs (List.range n)) tc fc) (c:EF K (muC no ixs (List.range n)) te fe):EF K (List.range n) (xY (gR no ixs (tV Gb (ei j)) g tc te)) (t0 ixs no j fg fc fe):=tX h a b e d c
end
def D9:List D->List Str
 |.str z::ds=>z::D9 ds
 |_=>[]
theorem Mm{K:Frag}(h:(D9 ds).map D.str=ds):EF K μ (tGU K ((D9 ds).map V.str)) (fC (.gt ds)):=L9 λ_=>by
 conv=>arg 4;rw[← h]
 exact Dens.strs _
def La(m:List Nat):Nat->List OV->Bool
 |_,[]=>true
 |i,o::os=>(m.contains i || tE o)&&La m (i+1) os
theorem t4{m:List Nat}:∀{os:List OV} {i:Nat},La m i os=true->∀j o,os[j]?=some o->i+j∉m->tE o=true
 |[],_,_,_,_,e,_=>nomatch e
 | a::os,i,h,j,o,e,n=>by
  rw[La,abR,Bool.or_eq_true] at h
  cases j with
  | zero=>
   cases e;exact h.1.elim (λz=>absurd (List.contains_iff_mem.mp z) n) id
  |succ j=>exact t4 h.2 j o e (by rw [Nat.add_right_comm];exact n)
theorem lo_of(h1:os.length=n)(h2:La m 0 os=true):os.length=n/\∀j o,os[j]?=some o->j∉m->tE o=true:=⟨h1,λj o e a=>t4 h2 j o e (by rw[Nat.zero_add];exact a)⟩
def tgN:Expr->List Str
 |.Name x _=>[x]
 | .Tuple es _ _=>es.filterMap λe=>match e with
  |.Name x _=>some x
  |_=>none
 |_=>[]
def fvN(X:Cx)(ixs:List Nat):List Str:=ixs.map λi=>X.N.getD i ""
theorem Mn{l:List Str}(h:decide l.Nodup=true):l.Nodup:=of_decide_eq_true h
section
variable    {scope:Scope} {elt tg iter:Expr} {ifs:List Expr}     
theorem Mo(e:(tgN tg).length=no)(d:X.calm=true)(S:CompScope X (tgN tg) (fvN X ixs) ixs scope)(hi:BI X tg iter wi)
  (b:∀C s H fp,BG (bo X (tgN tg++fvN X ixs) scope (aG X.env scope.names []) C s H fp) tg g) (a:∀C s H fp,BIf (bo X (tgN tg++fvN X ixs) scope (aG X.env scope.names []) C s H fp) ifs tc) (c:∀C s H fp,BE (bo X (tgN tg++fvN X ixs) scope (aG X.env scope.names []) C s H fp) elt te)
  (hs:∀x,foldedSetIterable iter X.env x=pure x):BE X (.ListComp elt [⟨tg,iter,ifs,0⟩] scope pos) (gR no ixs wi g tc te):=e ▸ CF d S hi b a c hs
theorem Mp{y:Str}{py a:Pos}(b:swapsWith (.ListComp elt [⟨tg,iter,ifs,0⟩] scope pos) (some (.Name y py)) a.line X.env=pure true)(l:(tgN tg).length=no)(k:X.calm=true)(S:CompScope X (tgN tg) (fvN X ixs) ixs scope)(hi:BI X tg iter wi)
  (e:∀C s H fp,BG (bo X (tgN tg++fvN X ixs) scope (aG X.env scope.names []) C s H fp) tg g) (d:∀C s H fp,BIf (bo X (tgN tg++fvN X ixs) scope (aG X.env scope.names []) C s H fp) ifs tc) (j:∀C s H fp,BE (bo X (tgN tg++fvN X ixs) scope (aG X.env scope.names []) C s H fp) elt te)
  (hs:∀x,foldedSetIterable iter X.env x=pure x) (m:X.N.Nodup) (c:X.N[i]?=some y) (hx:Loc X.env.scope y) (f:X.fn y=true∨X.env.scope.names.lookup y=some .local) :
  BS X (.Assign [.Name y py] (.ListComp elt [⟨tg,iter,ifs,0⟩] scope pos) a) (pM (gR no ixs wi g tc te) (fE i)):=l ▸ Dg k S hi e d j hs m c hx b f
theorem yd{f:Value}{r:List V->Hp->VK->Prop}(k:BCall X f r)(i:X.mg x=none)(d:bootBuiltins x=some f)(m:(∃id,f=.builtin id)∨∃T,f=.type T)(l:BA X (e::es) t)(j:X.env.kindOf x=some .globalImplicit)(a:(e::es).all bg=true)(g:(x == "__name__")=false)
  (c:(x==("__debug__" : Str))=false):BE X (.Call (.Name x p) (e::es) [] pos) (tCB r t):=by
 have b:x ≠ "__name__" := λz=>by rw[z] at g;exact absurd g (by decide)
 rcases m with ⟨id,rfl⟩|⟨T,rfl⟩
 ·exact wZ k i d l j a b c
 ·exact w8 k i d l j a b c
end
structure Df(K:Frag)(x:Str)(st:Stmt)(f:Addr)(fd:FuncData):Prop where
 ns:PySem.W.nsIn K mainGlobals x=some (some (.ref f))
 fn:Fun K x x st f fd
theorem df_mk{K:Frag}{f:Addr}{kV:Value}(a:PySem.W.nsIn K mainGlobals x=some (some (.ref f)))(l:K.lookup f=some ⟨oc,od,.func (PySem.W.fnOf x x (cD st) (bu st) (aw st) .none kV doc pm an cdv ct),osl⟩)
  (c:PySem.W.codeIn K cdv x=true) (k:PySem.W.keepIn K (.ref f)=true):Df K x st f (PySem.W.fnOf x x (cD st) (bu st) (aw st) .none kV doc pm an cdv ct):=⟨a,An l c k⟩
abbrev Lh(c:Ct)(n:Nat)(m:List Nat):Prop:=∀os P,c os P->os.length=n/\∀j o,os[j]?=some o->j∉m->tE o=true
abbrev Hh(c:Ct)(f:FS)(m:List Nat)(n:Nat):Prop:=∀os P,c os P->f { nx:=fin m os P (.fz .non),rt:=fin m os P } (ai n os)
structure Zz where
 P:Program
 w:World
 K:Frag
 mg:Str->Option Value
 base:Heap
 h:Heap
structure TopZ(Z:Zz)(T:Prop):Prop where
 X:Z.K.In Z.h
 G:Z.h.Ns mainGlobals Z.mg
 T:T
abbrev cv(Z:Zz)(x:Str)(k:Nat)(ps:List Str)(c:Ct):Prop:=Own Z.P Z.w Z.K Z.mg Z.base x k ps (spM Z.K c)
section
variable {Z:Zz} {T:Prop}   {f:Addr}  {ps:List Str} {c:Ct} {fs:FS}  
theorem ko(N:List Str)(t:TopZ Z T)(D:Fun Z.K x q st f fd)(e:Lh c ps.length m)(l:Hh c fs m n)(S:FnScope N ps (aw st))
  (d:∀(cdv:Value) (A:Around) (outer:List Env) (s:Shared) (H:Hp) (E:XK),T->N.Nodup->Room k (A.deeper (envOfC q (aw st) s.heap.objs.size f cdv)) ->
   ∃t,SF Z.K n m t fs/\BSs (rP CX0 Z.P Z.w Z.K Z.mg Z.base N q (aw st) f cdv A outer s H E).nox (bu st) t) (g:autoParam (N.length=n) L2.aR._auto_1) (o:autoParam (ps.length<=n) L2.aD._auto_1) (j:autoParam (∀i∈m,i<ps.length) L2.aD._auto_1):FnOk Z.P Z.w Z.K Z.mg Z.base CX0 (k+1) f fd ps (spM Z.K c):=
 Fun.okG n m D S g o e j (λcdv A outer s H E hr=>let ⟨t,a,b⟩:=d cdv A outer s H E t.T S.nd hr;⟨t,b,a⟩) l
theorem ar(N:List Str)(t:TopZ Z T)(D:Df Z.K x st f fd)(b:Lh c ps.length m)(g:Hh c fs m n)
  (j:∀(kV doc pm:Value) (an:Option Addr) (cdv ct:Value) (us:List Value),us.length=ps.length->bindArgs (PySem.W.fnOf x x (cD st) (bu st) (aw st) .none kV doc pm an cdv ct) ⟨us,[]⟩=pure (ps.zip us)) (S:FnScope N ps (aw st))
  (a:∀(cdv:Value) (A:Around) (outer:List Env) (s:Shared) (H:Hp) (E:XK),T->N.Nodup->Room k (A.deeper (envOfC x (aw st) s.heap.objs.size f cdv)) ->
   ∃t,SF Z.K n m t fs/\BSs (rP CX0 Z.P Z.w Z.K Z.mg Z.base N x (aw st) f cdv A outer s H E).nox (bu st) t) (d:autoParam (N.length=n) L2.aR._auto_1) (l:autoParam (ps.length<=n) L2.aD._auto_1) (e:autoParam (∀i∈m,i<ps.length) L2.aD._auto_1):cv Z x (k+1) ps c:=
 ⟨f,fd,ko N t D.fn b g S a d l e,aaU t.X t.G D.ns,D.fn.kp,D.fn.binds j⟩
end
structure ClsF(K:Frag)(c:Nat)(C:Addr):Prop where
 ns:PySem.W.nsIn K mainGlobals (Dh c)=some (some (.ref C))
 cl:Cls K C
 na:∀f∈cg c,NoAttr K C f
theorem dO(c:Nat):(cg c).Nodup:=by
 match c with
 |0=>decide +kernel
 |1=>exact abS
 |_+2=>exact abS
def unO(ρ:FSt)(i c:Nat):Option (Addr×List FV):=match ρ[i]? with
 | some (some (.ob ⟨a,c',ps⟩))=>(match Nat.beq c' c with
  |true=>some (a,ps)
  |false=>none)
 |_=>none
def Lb(a:Addr):OV->Option FV
 |.fz d=>some (.fz d)
 |.fl ds=>some (.fl a ds)
 |.fd ks ds=>some (.fd a ks ds)
 |.ft ks ds=>some (.ft a ks ds)
 |_=>none
def t5(as:Nat->Addr):Nat->List OV->Option (List FV)
 |_,[]=>some []
 | i,o::os=>match Lb (as i) o with
  | some p=>match t5 as (i+1) os with
   |some ps=>some (p::ps)
   |none=>none
  |none=>none
def I8(ps:List FV)(k:Nat)(g:FV):Option (List FV):=match Nat.blt k ps.length with
 |true=>some (ps.set k g)
 | false=>(match Nat.beq k ps.length with
  |true=>some (ps++[g])
  |false=>none)
section
variable {K:Frag}     
theorem t6(h:unO ρ i c=some (a,ps)):ρ[i]?=some (some (.ob ⟨a,c,ps⟩)):=by
 unfold unO at h;split at h
 ·rename_i f c' b e;split at h
  ·rename_i d;cases h;rw[e,Nat.eq_of_beq_eq_true d]
  ·cases h
 ·cases h
def adr:V->Addr
 |.ref a=>a
 |_=>0
theorem Ow.part{o:OV}{g:FV}(h:Ow K F H v o B)(e:Lb (adr v) o=some g):Fw K F H v g B:=by
 cases h with
 |fz h=>cases e;exact .fz h
 |fl h t=>cases e;exact .fl h t
 |fd h q t=>cases e;exact .fd h q t
 |ft h q t=>cases e;exact .ft h q t
 |_=>cases e
theorem Ows.parts{as:Nat->Addr}(h:Ows K F H vs os B):∀{ps:List FV} {i:Nat},(∀j v,vs[j]?=some v->as (i+j)=adr v)->t5 as i os=some ps->Fws K F H vs ps B:=by
 induction h with
 |nil=>intro ps i _ e;cases e;exact .nil
 | @cons v o _ os _ _ h t f=>
  intro ps i c e;unfold t5 at e;have k:as i=adr v:=c 0 v rfl
  cases a:Lb (as i) o with
  |none=>rw [a] at e;cases e
  | some p=>
   cases b:t5 as (i+1) os with
   |none=>rw[a,b] at e;cases e
   | some d=>
    rw[a,b] at e;cases e;exact .cons (h.part (k ▸ a)) (f (λj w g=>by rw[show i+1+j=i+(j+1) by nofun];exact c (j+1) w g) b)
theorem Fws.length{xs:List V}{ps:List FV}{B:List Addr}(h:Fws K F H xs ps B):xs.length=ps.length:=by
 induction h with
 |nil=>rfl
 |cons _ _ a=>exact congrArg (·+1) a
theorem Fws.at_(h:Fws K F H xs ps B):∀{k:Nat} {g:FV},ps[k]?=some g->∃x C B',xs[k]?=some x/\Fw K F H x g C/\B.Perm (C++B') /\
  ∀F' H' y g' c,Same F F'->(∀a u,a∈B'->H a=some u->H' a=some u)->Fw K F' H' y g' c->∃b,Fws K F' H' (xs.set k y) (ps.set k g') b/\b.Perm (c++B'):=by
 induction h with
 |nil=>intro k g e;cases e
 | @cons x o xs os d q h t m=>
  intro k g e
  cases k with
  | zero=>
   cases e;exact⟨x,d,q,rfl,h,aaE _,λF' H' y g' c s k w=>⟨_,.cons w (t.keep s k),aaE _⟩⟩
  | succ k=>
   obtain⟨y,C,B',h1,h2,p,n⟩:=m (k:=k) e
   have sw:∀(C:List Addr),(d++(C++B')).Perm (C++(d++B')):=λC=>by
    rw[← aar,← aar];exact aa5 _ abb
   refine⟨y,C,d++B',h1,h2,(aaX d p).trans (sw C),λF' H' i g' c s k w=>?_⟩;obtain⟨b,l,j⟩:=n F' H' i g' c s (λa u f=>k a u (aal _ f)) w;exact⟨_,.cons (h.keep s λa u f=>k a u (aav _ f)) l,(aaX d j).trans (sw c)⟩
theorem Fws.snoc{C:List Addr}{g:FV}(h:Fws K F H xs ps B)(w:Fw K F H y g C):∃a,Fws K F H (xs++[y]) (ps++[g]) a/\a.Perm (C++B):=by
 induction h with
 |nil=>exact⟨_,.cons w .nil,aaE _⟩
 | @cons x o xs os c d h t b=>
  obtain⟨a,h1,h2⟩:=b;refine⟨_,.cons h h1,(aaX c h2).trans ?_⟩;rw[← aar,← aar];exact aa5 _ abb
theorem Rel.away(R:Rel K F Z H σ ρ A)(k:∀a u,a∉B->H a=some u->H' a=some u)(f:∀b∈B,F b=none/\Z b=none/\b∉A):Rel K F Z H' σ ρ A:=
 ⟨R.sl.keep (Same.refl _) λa u c h=>k a u (λz=>(f a z).2.2 c) h,R.nd,R.fr,λa u h=>k a u (λz=>by rw[(f a z).1] at h;cases h) (R.fh a u h),⟨λa u h=>k a u (λz=>by rw[(f a z).2.1] at h;cases h) (R.zh.s a u h),R.zh.n⟩,R.dj⟩
theorem Rel.chg{o:OV}(R:Rel K F Z H σ ρ A)(e:ρ[i]?=some (some o)):∃v B,σ[i]?=some (some v)/\Ow K F H v o B/\B.Nodup/\(∀b∈B,b∈A) /\
  ∀H' o' c,(∀a u,a∉B->H a=some u->H' a=some u)->Ow K F H' v o' c->c.Nodup->(∀b∈c,b∈B∨(F b=none/\Z b=none/\b∉A))->∃A',Rel K F Z H' σ (ρ.set i (some o')) A':=by
 obtain⟨v,B,A',h1,h2,j,f,pm⟩:=R.takeI e;refine⟨v,B,h1,h2,f.nd,λb d=>pm.mem_iff.mpr (abE.mpr (.inl d)),λH' o' c k w nd m=>?_⟩;obtain⟨l,g,_⟩:=(j.away k f.fr).putI (eY e) h1 w ⟨nd,λb d=>(m b d).elim (f.fr b) λz=>⟨z.1,z.2.1,λy=>z.2.2 (pm.mem_iff.mpr (abE.mpr (.inr y)))⟩⟩;rw[abx] at g;exact⟨l,g⟩
theorem t7{fs:List (Str×V)}:∀{k:Nat} {f:Str} {x:V},(fs.map (·.1)).Nodup->(fs.map (·.1))[k]?=some f->(fs.map (·.2))[k]?=some x->fs.lookup f=some x:=by
 induction fs with
 |nil=>intro k f x _ h;cases h
 | cons p fs a=>
  intro k f x n h1 h2;obtain⟨n1,n2⟩:=abL.mp n
  cases k with
  |zero=>cases h1;cases h2;simp [List.lookup]
  | succ k=>
   have b:f∈fs.map (·.1):=List.mem_of_getElem? h1;have:(f==p.1)=false:=beq_eq_false_iff_ne.mpr λz=>n1 (show p.1∈_ from z ▸ b);rw[aaF,this];exact a (k:=k) n2 h1 h2
theorem Ea{fs:List (Str×V)}(h:f∉fs.map (·.1)):fs.lookup f=none:=by
 induction fs with
 |nil=>rfl
 | cons p fs a=>
  rw[abG,abI,not_or] at h;rw[aaF,beq_eq_false_iff_ne.mpr h.1];exact a h.2
theorem Eb{fs:List (Str×V)}:∀{k:Nat} {f:Str},(fs.map (·.1)).Nodup->(fs.map (·.1))[k]?=some f->(fN f y fs).map (·.1)=fs.map (·.1)/\(fN f y fs).map (·.2)=(fs.map (·.2)).set k y:=by
 induction fs with
 |nil=>intro k f _ h;cases h
 | cons p fs a=>
  intro k f n h1;obtain⟨n1,n2⟩:=abL.mp n;obtain⟨g,x⟩:=p
  cases k with
  |zero=>cases h1;unfold fN;rw [if_pos rfl];exact ⟨rfl,rfl⟩
  | succ k=>
   have b:f∈fs.map (·.1):=List.mem_of_getElem? h1;unfold fN;rw[if_neg λz:g=f=>n1 (show g∈_ from z.symm ▸ b)];obtain⟨d,c⟩:=a (k:=k) n2 h1;exact⟨by rw[abG,abG,d],by rw[abG,abG,c];rfl⟩
theorem oy{y:V}{f:Str}:∀{fs:List (Str×V)},f∉fs.map (·.1)->fN f y fs=fs++[(f,y)]
 |[],_=>rfl
 | (g,x)::fs,h=>by
  rw[abG,abI,not_or] at h;unfold fN;rw[if_neg λz=>h.1 z.symm,oy h.2];rfl
theorem Rel.obj(R:Rel K F Z H σ ρ A)(hC:ClsF K c C)(e:unO ρ i c=some (a,ps)):∃dx fs B,σ[i]?=some (some (.ref a))/\H a=some (.ins C dx fs)/\fs.map (·.1)=(cg c).take ps.length/\ps.length<=(cg c).length/\Fws K F H (fs.map (·.2)) ps B/\(a::B).Nodup/\(∀b∈a::B,b∈A) /\
  ∀H' fs' d j,(∀b u,b∉a::B->H b=some u->H' b=some u)->H' a=some (.ins C dx fs')->fs'.map (·.1)=(cg c).take d.length->d.length<=(cg c).length->Fws K F H' (fs'.map (·.2)) d j->(a::j).Nodup->(∀b∈j,b∈B∨(F b=none/\Z b=none/\b∉A))->∃A',Rel K F Z H' σ (ρ.set i (some (.ob ⟨a,c,d⟩))) A':=by
 obtain⟨v,G,h1,h2,n,m,g⟩:=R.chg (t6 e)
 cases h2 with
 | ob h2=>
  cases h2 with
  | @mk _ E dx _ fs _ B D f w t s=>
   have:E=C:=by
    have:=f.symm.trans hC.ns;cases this;rfl
   subst this;refine⟨dx,fs,B,h1,D,w,t,s,n,m,λH' fs' d j k y p o l q r=>g H' _ (a::j) k (.ob (.mk y f p o l)) q λb x=>?_⟩;rcases abI.mp x with z|z
   ·exact .inl (z ▸ aab ..)
   ·exact(r b z).imp (aae _) id
theorem gy{l:List α}{x:α}(h:l[k]?=some x)(a:k<n):(l.take n)[k]?=some x:=by rw[List.getElem?_take_of_lt a];exact h
def gX(c i k:Nat):FE:=λρ Q=>match unO ρ i c with
 | some (_,ps)=>(match ps[k]? with
  |some (.fz d)=>Q (.ov (.fz d)) ρ
  |_=>False)
 |none=>False
theorem I9(hC:ClsF K c C)(p:μ[j]?=some i)(b:(cg c)[k]?=some f):EF K μ (wv K (ei j) f) (gX c i k):=⟨by
 intro F Z H s σ ρ A Q P m R h q;unfold gX at h;split at h
 ·rename_i a ps e;split at h
  ·rename_i d l;obtain⟨dx,fs,B,h1,h2,g,t,r,_⟩:=R.obj hC e;obtain⟨x,u,v,g1,g2,_⟩:=r.at_ l;have o:k<ps.length:=(List.getElem?_eq_some_iff.mp l).1;have n:fs.lookup f=some x:=t7 (k:=k) (by rw[g];exact(aaZ ..).nodup (dO c)) (by rw[g];exact gy b o) g1
   cases g2 with
   |fz dn=>exact⟨.ref a,(m j i p).1.trans h1,a,C,dx,fs,x,rfl,h2,hC.cl,hC.na f (List.mem_of_getElem? b),n,q _ _ _ _ _ _ _ h (Same.refl _) R (.fz dn) Fresh.nil⟩
  ·exact h.elim
 ·exact h.elim⟩
theorem t9(c:Nat):(cg c).length<1000:=by
 match c with
 |0=>decide
 |1=>decide
 |_+2=>show (0:Nat)<1000;decide
theorem Rel.setF{s:List FV}{g:FV}{E:List Addr}(R:Rel K F Z H σ ρ A)(hC:ClsF K c C)(G:(cg c)[k]?=some f)(e:unO ρ i c=some (a,ps))(w:Fw K F H y g E)(fr:Fresh F Z A E)(ep:I8 ps k g=some s) :
  ∃dx fs,σ[i]?=some (some (.ref a))/\H a=some (.ins C dx fs)/\fs.length<1000/\∃A',Rel K F Z (upd H a (.ins C dx (fN f y fs))) σ (ρ.set i (some (.ob ⟨a,c,s⟩))) A':=by
 obtain⟨dx,fs,B,h1,h2,D,X,Q,nd,mA,mk⟩:=R.obj hC e;obtain⟨m,t⟩:=abL.mp nd;have L:=Q.length;rw[abD] at L;have O:a∈A:=mA a (aab ..);have r:∀b∈E,b≠a:=λb d z=>(fr.fr b d).2.2 (z ▸ O);have out:∀b u,b≠a->H b=some u->upd H a (.ins C dx (fN f y fs)) b=some u:=λb u d q=>by rw[aj d];exact q
 have T:Fw K F (upd H a (.ins C dx (fN f y fs))) y g E:=w.keep (Same.refl _) λb u d q=>out b u (r b d) q;have W:(fs.map (·.1)).Nodup:=by rw[D];exact(aaZ ..).nodup (dO c)
 refine⟨dx,fs,h1,h2,by have:=t9 c;nofun,?_⟩;unfold I8 at ep;split at ep
 ·rename_i o;have o:k<ps.length:=Nat.le_of_ble_eq_true o;cases ep;obtain⟨x,C0,B',g1,g2,pm,Y⟩:=Q.at_ (List.getElem?_eq_getElem o);obtain⟨V,p2⟩:=Eb (y:=y) (k:=k) W (by rw[D];exact gy G o);have n:∀b∈B',b∈B:=λb d=>pm.mem_iff.mpr (abE.mpr (.inr d));obtain⟨S,I,l⟩:=Y F (upd H a (.ins C dx (fN f y fs))) y g E (Same.refl _) (λb u d q=>out b u (λz=>m (z ▸ n b d)) q) T;obtain⟨_,n2,_⟩:=a8 pm t;refine mk _ _ _ S (λb u d q=>out b u (λz=>d (z ▸ aab ..)) q) af (by rw[V,D,aaP]) (by rw[aaP];exact X) (by rw[p2];exact I) (abL.mpr ⟨λd=>?_,l.nodup_iff.mpr (abP.mpr ⟨fr.nd,n2,λb d b' p z=>?_⟩)⟩) λb d=>?_
  ·rcases abE.mp (l.mem_iff.mp d) with z|z
   ·exact r a z rfl
   ·exact m (n a z)
  ·exact(fr.fr b d).2.2 (mA b (aae _ (n b (z ▸ p))))
  ·rcases abE.mp (l.mem_iff.mp d) with z|z
   ·exact .inr (fr.fr b z)
   ·exact .inl (n b z)
 ·split at ep
  ·rename_i o;have o:k=ps.length:=Nat.eq_of_beq_eq_true o;subst o;cases ep;have J:ps.length<(cg c).length:=(List.getElem?_eq_some_iff.mp G).1
   have v:f∉fs.map (·.1):=λz=>by
    rw[D] at z;obtain⟨j,N⟩:=List.mem_iff_getElem?.mp z
    have M:j<ps.length:=by
     have:=(List.getElem?_eq_some_iff.mp N).1;rw[aah] at this;nofun
    rw[List.getElem?_take_of_lt M] at N;have:=(List.getElem?_inj (by nofun) (dO c)).mp (N.trans G.symm);nofun
   have P:Fws K F (upd H a (.ins C dx (fN f y fs))) (fs.map (·.2)) ps B:=Q.keep (Same.refl _) λb u d q=>out b u (λz=>m (z ▸ d)) q;obtain⟨S,I,l⟩:=P.snoc T;have U:=oy (y:=y) v;have e2:(fN f y fs).map (·.2)=fs.map (·.2)++[y]:=by rw[U,aad];rfl
   refine mk _ _ _ S (λb u d q=>out b u (λz=>d (z ▸ aab ..)) q) af ?_ (by rw[abH];exact J) (by rw[e2];exact I) (abL.mpr ⟨λd=>?_,l.nodup_iff.mpr (abP.mpr ⟨fr.nd,t,λb d b' p z=>?_⟩)⟩) λb d=>?_
   ·rw[U,aad,D,abH,show ps.length+[g].length=ps.length+1 from rfl,List.take_add_one,G];rfl
   ·rcases abE.mp (l.mem_iff.mp d) with z|z
    ·exact r a z rfl
    ·exact m z
   ·exact(fr.fr b d).2.2 (mA b (aae _ (z ▸ p)))
   ·rcases abE.mp (l.mem_iff.mp d) with z|z
    ·exact .inr (fr.fr b z)
    ·exact .inl z
  ·cases ep
def jm(c i k:Nat)(fe:FE):FS:=λE ρ=>fe ρ λr e=>match fzR r e with
 | some (d,b)=>(match unO b i c with
  | some (a,ps)=>(match I8 ps k (.fz d) with
   |some f=>E.nx (b.set i (some (.ob ⟨a,c,f⟩)))
   |none=>False)
  |none=>False)
 |none=>False
def AG(c i k:Nat)(fe:FE):FS:=λE ρ=>fe ρ λr e=>match takeR r e with
 | some (o,d)=>∀b:Addr,(match Lb b o with
  | some g=>(match unO d i c with
   | some (a,ps)=>(match I8 ps k g with
    |some f=>E.nx (d.set i (some (.ob ⟨a,c,f⟩)))
    |none=>False)
   |none=>False)
  |none=>False)
 |none=>False
def qC(c i k:Nat)(fe:FE):FS:=λE ρ=>match unO ρ i c with
 | some (_,e)=>(match e[k]? with
  | some (.fz (.int x))=>fe ρ fun r b=>on1 b r fun d=>(match d with
   | .int y=>(match unO b i c with
    | some (a,ps)=>(match I8 ps k (.fz (.int (x+y))) with
     |some f=>E.nx (b.set i (some (.ob ⟨a,c,f⟩)))
     |none=>False)
    |none=>False)
   |_=>False)
  |_=>False)
 |none=>False
theorem Ec(hC:ClsF K c C)(e:(cg c)[k]?=some f)(s:EF K (List.range n) te fe):SF K n m (KO K (ei i) te f) (jm c i k fe):=⟨by
 intro F Z H σ0 σ ρ A D B R p E h;refine s.h (View.id p.1) R h λr j v F1 H1 M I b o z v1 f1=>?_;split at b
 ·rename_i d g x;obtain⟨G,L,l,R2,dn,_,_⟩:=z.frz v1 f1 x;split at b
  ·rename_i a ps w;split at b
   ·rename_i q u;obtain⟨dx,fs,h1,h2,t,J,y⟩:=R2.setF hC e w (.fz dn) Fresh.nil u;exact⟨.ref a,h1,a,C,dx,fs,rfl,h2,hC.cl,hC.na f (List.mem_of_getElem? e),t,E.nx _ _ _ _ _ (o.trans l) y p b⟩
   ·exact b.elim
  ·exact b.elim
 ·exact b.elim⟩
theorem ye(hC:ClsF K c C)(d:(cg c)[k]?=some f)(t:EF K (List.range n) te fe):SF K n m (KO K (ei i) te f) (AG c i k fe):=⟨by
 intro F Z H σ0 σ ρ A D I R p E h;refine t.h (View.id p.1) R h λr j v F1 H1 O L b l G v1 f1=>?_;split at b
 ·rename_i o e z;obtain⟨J,N,R2,s,f2,_,_⟩:=G.takeR v1 f1 z;have b:=b (adr v);split at b
  ·rename_i g w;split at b
   ·rename_i a ps y;split at b
    ·rename_i q x;obtain⟨dx,fs,h1,h2,u,M,B⟩:=R2.setF hC d y (s.part w) f2 x;exact⟨.ref a,h1,a,C,dx,fs,rfl,h2,hC.cl,hC.na f (List.mem_of_getElem? d),u,E.nx _ _ _ _ _ l B p b⟩
    ·exact b.elim
   ·exact b.elim
  ·exact b.elim
 ·exact b.elim⟩
theorem Rel.fld(R:Rel K F Z H σ ρ A)(hC:ClsF K c C)(l:(cg c)[k]?=some f)(e:unO ρ i c=some (a,ps))(g:ps[k]?=some (.fz d)):∃dx fs x,σ[i]?=some (some (.ref a))/\H a=some (.ins C dx fs)/\fs.lookup f=some x/\Den K F x d:=by
 obtain⟨dx,fs,B,h1,h2,b,n,m,_⟩:=R.obj hC e;obtain⟨x,o,p,g1,g2,_⟩:=m.at_ g;have j:k<ps.length:=(List.getElem?_eq_some_iff.mp g).1
 cases g2 with
 |fz dn=>exact⟨dx,fs,x,h1,h2,t7 (k:=k) (by rw[b];exact(aaZ ..).nodup (dO c)) (by rw[b];exact gy l j) g1,dn⟩
theorem Ed(hC:ClsF K c C)(b:(cg c)[k]?=some f)(w:EF K (List.range n) te fe):SF K n m (mL K (ei i) te Lz f) (qC c i k fe):=⟨by
 intro F Z H σ0 σ ρ A D N R p E h;unfold qC at h;split at h
 ·rename_i j s L;split at h
  ·rename_i x G;obtain⟨dx,fs,z,h1,h2,B,dn⟩:=R.fld hC b L G;refine⟨.ref j,h1,j,C,dx,fs,z,rfl,h2,hC.cl,hC.na f (List.mem_of_getElem? b),B,?_⟩;refine w.h (View.id p.1) R h λr o v F1 H1 Q O u q l v1 f1=>?_;obtain⟨d,e,p2⟩:=bX u;split at p2
   ·rename_i y;refine⟨x,y,dn.int_eq,(l.acc v1 e).int_eq,?_⟩;split at p2
    ·rename_i a ps J;split at p2
     ·rename_i t I;obtain⟨g,fs',g1,g2,g3,P,M⟩:=l.setF (y:=.int (x+y)) hC b J (.fz (.int _)) Fresh.nil I;have:a=j:=by rw[h1] at g1;cases g1;rfl
      subst this;exact⟨g,fs',g2,g3,E.nx _ _ _ _ _ q M p p2⟩
     ·exact p2.elim
    ·exact p2.elim
   ·exact p2.elim
  ·exact h.elim
 ·exact h.elim⟩
end
section
variable {K:Frag}     
theorem oz{l:List α}{x:α}(h:l[k]?=some x):l.set k x=l:=by
 apply List.ext_getElem?;intro j;by_cases a:k=j
 ·subst a;rw[h,List.getElem?_set_self (List.getElem?_eq_some_iff.mp h).1]
 ·rw[List.getElem?_set_ne a]
theorem Rel.fldL{b:Addr}(R:Rel K F Z H σ ρ A)(hC:ClsF K c C)(G:(cg c)[k]?=some f)(e:unO ρ i c=some (a,ps))(w:ps[k]?=some (.fl b ds)) :
  ∃dx fs xs,σ[i]?=some (some (.ref a))/\H a=some (.ins C dx fs)/\fs.lookup f=some (.ref b)/\H b=some (.lst xs)/\Dens K F xs ds/\∀d g,Dens K F d g->∃A',Rel K F Z (upd H b (.lst d)) σ (ρ.set i (some (.ob ⟨a,c,ps.set k (.fl b g)⟩))) A':=by
 obtain⟨dx,fs,B,h1,h2,r,L,J,nd,mA,mk⟩:=R.obj hC e;obtain⟨n,m⟩:=abL.mp nd;obtain⟨x,N,O,g1,g2,pm,M⟩:=J.at_ w;have E:k<ps.length:=(List.getElem?_eq_some_iff.mp w).1
 cases g2 with
 | @fl _ xs _ I dn=>
  have o:b∈B:=pm.mem_iff.mpr (by simp);have p:a≠b:=λz=>n (z ▸ o);obtain⟨_,n2,n3⟩:=a8 pm m;refine⟨dx,fs,xs,h1,h2,t7 (k:=k) (by rw[r];exact(aaZ ..).nodup (dO c)) (by rw[r];exact gy G E) g1,I,dn,λd g s=>?_⟩;obtain⟨D,t,l⟩:=M F (upd H b (.lst d)) (.ref b) (.fl b g) [b] (Same.refl _) (λy u j q=>by rw[aj (show y≠b from λz=>n3 b (by simp) (z ▸ j))];exact q) (.fl af s);rw[oz g1] at t;have v:∀y∈D,y∈B:=λy j=>pm.mem_iff.mpr (l.mem_iff.mp j);exact mk _ fs _ D (λy u j q=>by rw[aj (show y≠b from λz=>j (z ▸ aae _ o))];exact q) (by rw[aj p];exact h2) (by rw[aaP];exact r) (by rw[aaP];exact L) t (abL.mpr ⟨λz=>n (v a z),(l.trans pm.symm).nodup_iff.mpr m⟩) λy j=>.inl (v y j)
def yf(c i k:Nat)(fe:FE):FE:=λρ Q=>match unO ρ i c with
 | some (_,g)=>(match g[k]? with
  | some (.fl b _)=>fe ρ fun r f=>(match fzR r f with
   | some (d,e)=>(match unO e i c with
    | some (a,ps)=>(match ps[k]? with
     |some (.fl j ds)=>j=b/\ds.length<sizeLine/\Q (.ov (.fz .non)) (e.set i (some (.ob ⟨a,c,ps.set k (.fl j (ds++[d]))⟩)))
     |_=>False)
    |none=>False)
   |none=>False)
  |_=>False)
 |none=>False
theorem Ee(hC:ClsF K c C)(z:μ[j]?=some i)(l:(cg c)[k]?=some f)(B:EF K μ te fe):EF K μ (tBM K "list" eB (wv K (ei j) f) (c7 te jc)) (yf c i k fe):=⟨by
 intro F Z H W σ ρ A Q P n R h q;unfold yf at h;split at h
 ·rename_i p x M;split at h
  ·rename_i b S m;obtain⟨dx,fs,xs,h1,h2,E,D,_⟩:=R.fldL hC l M m;refine⟨.ref p,(n j i z).1.trans h1,p,C,dx,fs,.ref b,rfl,h2,hC.cl,hC.na f (List.mem_of_getElem? l),E,.inl ⟨rfl,xs,SqL.of D⟩,?_⟩;refine B.h n R h λr t v F1 H1 A1 Y e w V v1 f1=>?_;split at e
   ·rename_i d s L;obtain⟨X,A2,u,R2,N,_,_⟩:=V.frz v1 f1 L;split at e
    ·rename_i a ps J;split at e
     ·rename_i T ds I;obtain⟨rfl,p2,y⟩:=e;obtain⟨O,fs',g,g1,g2,g3,G,o,mt⟩:=R2.fldL hC l J I;obtain⟨A3,U⟩:=mt (g++[v]) (ds++[d]) (o.snoc N);exact⟨T,g,v,rfl,rfl,G,by rw[o.length];exact p2,q _ _ _ _ _ _ _ y (w.trans u) U (.fz .non) Fresh.nil⟩
     ·exact e.elim
    ·exact e.elim
   ·exact e.elim
  ·exact h.elim
 ·exact h.elim⟩
def eh(_:Str)(c i:Nat)(cc:Ct)(fa:FA):FE:=λρ Q=>match unO ρ i c with
 |some _=>ah cc (aa (ab i) fa) ρ Q
 |none=>False
theorem Ef(hC:ClsF K c C)(g:μ[j]?=some i)(f:(cg c).contains mn=false)(l:AF K μ t fa):EF K μ (pV C mn (spM K cc) [] E0 (ei j) t) (eh mn c i cc fa):=⟨by
 intro F Z H n σ ρ A Q P b R h q;unfold eh at h;split at h
 ·rename_i ap e;obtain⟨a,ps⟩:=ap;obtain⟨dx,fs,B,h1,h2,m,p,o,_⟩:=R.obj hC e;obtain⟨v,d,k⟩:=(tq (E:=E0) (tp (tf g) l)).h b R h q
  have:v=.ref a:=by
   have:=d.symm.trans ((b j i g).1.trans h1);cases this;rfl
  subst this;refine⟨.ref a,d,a,dx,fs,rfl,h2,Ea λz=>?_,k⟩;rw[m] at z;rw[List.contains_eq_mem,decide_eq_false_iff_not] at f;exact f (abg z)
 ·exact h.elim⟩
end
section
variable {K:Frag}     
theorem Rel.call{c:Ct}{C:List Addr}{P:Pk}{Q:VK}{E:XK}(R:Rel K F Z H σ ρ A)(G:Ows K F H vs os C)(f2:Fresh F Z A C)(h:c os P)
  (q:∀o f v i j l B,P o f->Same F i->Rel K i Z j σ ρ A->Ows K i j vs f l->Ow K i j v o B->Fresh i Z A (l++B)->Q v j):spM K c vs H Q E:=by
 obtain⟨r,g,d⟩:=mix A H Z;have I:∀a,a∈A->Z a=none:=λa e=>(R.fr a e).2;have sz:Same Z r:=λa o z=>by rw[d a λy=>by rw[I a y] at z;cases z];exact z
 refine⟨F,r,os,C,P,R.fh,⟨λa o z=>?_,λa xs z=>?_⟩,λa o z=>?_,G,f2.nd,λa e=>⟨(f2.fr a e).1,by rw[d a (f2.fr a e).2.2];exact(f2.fr a e).2.1⟩,h,λo f v i j l B p s fh zh dj D x nd fr=>?_⟩
 ·by_cases y:a∈A
  ·rw[g a y] at z;exact z
  ·rw[d a y] at z;exact R.zh.s a o z
 ·by_cases y:a∈A
  ·rw[g a y] at z;exact R.sl.nt a y xs z
  ·rw[d a y] at z;exact R.zh.n a xs z
 ·rw[d a λy=>by rw[(R.fr a y).1] at z;cases z];exact R.dj a o z
 ·have t:∀a∈A,∃u,r a=some u:=λa e=>by
   obtain⟨u,m⟩:=R.sl.live a e;exact⟨u,by rw[g a e];exact m⟩
  have J:Rel K i Z j σ ρ A:=⟨R.sl.keep s λa u e m=>zh a u (by rw[g a e];exact m),R.nd,λa e=>⟨(by
   cases z:i a with
   |none=>rfl
   | some u=>
    have:=dj a u z;obtain⟨w,k⟩:=t a e;rw[k] at this;exact nomatch this),(R.fr a e).2⟩,fh,⟨sz.trans zh,R.zh.n⟩,λa o z=>sz.free (dj a o z)⟩
  exact q o f v i j l B p s J D x ⟨nd,λb n=>⟨(fr b n).1,sz.free (fr b n).2,λy=>by
   obtain⟨w,k⟩:=t b y;rw[(fr b n).2] at k;cases k⟩⟩
def Ja(c:Nat)(cc:Ct)(fa:FA):FE:=λρ Q=>fa ρ λg d=>match takeL g d with
 | some (os,b)=>∀a:Addr,cc (.ob ⟨a,c,[]⟩::os) λo f=>(match o,f with
  |.fz .non,i::e=>Q (.ov i) (putL g e b)
  |_,_=>False)
 |none=>False
theorem Eg(hC:ClsF K c C)(V:AF K μ t fa):EF K μ (BY C (spM K cc) [] E0 t) (Ja c cc fa):=⟨by
 intro F Z H τ σ ρ A Q P J R h q;refine V.h J R h λrs s vs F1 H1 A1 B1 h1 M R1 v1 f1=>?_;rw[aam];intro x dx f l k;split at h1
 ·rename_i os r e;obtain⟨C1,A2,R2,m,f2,m2,c2⟩:=R1.takeL v1 f1 e;have j:upd H1 dx (.own x) x=none:=by rw[aj (Ne.symm k)];exact f
  have hh:Same H1 (upd (upd H1 dx (.own x)) x (.ins C dx [])):=(bp l).trans (bp j);have R3:=R2.step (F':=F1) (H':=upd (upd H1 dx (.own x)) x (.ins C dx [])) ⟨Same.refl _,hh,R2.fh.trans hh,λa o h n=>by rw[n] at h;cases h⟩;have S:=m.keep (Same.refl F1) λa u _ h=>hh a u h;have W:F1 x=none:=R2.fh.free f;have w:Z x=none:=R2.zh.free f;have nx:x∉A2:=λz=>by obtain⟨u,g⟩:=R2.sl.live x z;rw[f] at g;cases g
  have T:x∉C1:=λz=>by obtain⟨u,g⟩:=m.live x z;rw[f] at g;cases g
  refine R3.call (.cons (.ob (.mk af hC.ns rfl (aan _) .nil)) S) ⟨abL.mpr ⟨T,f2.nd⟩,λb d=>?_⟩ (h1 x) λo O v F4 H4 C4 B p L Y I G i=>?_
  ·rcases abI.mp d with z|z
   ·rw[z];exact⟨W,w,nx⟩
   ·exact f2.fr b z
  ·split at p
   ·rename_i o1 N
    cases G with
    | fz dn=>
     cases I with
     | @cons _ _ _ _ D1 D2 E D=>
      rw[aam] at i;obtain⟨n1,n2,n3⟩:=a8 (aaE (D1++D2)) i.nd;obtain⟨A5,X,U⟩:=Y.putL v1 D ⟨n2,λb d=>i.fr b (abE.mpr (.inr d))⟩;refine⟨dn.non_eq,q _ _ _ _ _ _ _ p (M.trans L) X E ⟨n1,λb d=>?_⟩⟩;have:=i.fr b (abE.mpr (.inl d));exact⟨this.1,this.2.1,λz=>(U b z).elim this.2.2 λy=>n3 b d y⟩
   ·exact p.elim
 ·exact h1.elim⟩
def yg(c i k:Nat):FE:=λρ Q=>match unO ρ i c with
 | some (a,ps)=>(match ps[k]? with
  |some g=>Q (.ov (.fz (iD g))) (ρ.set i (some (.ob ⟨a,c,ps.set k (.fz (iD g))⟩)))
  |none=>False)
 |none=>False
theorem Eh(hC:ClsF K c C)(hj:μ[j]?=some i)(L:(cg c)[k]?=some f):EF K μ (wv K (ei j) f) (yg c i k):=⟨by
 intro F Z H τ σ ρ A Q P V R h q;unfold yg at h;split at h
 ·rename_i a ps e;split at h
  ·rename_i g O;obtain⟨v,B,A',h1,h2,R',t,pm⟩:=R.takeI (t6 e);have hk:k<ps.length:=(List.getElem?_eq_some_iff.mp O).1
   cases h2 with
   | ob h2=>
    cases h2 with
    | @mk _ T dx _ fs _ B N r n hl Y=>
     have:T=C:=by have:=r.symm.trans hC.ns;cases this;rfl
     subst this;obtain⟨p,D⟩:=abL.mp t.nd;obtain⟨x,C1,B1,g1,g2,l,g4⟩:=Y.at_ O;have W:∀b∈C1,b∈a::B:=λb m=>aae _ (l.mem_iff.mpr (abE.mpr (.inl m)));have J:∀b∈B1,b∈B:=λb m=>l.mem_iff.mpr (abE.mpr (.inr m));obtain⟨n1,n2,n3⟩:=a8 l D;obtain⟨G,w,R2,X,U⟩:=R'.grow g2.live λb m=>t.fr b (W b m);have dn:=g2.freeze w X;obtain⟨B2,I,d⟩:=g4 G H x (.fz (iD g)) [] w (λ_ _ _ h=>h) (.fz dn);rw[oz g1] at I
     have E:∀b∈a::B2,G b=none/\Z b=none/\b∉A':=λb m=>by
      have s:b∈a::B:=by
       rcases abI.mp m with z|z
       ·exact z ▸ aab ..
       ·exact aae _ (J b (d.mem_iff.mp z))
      refine⟨?_,(t.fr b s).2⟩
      cases z:G b with
      |none=>rfl
      | some u=>
       have M:=U b u z (t.fr b s).1;rcases abI.mp m with y|y
       ·exact absurd (l.mem_iff.mpr (abE.mpr (.inl (y ▸ M)))) p
       ·exact absurd (d.mem_iff.mp y) (n3 b M)
     obtain⟨A3,S,_⟩:=R2.putI (o:=.ob ⟨a,c,ps.set k (.fz (iD g))⟩) (eY (t6 e)) h1 (.ob (.mk N r (by rw[aaP];exact n) (by rw[aaP];exact hl) I)) ⟨abL.mpr ⟨λz=>p (J a (d.mem_iff.mp z)),d.nodup_iff.mpr n2⟩,E⟩;rw[abx] at S;exact⟨.ref a,(V j i hj).1.trans h1,a,T,dx,fs,x,rfl,N,hC.cl,hC.na f (List.mem_of_getElem? L),t7 (k:=k) (by rw[n];exact(aaZ ..).nodup (dO c)) (by rw[n];exact gy L hk) g1,q _ _ _ _ _ _ _ h w S (.fz dn) Fresh.nil⟩
  ·exact h.elim
 ·exact h.elim⟩
end
section
variable {K:Frag}     
theorem Obs.length{xs:List V}{os:List Oo}{B:List Addr}(h:Obs K F H xs os B):xs.length=os.length:=by
 induction h with
 |nil=>rfl
 |cons _ _ a=>exact congrArg (·+1) a
theorem Ob.at_{o:Oo}(h:Ob K F H v o B):v=.ref o.a:=by cases h;rfl
def Jb(fe:FE):FE:=λρ Q=>fe ρ λr a=>match r with
 |.ov (.ob o)=>Q (.ov (.obs [o])) a
 |_=>False
theorem Ei(m:EF K μ te fe):EF K μ (KQ (c7 te jc)) (Jb fe):=⟨by
 intro F Z H s σ ρ A Q P j R h q;refine m.h j R h λr i v F1 H1 t g f k e v1 f1=>⟨by rw[sizeLine_eq];exact(by decide:(1:Nat)<=16777216),λp c=>?_⟩;split at f
 ·rename_i o
  cases v1 with
  | ob v1=>
   have l:F1 p=none:=e.fh.free c;have R2:=e.step (Pure.new (o:=.lst [v]) e.fh c);have w:Obs K F1 (upd H1 p (.lst [v])) [v] [o] (g++[]):=.cons (v1.keep (Same.refl _) λa u _ h=>bp c a u h) .nil;rw[aam] at w;have np:p∉g:=λz=>by obtain⟨u,d⟩:=v1.live p z;rw[c] at d;cases d
   refine q _ _ _ _ _ _ _ f k R2 (.obs af w) ⟨abL.mpr ⟨np,f1.nd⟩,λb n=>?_⟩;rcases abI.mp n with z|z
   ·rw[z];exact⟨l,e.zh.free c,λy=>by obtain⟨u,d⟩:=e.sl.live p y;rw[c] at d;cases d⟩
   ·exact f1.fr b z
 ·exact f.elim⟩
def yh(i:Nat):FE:=λρ Q=>match ρ[i]? with
 |some (some (.obs os))=>Q (.ov (.fz (.int os.length))) ρ
 |some (some (.obh os _))=>Q (.ov (.fz (.int (os.length+1:Nat)))) ρ
 |_=>False
theorem Ej(g:μ[j]?=some i):EF K μ (tCB (F8 K) (c7 (ei j) jc)) (yh i):=⟨by
 intro F Z H k σ ρ A Q P f R h q;unfold yh at h;split at h
 ·rename_i os e;obtain⟨v,B,h1,h2,_⟩:=R.chg e
  cases h2 with
  | @obs a xs _ _ d c=>
   refine⟨.ref a,(f j i g).1.trans h1,.inr (.inl ⟨a,_,rfl,.inl (SqL.of d),?_⟩)⟩;rw[abm,c.length];exact q _ _ _ _ _ _ _ h (Same.refl _) R (.fz (.int _)) Fresh.nil
 ·rename_i os b e;obtain⟨v,B,h1,h2,_⟩:=R.chg e
  cases h2 with
  | @obh a _ xs _ _ d c=>
   refine⟨.ref a,(f j i g).1.trans h1,.inr (.inl ⟨a,_,rfl,.inl (SqL.of d),?_⟩)⟩;rw[abm,abM,c.length];exact q _ _ _ _ _ _ _ h (Same.refl _) R (.fz (.int _)) Fresh.nil
 ·exact h.elim⟩
def oA(i:Nat):FE:=λρ Q=>match ρ[i]? with
 |some (some (.obs (o::os)))=>Q (.ov (.ob o)) (ρ.set i (some (.obh os o.a)))
 |_=>False
theorem yi(t:μ[j]?=some i):EF K μ (tOp (K6 K) (ei j) (tUn (rU λi=>.int (-i)) (tC (.int 1)))) (oA i):=⟨by
 intro F Z H D σ ρ A Q P p R h q;unfold oA at h;split at h
 ·rename_i o os e;obtain⟨v,B,A',h1,h2,w,k,pm⟩:=R.takeI e
  cases h2 with
  | @obs a xs _ _ l s=>
   cases s with
   | @cons x _ xs _ C B2 m u=>
    have ex:=m.at_;subst ex;obtain⟨d,g⟩:=abL.mp k.nd;obtain⟨n1,n2,n3⟩:=a8 (aaE (C++B2)) g
    obtain⟨E,n,r⟩:=w.putI (o:=.obh os o.a) (eY e) h1 (.obh l u) ⟨abL.mpr ⟨λz=>d (abE.mpr (.inr z)),n2⟩,λb f=>k.fr b (by
     rcases abI.mp f with z|z
     ·exact z ▸ aab ..
     ·exact aae _ (abE.mpr (.inr z)))⟩
    rw[abx] at n;refine⟨.ref a,(p j i t).1.trans h1,1,rfl,.inl (.inl ⟨a,_,-1,.ref o.a,rfl,rfl,SqL.of l,(by rw[List.reverse_cons];exact jV _ _),q _ _ _ _ _ _ _ h (Same.refl _) n (.ob m) ⟨n1,λb f=>?_⟩⟩)⟩;have c:=k.fr b (aae _ (abE.mpr (.inl f)));refine⟨c.1,c.2.1,λz=>?_⟩;rcases abE.mp (r.mem_iff.mp z) with y|y
    ·rcases abI.mp y with y|y
     ·exact d (y ▸ abE.mpr (.inl f))
     ·exact n3 b f y
    ·exact c.2.2 y
 ·exact h.elim⟩
def Ek(i:Nat):FE:=λρ Q=>match ρ[i]? with
 |some (some (.obh os _))=>Q (.ov (.fz .non)) (ρ.set i (some (.obs os)))
 |_=>False
theorem El :SF K n m (wg (KU K "list" LD (ei i))) (bN (Ek i)):=⟨by
 intro F Z H σ0 σ ρ A D j R p E h;unfold bN Ek at h;split at h
 ·rename_i os b e;obtain⟨v,B,h1,h2,nd,mA,mk⟩:=R.chg e
  cases h2 with
  | @obh a _ xs _ B d f=>
   obtain⟨k,g⟩:=mk (upd H a (.lst xs.reverse)) (.obs os) (a::B) (λy u c q=>by rw[aj (show y≠a from λz=>c (z ▸ aab ..))];exact q) (.obs af (f.keep (Same.refl _) λy u c q=>by rw[aj (show y≠a from λz=>(abL.mp nd).1 (z ▸ c))];exact q)) nd λy c=>.inl c;refine⟨.ref a,h1,.inl ⟨rfl,_,SqL.of d⟩,a,_,.ref b,rfl,rfl,d,?_,?_⟩
   ·rw[abm,abM,List.reverse_cons,List.getElem?_append_right (by rw[abm];nofun)];simp
   ·have:((V.ref b::xs).reverse).dropLast=xs.reverse:=by rw[List.reverse_cons,List.dropLast_concat]
    rw[this];exact E.nx _ _ _ _ _ (Same.refl _) g p h
 ·exact h.elim⟩
def yj(i:Nat)(fe:FE):FE:=λρ Q=>(match ρ[i]? with
 | some (some (.obs _))=>fe ρ λr a=>(match r,a[i]? with
  |.ov (.ob o),some (some (.obs os))=>os.length<sizeLine/\Q (.ov (.fz .non)) (a.set i (some (.obs (o::os))))
  |_,_=>False)
 |_=>False)
theorem Em(x:μ[j]?=some i)(C:EF K μ te fe):EF K μ (tBM K "list" eB (ei j) (c7 te jc)) (yj i fe):=⟨by
 intro F Z H M σ ρ A Q P k R h q;unfold yj at h;split at h
 ·rename_i t I;obtain⟨v0,S,h1,h2,_⟩:=R.chg I
  cases h2 with
  | @obs a p _ _ g w=>
   refine⟨.ref a,(k j i x).1.trans h1,.inl ⟨rfl,_,SqL.of g⟩,?_⟩;refine C.h k R h λr n v F1 H1 U m d s L v1 f1=>?_;split at d
   ·rename_i o os G;obtain⟨O,B,g1,g2,nd,mA,mk⟩:=L.chg G;rw[h1] at g1;cases g1
    cases v1 with
    | ob v1=>
     cases g2 with
     | @obs _ xs _ B E l=>
      have na:∀b∈m,b≠a:=λb D z=>(f1.fr b D).2.2 (mA b (z ▸ aab ..));have f:∀(y:Addr) (u:HO),y≠a->H1 y=some u->upd H1 a (.lst (v::xs).reverse) y=some u:=λy u c q=>by rw[aj c];exact q
      obtain⟨T,J⟩:=mk (upd H1 a (.lst (v::xs).reverse)) (.obs (o::os)) (a::(m++B)) (λy u c q=>f y u (λz=>c (z ▸ aab ..)) q) (.obs af (.cons (v1.keep (Same.refl _) λy u c q=>f y u (na y c) q) (l.keep (Same.refl _) λy u c q=>f y u (λz=>(abL.mp nd).1 (z ▸ c)) q)))
       (abL.mpr ⟨λz=>(abE.mp z).elim (λy=>na a y rfl) (abL.mp nd).1,abP.mpr ⟨f1.nd,(abL.mp nd).2,λy c N e z=>(f1.fr y c).2.2 (mA y (aae _ (z ▸ e)))⟩⟩)
       (λy c=>by
        rcases abI.mp c with z|z
        ·exact .inl (z ▸ aab ..)
        ·exact(abE.mp z).elim (λz=>.inr (f1.fr y z)) λz=>.inl (aae _ z))
      refine⟨a,_,v,rfl,rfl,E,by rw[abm,l.length];exact d.1,?_⟩;rw[← List.reverse_cons];exact q _ _ _ _ _ _ _ d.2 s J (.fz .non) Fresh.nil
   ·exact d.elim
 ·exact h.elim⟩
def bk(i ix:Nat)(ρ:FSt)(k:FSt->Prop):Prop:=match ρ[i]? with
 | some (some (.obh os b))=>(match ρ[ix]? with
  |some (some (.ob o))=>o.a=b/\k ((ρ.set ix none).set i (some (.obs (o::os))))
  |_=>False)
 |_=>k ρ
theorem Rel.bk{k:FSt->Prop}(R:Rel K F Z H σ ρ A)(h:L2.bk i ix ρ k):∃c A',Rel K F Z H σ c A'/\k c:=by
 unfold L2.bk at h;split at h
 ·rename_i os b e;split at h
  ·rename_i o l;obtain⟨rfl,h⟩:=h;obtain⟨v,B,A',h1,h2,s,d,pm⟩:=R.takeI l;have j:ix≠i:=λz=>by rw[z,e] at l;cases l
   have p:(ρ.set ix none)[i]?=some (some (.obh os o.a)):=by rw[List.getElem?_set_ne j];exact e
   obtain⟨w,B2,g1,g2,nd,mA,mk⟩:=s.chg p
   cases h2 with
   | ob h2=>
    cases g2 with
    | @obh a _ xs _ B2 n m=>
     have ex:=h2.at_;subst ex;have na:a∉B:=λz=>(d.fr a z).2.2 (mA a (aab ..))
     obtain⟨t,r⟩:=mk H (.obs (o::os)) (a::(B++B2)) (λ_ _ _ q=>q) (.obs n (.cons h2 m)) (abL.mpr ⟨λz=>(abE.mp z).elim na (abL.mp nd).1,abP.mpr ⟨d.nd,(abL.mp nd).2,λy g u f z=>(d.fr y g).2.2 (mA y (aae _ (z ▸ f)))⟩⟩)
      (λy g=>by
       rcases abI.mp g with z|z
       ·exact .inl (z ▸ aab ..)
       ·exact(abE.mp z).elim (λz=>.inr (d.fr y z)) λz=>.inl (aae _ z))
     exact⟨_,t,r,h⟩
  ·exact h.elim
 ·exact⟨ρ,A,R,h⟩
def ua(i ix:Nat)(f:FS):FS:=λE ρ=>bk i ix ρ λa=>f E a
theorem yk{t:TS}{f:FS}(h:SF K n m t f):SF K n m t (ua i ix f):=⟨λR p E q=>by
 obtain⟨a,A',c,b⟩:=R.bk q;exact h.h c p E b⟩
def Jc(i ix:Nat)(f:FS):FS:=λE ρ=>f { E with nx:=λρ=>bk i ix ρ E.nx,ct:=λρ=>bk i ix ρ E.ct } ρ
theorem En{t:TS}{f:FS}(h:SF K n m t f):SF K n m t (Jc i ix f):=⟨fun {F Z H σ0 σ ρ A D g} R p E q=>h.h (fD:={ g with nx:=λρ=>bk i ix ρ g.nx,ct:=λρ=>bk i ix ρ g.ct }) R p ⟨λF' H' a c A' s j e h'=>by
  obtain⟨b,k,R2,d⟩:=j.bk h';exact E.nx _ _ _ _ _ s R2 e d,E.rt,E.bk,λF' H' a c A' s j e h'=>by
  obtain⟨b,k,R2,d⟩:=j.bk h';exact E.ct _ _ _ _ _ s R2 e d⟩ q⟩
end
section
variable {K:Frag}     
def lP(fa:FA):FE:=λρ Q=>fa ρ λc b=>match takeL c b with
 | some (os,a)=>∀as:Nat->Addr,(match t5 as 0 os with
  |some ps=>ps.length<=sizeLine/\Q (.ov (.ot ps)) a
  |none=>False)
 |none=>False
theorem Eo(x:AF K μ t fa):EF K μ (KP t) (lP fa):=⟨by
 intro F Z H D σ ρ A Q P n R h q;refine x.h n R h λE m vs F1 H1 M J h1 r B v1 f1=>?_;split at h1
 ·rename_i os l e;obtain⟨C,L,R2,f,f2,G,I⟩:=B.takeL v1 f1 e;have h2:=h1 λj=>adr (vs.getD j .non);split at h2
  ·rename_i ps ep;have w:=f.parts (i:=0) (λj v s=>by rw[Nat.zero_add,List.getD_eq_getElem?_getD,s];rfl) ep;refine⟨by rw[w.length];exact h2.1,λp c=>?_⟩;have y:=R2.step (Pure.frz (o:=.tup vs) R2.fh c);have np:p∉C:=λz=>by obtain⟨u,g⟩:=f.live p z;rw[c] at g;cases g
   have k:F1 p=none:=R2.fh.free c;refine q _ _ _ _ _ _ _ h2.2 (r.trans (bp k)) y (.ot af (w.keep (bp k) λa u _ h=>bp c a u h)) ⟨f2.nd,λb d=>⟨?_,(f2.fr b d).2⟩⟩;rw[aj (show b≠p from λz=>np (z ▸ d))];exact(f2.fr b d).1
  ·exact h2.elim
 ·exact h1.elim⟩
theorem oB{l:List α}{x:α}(h:l[k]?=some x):atI l (k:Int)=some x:=by
 have:=(List.getElem?_eq_some_iff.mp h).1;unfold atI ixN;rw[if_pos (Int.natCast_nonneg k),if_pos (by nofun)];exact h
def Jd(c k:Nat)(fe:FE):FE:=λρ Q=>fe ρ λr a=>match r with
 | .ov (.ob ⟨_,c',ps⟩)=>(match Nat.beq c' c with
  | true=>(match ps[k]? with
   |some g=>Q (.ov (.fz (iD g))) a
   |none=>False)
  |false=>False)
 |_=>False
theorem Ep(hC:ClsF K c C)(m:(cg c)[k]?=some f)(z:EF K μ te fe):EF K μ (wv K te f) (Jd c k fe):=⟨by
 intro F Z H J σ ρ A Q P s R h q;refine z.h s R h λr p v F1 H1 T S d t I v1 f1=>?_;split at d
 ·rename_i a c' ps;split at d
  ·rename_i G;obtain rfl:c'=c:=Nat.eq_of_beq_eq_true G;split at d
   ·rename_i g n
    cases v1 with
    | ob v1=>
     cases v1 with
     | @mk _ o dx _ fs _ B E j e L w=>
      have:o=C:=by have:=j.symm.trans hC.ns;cases this;rfl
      subst this;have y:k<ps.length:=(List.getElem?_eq_some_iff.mp n).1;obtain⟨x,N,O,g1,g2,i,_⟩:=w.at_ n;obtain⟨M,l,R2,u,_⟩:=I.grow g2.live λb D=>f1.fr b (aae _ (i.mem_iff.mpr (abE.mpr (.inl D))));exact⟨a,o,dx,fs,x,rfl,E,hC.cl,hC.na f (List.mem_of_getElem? m),t7 (k:=k) (by rw[e];exact(aaZ ..).nodup (dO c')) (by rw[e];exact gy m y) g1,q _ _ _ _ _ _ _ d (t.trans l) R2 (.fz (g2.freeze l u)) Fresh.nil⟩
   ·exact d.elim
  ·exact d.elim
 ·exact d.elim⟩
end
section
variable  {o value:Expr}   {pos' tpos apos:Pos} {ta:TE}    {ps:List Str} {sp:Sp}
theorem Je(K:Frag)(a:BE X e ta)(b:attributeBase e f X.env (eval e X.env)=eval e X.env)(c:X.K=K):BE X (.Attribute e f pos) (wv K ta f):=by subst c;exact⟨GM a.h b⟩
theorem Jf(K:Frag)(b:BE X o ta)(a:BE X value tv)(hs:swapsWith value (some (.Attribute o f pos')) pos.line X.env=pure false)(c:X.K=K):BS X (.Assign [.Attribute o f pos'] value pos) (KO K ta tv f):=by subst c;exact⟨GN b.h a.h hs⟩
theorem Jg(K:Frag)(b:BE X o ta)(a:BE X value tv)(c:X.K=K):BS X (.AugAssign (.Attribute o f tpos) .Add value pos) (mL K ta tv Lz f):=by subst c;exact⟨rN b.h a.h GO⟩
structure OwnM(P:Program)(w:World)(K:Frag)(mg:Str->Option Value)(base:Heap)(C:Addr)(x:Str)(k:Nat)(ps:List Str)(sp:Sp):Prop where
 ex:∃(f:Addr) (fd:FuncData),FnOk P w K mg base CX0 k f fd ps sp/\Meth K C x f/\Binds K fd ps []
theorem Jh{m:Str}(O:OwnM X.prog X.w X.K X.mg X.base C m k ps sp)(c:Cls X.K C)(hr:Room k X.A)(g:BE X o ta)(j:BA X (e::es) t)(b:(e::es).all bg=true)
  (a:∃pl:Sem Bool,eval (.Call (.Attribute o m apos) (e::es) [] pos) X.env=(do
   let ov ← eval o X.env
   standAt apos.atName
   let (f,first) ← holding [ov] (getMethod ov m pl)
   callWith pos f first (backTo pos (starEach (e::es) X.env)) (backToKw pos (keywordEach [] X.env)))):BE X (.Call (.Attribute o m apos) (e::es) [] pos) (pV C m sp [] E0 ta t):=by
 obtain⟨f,fd,F,d,i⟩:=O.ex;obtain⟨pl,a⟩:=a;have h:=b;rw[aaQ,abR] at h;exact⟨B6 (pl:=pl) g.h c d F hr i .nil wM j.h (bc h.1) (c8 h.2) a⟩
theorem Er{m:Str}(O:OwnM X.prog X.w X.K X.mg X.base C m k ps sp)(c:Cls X.K C)(hr:Room k X.A)(d:BE X o ta)
  (a:∃pl:Sem Bool,eval (.Call (.Attribute o m apos) [] [] pos) X.env=(do
   let ov ← eval o X.env
   standAt apos.atName
   let (f,first) ← holding [ov] (getMethod ov m pl)
   callWith pos f first (backTo pos (starEach [] X.env)) (backToKw pos (keywordEach [] X.env)))):BE X (.Call (.Attribute o m apos) [] [] pos) (pV C m sp [] E0 ta jc):=by
 obtain⟨f,fd,F,b,e⟩:=O.ex;obtain⟨pl,a⟩:=a;exact⟨ww (pl:=pl) d.h c b F hr e .nil wM a⟩
structure OwnI(P:Program)(w:World)(K:Frag)(mg:Str->Option Value)(base:Heap)(x:Str)(C:Addr)(k:Nat)(ps:List Str)(sp:Sp):Prop where
 ex:∃(f:Addr) (fd:FuncData),FnOk P w K mg base CX0 k f fd ps sp/\Mk K C f/\mg x=some (.ref C)/\Binds K fd ps []
theorem Mq(O:OwnI X.prog X.w X.K X.mg X.base x C k ps sp)(hr:Room (k+1) X.A)(j:BA X (e::es) t)(g:X.env.kindOf x=some .globalImplicit)(c:(e::es).all bg=true)(a:(x==("__debug__" : Str))=false):BE X (.Call (.Name x p) (e::es) [] pos) (BY C sp [] E0 t):=by
 obtain⟨f,fd,F,d,b,i⟩:=O.ex;have h:=c;rw[aaQ,abR] at h;exact⟨B7 d F hr g b i .nil wM j.h a (bc h.1) (c8 h.2)⟩
theorem Ji{t:TE}(K:Frag)(h:BE X (.Attribute o f pos) t)(a:X.K=K):BT X (.Attribute o f pos) (LV K t):=by subst a;exact⟨nH h.h (λ_=>rfl)⟩
theorem Jj(K:Frag)(h:X.K=K):BMt X "list.pop" LD:=⟨GZ⟩
theorem yl:BE X (.Dict [] [] pos) rZ:=⟨wF⟩
theorem Es(c:X.A.units+64<cLine)(a:BE X o td)(b:BE X e ty)(m:M1 X o "get" apos e pos):BE X (.Call (.Attribute o "get" apos) [e] [] pos) (r8 td ty):=⟨wI (by nofun) a.h b.h m⟩
end
theorem ub:typeLookup (.type "list") "keys" = pure none:=am_miss_of_fast (by decide +kernel)
section
variable   {A:Around}  
theorem Et{xs:Array Value}(hx:s.heap.get? a=some o)(l:o.cls=.type "list")(f:o.data=.seq xs k)(hd:o.dict=none)(p:A.handled=none)
  (h:∀h' tk,(∀b u,s.heap.get? b=some u->h'.get? b=some u)->Q none { s with heap:=h',toks:=tk }):wpAny (model prog w) A (getAttr? (.ref a) "keys") Q E s:=by
 obtain⟨c,dct,q,sl⟩:=o;simp only at l f hd;subst l f hd;obtain⟨n,g,d,tk,os⟩:=s;have m:∀i,(⟨n,g,d,i,os⟩:Shared).TypeIs (.ref a) "list" := λ_=>⟨_,hx,rfl⟩;have f1:=sub_AttributeError;have y:=F.slot_list_getattribute.lookup;have x:=F.slot_list_getattribute.bind (.ref a);have v:=am_list_getattr_none;unfold getAttr? getAttrBy? getAttrBy
 repeat (any_goals (first|assumption|exact m _|((with_reducible show wpAny _ _ (call (Value.builtin "list.__getattribute__") _ _) _ _ _);refine call_meets F.slot_list_getattribute (m _) am_entry_list_getattribute (F.args_list_getattribute_2 _ _) (meets_getattribute_miss_list a xs k sl "keys" _ ub (by decide +kernel) (by decide +kernel)) ⟨hx,p,λh' i e j=>?_⟩)|wp_step))
 obtain⟨t',r,t⟩:=j.there;show wpAny _ _ (getattributeRaised _ _ _ _ _ _ _) _ _ _;unfold getattributeRaised
 repeat (any_goals (first|assumption|wp_step))
 exact h _ _ j.keeps
theorem oC:entryFor table "dict.update.loop" = some Builtin.«dict.update.loop»:=entryFor_of_tree (by kernel_rfl)
theorem ia:plainId "dict.update.loop" = true:=by decide +kernel
variable  [DecidableEq K] {knd:KeyKind prog w K}
def ym(kv:Nat->K×Value)(i:Nat):List (K×Value):=((List.range i).map kv).foldl (λm p=>stored m p.1 p.2) []
theorem iN(kv:Nat->K×Value)(i:Nat):ym kv (i+1)=stored (ym kv i) (kv i).1 (kv i).2:=by
 unfold ym;rw[aba,aad,abf];rfl
theorem qD{t:Addr}{k v:Value}{m:Nat}{Q:List Value->Shared->Prop}(h1:s.heap.get? t=some o)(h2:o.cls=.type "tuple")(a:o.data=.seq #[k,v] m)(h:Q [k,v] s):wpAny (model prog w) A (Builtin.Dict.pairItems (.ref t)) Q E s:=by
 obtain⟨c,dct,e,sl⟩:=o;simp only at h2 a;subst h2 a;obtain⟨b,g,d,tk,os⟩:=s;have f:(⟨b,g,d,tk,os⟩:Shared).TypeIs (.ref t) "tuple" := ⟨_,h1,rfl⟩;unfold Builtin.Dict.pairItems
 repeat (any_goals (first|assumption|wp_step))
theorem oE(kv:Nat->K×Value):∀i,(ym kv i).length<=i
 |0=>aac _
 |i+1=>by rw[iN];exact aas (stored_length_le ..) (Nat.succ_le_succ (oE kv i))
theorem uc{R:Result->Shared->Prop}{I:Addr}{fp c:List Addr}{G:Array GenState->Array GenState->Prop}{P:Nat->Value->Prop}{St:Nat->Shared->Prop}(W:WalksS prog w A.in1 I fp c G n P St)(d:Addr)(D:d∉fp)
  (kv:Nat->K×Value) (hn:n<=sizeLine):∀(k i:Nat) (s:Shared),n - i=k->i<=n->St i s ->
   (∀i v,P i v->∃t o key m,v=.ref t/\s.heap.get? t=some o/\o.cls=.type "tuple" /\ o.data=.seq #[key,(kv i).2] m/\knd.is (kv i).1 key=true/\t∉d::c)->s.heap.DictOf knd d (ym kv i) ->
   (∀s',Moved (d::c) G s s'->s'.heap.DictOf knd d (ym kv n)->R (.ok (.ret .none)) s') ->
   codeAny (model prog w) A (.builtin "dict.update.loop" ⟨[.ref d,.ref I,rawInt i,.none],[]⟩) R s:=by
 have F:d∉c:=λh=>D (W.sub _ h);have a:∀b∈c,b∈d::c:=λb l=>aae _ l;intro k
 induction k with
 | zero=>
  intro i s V hi f M O Q;obtain rfl:i=n:=by nofun
  refine codeAny_builtin oC ?_;rw[aaH ia _];show wpAny _ A.in1 (pyNext (.ref I) >>= _) _ _ s;refine aaa (W.done s _ _ f λs' B=>?_);show wpAny _ A.in1 (Builtin.Dict.addKeywords d [] >>= λ_=>ret Value.none) _ _ s';obtain⟨o,es,ep,L,r⟩:=O;exact aaa (aaf (aaf (Q s' (B.mono a) ⟨o,es,ep,B.heap d o F L,r⟩)))
 | succ k U=>
  intro i s V hi f M O Q;have C:i<n:=by nofun
  refine codeAny_builtin oC ?_;rw[aaH ia _];show wpAny _ A.in1 (pyNext (.ref I) >>= _) _ _ s;refine aaa (W.item i s _ _ C f λv s' Y x B=>?_);obtain⟨t,o,key,m,rfl,h1,h2,h3,h4,Z⟩:=M i v Y;have keep:∀b u,b∉c->s.heap.get? b=some u->s'.heap.get? b=some u:=λb u l q=>B.heap b u l q
  have N:s'.heap.DictOf knd d (ym kv i):=by
   obtain⟨o,es,ep,L,r⟩:=O;exact⟨o,es,ep,keep d o F L,r⟩
  show wpAny _ A.in1 (holding [Value.ref t] _ >>= _) _ _ s';refine aaa (aaM ?_);refine aaa (wpAny_tryCatch ?_);refine qD (keep t o (λz=>Z (a t z)) h1) h2 h3 ?_;show wpAny _ A.in1 (holding [key,(kv i).2] (dictSet d key (kv i).2)) _ _ s';refine aaM (wpAny_dictSet_pairs h4 N (λh' E g=>?_) (aas (oE kv i) (by nofun)));rw[← iN] at E;refine aaf ⟨plainId_quiet ia _,U (i+1) _ (by nofun) C (W.frame _ s' _ _ x (aaG _) λb l o e=>?_) (λj v X=>?_) E λJ y H=>?_⟩
  ·rw[g.2 b (λh:b=d=>D (by rw[← h];exact l))];exact e
  ·obtain⟨t',o',p,T,e1,e2,e3,e4,e5,S⟩:=M j v X;exact⟨t',o',p,T,e1,(g.2 t' λz=>S (z ▸ aab ..)).trans (keep t' o' (λz=>S (a t' z)) e2),e3,e4,e5,S⟩
  ·refine Q J (Moved.trans W.gtrans ((B.mono a).then_heap (aaG _) λb o l e=>?_) y) H;rw[g.2 b (λh:b=d=>l (by rw[h];exact aab))];exact e
theorem lQ{l:Addr}{ol:Obj}{items:Array Value}{nl:Nat}{Q:Value->Shared->Prop}(G:s.heap.get? l=some ol)(n:ol.cls=.type "list")(c:ol.data=.seq items nl)(C:ol.dict=none)(hh:A.handled=none)(kv:Nat->K×Value)
  (N:∀(i:Nat) v,items[i]?=some v->∃t o key m,v=.ref t/\s.heap.get? t=some o/\o.cls=.type "tuple" /\ o.data=.seq #[key,(kv i).2] m/\knd.is (kv i).1 key=true) (M:items.size<=sizeLine)
  (h:∀h' tk,h'.DictOf knd s.heap.objs.size (ym kv items.size)->(∀b o,s.heap.get? b=some o->h'.get? b=some o)->Q (.ref s.heap.objs.size) { s with heap:=h',toks:=tk }) :
  wpAny (model prog w) A (call (.type "dict") [.ref l]) Q E s:=by
 refine callType_codes (Q₁:=λobj d=>obj=.ref s.heap.objs.size/\d={ s with heap:=s.heap.push { cls:=.type "dict", data:=.dict #[] } }) F.kt_called_dict (F.kt_typeCall_dict_1 _) F.entry_dict_init (kt_code_dict_new _ ⟨rfl,rfl⟩) ?_;rintro obj d ⟨rfl,rfl⟩;have a:(s.heap.push { cls:=.type "dict", data:=.dict #[] }).DictOf knd s.heap.objs.size []:=Heap.DictOf.new s.heap;have g:(s.heap.push { cls:=.type "dict", data:=.dict #[] }).get? l=some ol:=Heap.get?_push_of_some _ G;refine⟨a.typeIs,F.args_dict_init_2 _ _,?_⟩;unfold Builtin.«dict.__init__»;refine aaa ?_;unfold Builtin.Dict.selfAndRest;refine aaa (wpAny_notOrdered_dict a.typeIs ?_);show wpAny _ _ (pure (s.heap.objs.size,[Value.ref l])) _ _ _;refine aaf ?_;show wpAny _ _ (Builtin.Dict.updateFrom "dict.__init__" s.heap.objs.size (.ref l) [] .none) _ _ _;unfold Builtin.Dict.updateFrom;refine aaa (wpAny_typeOf (T := "list") ⟨ol,g,n⟩ ?_);rw[if_pos (by decide)];refine aaa (Et g n c C (by simp[hh]) λh1 J y=>?_);rw[if_pos (show (none:Option Value).isNone=true from rfl)];refine aaa (abB ?_);have f:h1.get? l=some ol:=y l ol g;refine aaa (wpAny_pyIter_list (items:=items) ⟨ol,f,n,nl,c⟩ ?_)
 have j:h1.DictOf knd s.heap.objs.size []:=by
  obtain⟨o,es,ep,z,r⟩:=a;exact⟨o,es,ep,y _ _ z,r⟩
 have e:s.heap.objs.size<h1.objs.size:=by
  obtain⟨o,es,ep,z,r⟩:=j;exact aag z
 have B:l<s.heap.objs.size:=aag G;have up:∀b u,s.heap.get? b=some u->h1.get? b=some u:=λb u q=>y b u (Heap.get?_push_of_some _ q);refine aaf ⟨plainId_quiet ia _,uc (knd:=knd) (A:=A.in1) ((Walks.list (by simp[hh]) _ l (aak (aag f)) items).toS) s.heap.objs.size ?_ kv M (items.size - 0) 0 _ rfl (aan _) ?_ ?_ ?_ ?_⟩
 ·simp only[List.mem_cons,List.not_mem_nil,or_false,not_or];exact⟨aak e,Nat.ne_of_gt B⟩
 ·exact⟨⟨_,Heap.get?_push_size _ rfl,rfl,rfl⟩,⟨ol,Heap.get?_push_of_some _ f,n,nl,c⟩⟩
 ·intro i v L;obtain⟨t,o,key,m,W,I,V,U,S⟩:=N i v L;refine⟨t,o,key,m,W,Heap.get?_push_of_some _ (up t o I),V,U,S,?_⟩;simp only[List.mem_cons,List.not_mem_nil,or_false,not_or];have:=aag I;exact⟨aak this,aak (ab3 this e)⟩
 ·exact j.push _
 ·intro s' k D;obtain⟨h',g',X,p,x⟩:=s';have P:g'=s.gens:=k.gens;have R:X=s.drawn:=k.drawn;have O:x=s.os:=k.os;subst P R O;refine⟨rfl,h h' p D λb o q=>?_⟩;have H:=aag q;refine k.heap b o ?_ (Heap.get?_push_of_some _ (up b o q));simp only[List.mem_cons,List.not_mem_nil,or_false,not_or];exact⟨aak H,aak (ab3 H e)⟩
end
theorem qE[DecidableEq K]{L:List (K×Value)}{d:K×Value}(l:(L.map (·.1)).Nodup):∀i,i<=L.length->ym (λi=>L.getD i d) i=L.take i:=by
 intro i
 induction i with
 |zero=>intro _;rfl
 | succ i g=>
  intro hi;rw[iN,g (by nofun)];have e:L[i]?=some (L.getD i d):=by rw[List.getD_eq_getElem?_getD,List.getElem?_eq_getElem (by nofun)];rfl
  have a:(L.take i).any (λf=>decide (f.1=(L.getD i d).1))=false:=by
   rw[List.any_eq_false];intro p k;rw[decide_eq_true_eq];intro z;obtain⟨j,c⟩:=List.mem_iff_getElem?.mp k;have b:j<i:=by have:=(List.getElem?_eq_some_iff.mp c).1;rw[aah] at this;nofun
   rw[List.getElem?_take_of_lt b] at c;have n:(L.map (·.1))[j]?=some p.1:=by rw[List.getElem?_map,c];rfl
   have m:(L.map (·.1))[i]?=some p.1:=by rw[List.getElem?_map,e,z];rfl
   have:=(List.getElem?_inj (by rw[abD];nofun) l).mp (n.trans m.symm);nofun
  unfold stored;rw[a,if_neg (by decide),List.take_add_one,e];rfl
def ud(K:Frag):List V->Hp->VK->Prop:=λxs H Q=>∃(l:Addr) (rows:List (Addr×Str×V)),xs=[.ref l]/\SqL K H l (rows.map λr=>.ref r.1)/\(∀r∈rows,SqT K H r.1 [.str r.2.1,r.2.2])/\(rows.map (·.2.1)).Nodup /\
 ∀p,H p=none->Q (.ref p) (upd H p (.dK (rows.map λr=>(.inr r.2.1,r.2.2))))
theorem Eu{pins:List (Addr×Obj)}(I:Inv X pins σ H s):∀{rows:List (Addr×Str×V)},(∀r∈rows,SqT X.K H r.1 [.str r.2.1,r.2.2]) ->
  ∃L:List (Key×Value),KV (rows.map λr=>((.inr r.2.1:Key),r.2.2)) L/\∀(i:Nat) r,rows[i]?=some r->∃o key val m,s.heap.get? r.1=some o/\o.cls=.type "tuple" /\ o.data=.seq #[key,val] m/\L[i]?=some (.inr r.2.1,val)/\(ay X.prog X.w).is (.inr r.2.1) key=true:=by
 intro rows
 induction rows with
 |nil=>exact λ_=>⟨[],.nil,λi r h=>nomatch h⟩
 | cons r rows e=>
  intro h;obtain⟨L,h1,h2⟩:=e λx a=>h x (aae _ a);obtain⟨its,b,⟨o,j,g,n,f⟩,_⟩:=I.tuple (h r (aab ..));obtain⟨key,val,rfl,d,c⟩:=wq b;refine⟨(.inr r.2.1,val)::L,.cons ⟨rfl,c⟩ h1,λi x a=>?_⟩
  cases i with
  |zero=>cases a;exact ⟨o,key,val,n,j,g,f,rfl,je (k:=.inr r.2.1) d⟩
  |succ i=>exact h2 i x a
theorem qF(G:X.calm=true):CallR X (.type "dict") (ud X.K):=by
 intro pins s σ H xs us Q I r h;obtain⟨l,rows,rfl,h1,h2,J,q⟩:=h;obtain⟨u,rfl,B⟩:=dZ r;cases B;obtain⟨its,j,⟨ol,nl,R,P,O,N⟩,p⟩:=I.list h1;obtain⟨L,n,k⟩:=Eu I h2;have S:L.length=rows.length:=by have:=n.length;rw[abD] at this;exact this.symm
 have hi:its.length=rows.length:=by have:=j.length;rw[abD] at this;exact this.symm
 rw[abD] at p
 have F:L.map (·.1)=rows.map λr=>(.inr r.2.1:Key):=by
  apply List.ext_getElem?;intro i;rw[List.getElem?_map,List.getElem?_map]
  cases e:rows[i]? with
  | none=>
   have:L[i]?=none:=by rw[List.getElem?_eq_none_iff] at e ⊢;nofun
   rw[this];rfl
  | some r=>
   obtain⟨_,_,val,_,_,_,_,M,_⟩:=k i r e;rw[M];rfl
 have E:(L.map (·.1)).Nodup:=by
  rw[F];have:(rows.map λr=>(.inr r.2.1:Key))=(rows.map (·.2.1)).map Sum.inr:=by rw[aat];rfl
  rw[this];exact List.Pairwise.map _ (λa b (z:a≠b) y=>z (aa9 y)) J
 refine lQ (knd:=ay X.prog X.w) R P N O (I.ok.hd G) (λi=>L.getD i (.inl 0,.none)) (λi v t=>?_) (by rw[abN];nofun) λh' tk A g=>?_
 ·have c:its[i]?=some v:=by rw[← Array.getElem?_toList] at t;exact t
  have d:i<rows.length:=by have:=(List.getElem?_eq_some_iff.mp c).1;nofun
  obtain⟨o,key,val,m,g1,g2,g3,x,K⟩:=k i _ (List.getElem?_eq_getElem d);have D:(rows.map λr=>V.ref r.1)[i]?=some (.ref (rows[i]).1):=by rw[List.getElem?_map,List.getElem?_eq_getElem d];rfl
  obtain⟨u,w,C⟩:=j.get D;rw[c] at w;cases w;refine⟨_,o,key,m,C,g1,g2,?_,?_⟩
  ·rw[List.getD_eq_getElem?_getD,x];exact g3
  ·rw[List.getD_eq_getElem?_getD,x];exact K
 ·have f:its.toArray.size=L.length:=by rw[abN];nofun
  rw[f,qE E L.length (aac _),List.take_length] at A;refine⟨.ref s.heap.objs.size,_,I.laid (a:=s.heap.objs.size) (o:=.dK (rows.map λr=>(.inr r.2.1,r.2.2))) (t':=tk) g (aac _) (ir (by rw[abD];exact p) (beq_eq_false_iff_ne.mpr (Ne.symm (aak I.big))) n A),rfl,q _ (I.hok.fresh (aac _))⟩
theorem yn(K:Frag)(a:X.calm=true)(h:X.K=K):BCall X (.type "dict") (ud K):=by subst h;exact⟨qF a⟩
section
variable {K:Frag}
def m3:List D->Option (List (Str×D))
 |[]=>some []
 | .tup [.str z,d]::ds=>(match m3 ds with
  |some r=>some ((z,d)::r)
  |none=>none)
 |_=>none
def oF:List D->(OV->Prop)->Prop
 | [.lst ds],P=>(match m3 ds with
  |some a=>(a.map (·.1)).Nodup/\P (.fd (a.map fun r=>.inr r.1) (a.map (·.2)))
  |none=>False)
 |_,_=>False
theorem ue(s:Same F H):∀{ds:List D} {xs:List V} {b:List (Str×D)},Dens K F xs ds->m3 ds=some b->∃rows:List (Addr×Str×V),xs=rows.map (λr=>.ref r.1)/\(∀r∈rows,SqT K H r.1 [.str r.2.1,r.2.2])/\rows.map (·.2.1)=b.map (·.1)/\Dens K F (rows.map (·.2.2)) (b.map (·.2)):=by
 intro ds
 induction ds with
 |nil=>intro xs b h e;cases h;cases e;exact⟨[],rfl,(λ_ z=>nomatch z),rfl,.nil⟩
 | cons d ds j=>
  intro xs b h e
  cases h with
  | @cons x _ xs _ h t=>
   unfold m3 at e;split at e
   ·rename_i heq;cases heq
   ·rename_i z o n heq;cases heq;split at e
    ·rename_i r m;cases e;obtain⟨rows,rfl,h2,l,k⟩:=j t m
     cases h with
     | @tup a ys _ f hd=>
      cases hd with
      | cons i c=>
       cases c with
       | @cons v _ _ _ c g=>
        cases g;rw[i.str_eq] at f;refine⟨(a,z,v)::rows,rfl,λr hr=>?_,by rw[abG,abG,l],.cons c k⟩;rcases abI.mp hr with y|y
        ·rw[y];exact SqT.of (s _ _ f)
        ·exact h2 r y
    ·cases e
   ·cases e
theorem yo:CallF K (ud K) oF:=⟨by
 intro F H xs ds Q P s e f n;unfold oF at f;split at f
 ·rename_i j;split at f
  ·rename_i c i;obtain⟨x,rfl,d⟩:=bQ e;obtain⟨a,ys,rfl,h1,h2⟩:=d.asL s;obtain⟨rows,rfl,g2,g3,g⟩:=ue s h2 i;refine⟨a,rows,rfl,h1,g2,by rw[g3];exact f.1,λq b=>n _ (.ref q) F _ [q] f.2 (Pure.new s b) (.fd af ?_ ?_) (New.one b (s.free b))⟩
   ·rw[aat];have:(rows.map (·.2.1)).map (Sum.inr (α:=Int))=(c.map (·.1)).map Sum.inr:=by rw[g3]
    rw[aat,aat] at this;exact this
   ·rw[aat];exact g
  ·exact f.elim
 ·exact f.elim⟩
end
section
variable {K:Frag}     
def uf:FE:=λρ Q=>Q (.ov (.ft [] [])) ρ
theorem yp:EF K μ rZ uf:=⟨by
 intro F Z H f σ ρ A Q P g R h q p a;have d:F p=none:=R.fh.free a;exact R.after (P:=λo=>P (.ov o) ρ) (λo v j i B p b e c fr=>q _ _ _ _ _ _ _ p b e c fr) _ _ F _ [p] h (Pure.new R.fh a) (.ft af rfl .nil) (New.one a d)⟩
def ug(ks:List (List Key))(ds:List D)(k:List Key)(d:D):List (List Key)×List D:=
 if tK ks k=true then (ks,(ks.zip ds).map λa=>if a.1=k then d else a.2) else (ks++[k],ds++[d])
theorem uh{ys:List (List Key×V)}{k:List Key}(e:ys.map (·.1)=ks)(dn:Dens K F (ys.map (·.2)) ds)(g:Den K F v d):(gQ ys k v).map (·.1)=(ug ks ds k d).1/\Dens K F ((gQ ys k v).map (·.2)) (ug ks ds k d).2:=by
 unfold ug gQ;have f:tK ks k=(ys.any λb=>decide (b.1=k)):=by rw[← e,tK,ab5];rfl
 by_cases c:tK ks k=true
 ·have a:(ys.any λb=>decide (b.1=k))=true:=f ▸ c;rw[if_pos a,if_pos c];constructor
  ·rw[aat,← e];refine aay λb _=>?_;show (if b.1=k then (b.1,v) else b).1=b.1;split <;> rfl
  ·subst e;clear c a f
   induction ys generalizing ds with
   |nil=>cases dn;exact .nil
   | cons y ys i=>
    cases dn with
    | cons l j=>
     refine .cons ?_ (i j);show Den K F (if y.1=k then (y.1,v) else y).2 (if y.1=k then d else _);split
     ·exact g
     ·exact l
 ·have a:¬(ys.any λb=>decide (b.1=k))=true:=f ▸ c;rw[if_neg a,if_neg c];refine⟨by rw[aad,e];rfl,?_⟩;rw[aad];exact dn.snoc g
def unT(ρ:FSt)(i:Nat):Option (List (List Key)×List D):=match ρ[i]? with
 |some (some (.ft ks ds))=>some (ks,ds)
 |_=>none
theorem Rel.mutT(R:Rel K F Z H σ ρ A)(h:unT ρ i=some (ks,ds)):∃a ys,σ[i]?=some (some (.ref a))/\H a=some (.dT ys)/\ys.map (·.1)=ks/\Dens K F (ys.map (·.2)) ds /\
  ∀b c d,b.map (·.1)=c->Dens K F (b.map (·.2)) d->∃A',Rel K F Z (upd H a (.dT b)) σ (ρ.set i (some (.ft c d))) A':=by
 have e:ρ[i]?=some (some (.ft ks ds)):=by
  unfold unT at h;split at h
  ·rename_i e;cases h;exact e
  ·cases h
 obtain⟨v,B,h1,h2,nd,mA,mk⟩:=R.chg e
 cases h2 with
 | @ft a ys _ _ l k dn=>
  refine⟨a,ys,h1,l,k,dn,λb c d g j=>mk _ _ [a] (λy u f q=>by rw[aj (show y≠a from λz=>f (z ▸ aab ..))];exact q) (.ft af g j) nd λy f=>.inl f⟩
def uk(i:Nat)(fe fk:FE):FS:=λE ρ=>fe ρ λr c=>match fzR r c with
 | some (d,b)=>(unT b i).isSome=true/\fk b λs a=>on1 a s λf=>(match f with
  | .tup e=>(match jk e,unT a i with
   |some k,some (ks,ds)=>ks.length<sizeLine/\E.nx (a.set i (some (.ft (ug ks ds k d).1 (ug ks ds k d).2)))
   |_,_=>False)
  |_=>False)
 |none=>False
theorem yq(N:EF K (List.range n) tv fe)(M:EF K (List.range n) ty fk):SF K n m (wB (ei i) ty tv) (uk i fe fk):=⟨by
 intro F Z H σ0 σ ρ A D fD R p E h;refine N.h (View.id p.1) R h λr x v F1 H1 A1 B1 e B R1 v1 f1=>?_;split at e
 ·rename_i d u U;obtain⟨F2,A2,z,R2,W,_,_⟩:=R1.frz v1 f1 U;obtain⟨P,e⟩:=e;obtain⟨⟨J,X⟩,V⟩:=abV.mp P;obtain⟨a,xs,h1,h2,h3,_⟩:=R2.mutT V;refine⟨.ref a,h1,?_⟩;refine M.h (View.id p.1) R2 e λs t w F3 H3 A3 B3 I q o y f3=>?_;obtain⟨dk,Q,c⟩:=bX I;split at c
  ·rename_i kd;split at c
   ·rename_i k ks ds S T;obtain⟨a',ys,g,l,f,j,mt⟩:=o.mutT T;rw[h1] at g;cases g;obtain⟨b,rfl,O⟩:=ke o.fh (o.acc y Q) S;obtain⟨G,C⟩:=uh (k:=k) f j (W.mono q);obtain⟨A4,Y⟩:=mt (gQ ys k v) _ _ G C;have L:ys.length=ks.length:=by rw[← f,abD]
    exact⟨a,_,rfl,.inr ⟨ys,k,b,l,rfl,O,by rw[L];exact c.1,rfl⟩,E.nx _ _ _ _ _ ((B.trans z).trans q) Y p c.2⟩
   ·exact c.elim
  ·exact c.elim
 ·exact e.elim⟩
def Jk(c fk:FE):FE:=λρ Q=>c ρ λr b=>on1 b r λf=>(match f with
 | .dct _ _=>fk b λs a=>on2 a r s λd e=>(match d,lH e with
  |.dct ks ds,some k=>Q (.ov (.fz ((iJ ks ds k).getD .non))) a
  |_,_=>False)
 |_=>False)
theorem Ew{ys:List (Key×V)}{ks:List Key}{k:Key}{z:V}{g:D}(c:ys.map (·.1)=ks)(h:Dens K F (ys.map (·.2)) ds)(j:Den K F z g):Den K F ((gP ys k).getD z) ((iJ ks ds k).getD g):=by
 cases e:iJ ks ds k with
 | some d=>
  obtain⟨v,h1,h2⟩:=kg c h e;rw[h1];exact h2
 | none=>
  have:gP ys k=none:=by
   have h1:=og (k:=k) c
   cases q:gP ys k with
   |none=>rfl
   | some v=>
    rw[q] at h1;have b:qw ks k=true:=h1.symm;unfold qw at b;rw[aa0] at b;obtain⟨x,l,a⟩:=b;rw[decide_eq_true_eq] at a;subst a;unfold iJ at e;rw[Option.map_eq_none_iff,List.find?_eq_none] at e;have m:ks.length=ds.length:=by rw[← c,abD];simpa using h.length
    obtain⟨i,hi⟩:=List.mem_iff_getElem?.mp l;have f:i<ds.length:=by have:=(List.getElem?_eq_some_iff.mp hi).1;nofun
    have:=e (x,ds[i]) (List.mem_iff_getElem?.mpr ⟨i,by rw[List.getElem?_zip_eq_some];exact⟨hi,List.getElem?_eq_getElem f⟩⟩);simp at this
  rw[this];exact j
theorem Ex{l:FE}(t:EF K μ td l)(u:EF K μ ty fk):EF K μ (r8 td ty) (Jk l fk):=⟨by
 intro F Z H G σ ρ A Q P j R h q;refine t.h j R h λL n x F1 H1 W U h1 r i v1 f1=>?_;obtain⟨M,E,h1⟩:=bX h1;split at h1
 ·obtain⟨a,o,rfl,g1,_⟩:=(i.acc v1 E).asD i.fh;refine⟨a,rfl,.inl ⟨_,g1⟩,?_⟩;obtain⟨O,sz,g,I,back⟩:=i.hold v1.live v1.nt f1;refine u.h j g h1 λJ m y S H2 V T h2 c R2 p f2=>?_;obtain⟨b,w,s⟩:=back _ _ _ _ c R2;obtain⟨d,e,D,C,f⟩:=nW h2;split at f
  ·rename_i ks ds k z;obtain⟨N,ys,B,g2,g3,v⟩:=(b.acc (v1.keep c s) D).asD b.fh;cases B;refine⟨gP ys k,by rw[eI (b.acc p C) z];exact DGet.kR g2,q _ _ _ _ _ _ _ f (r.trans c) b (.fz (Ew g3 v .non)) Fresh.nil⟩
  ·exact f.elim
 ·exact h1.elim⟩
def fGet2(i fk g:FE):FE:=λρ Q=>i ρ λr c=>on1 c r λl=>(match l with
 | .dct _ _=>fk c λs b=>on1 b s λe=>(match lH e with
  | some k=>g b fun t f=>(match fzR t f with
   | some (j,a)=>on1 a r λd=>(match d with
    |.dct ks ds=>Q (.ov (.fz ((iJ ks ds k).getD j))) a
    |_=>False)
   |none=>False)
  |none=>False)
 |_=>False)
def AH(fk fv:FE):FE:=λρ Q=>fk ρ λr a=>on1 a r λd=>(match lH d with
 | some k=>fv a λs c=>(match fzR s c with
  |some (e,b)=>Q (.ov (.fd [k] [e])) b
  |none=>False)
 |none=>False)
theorem yr(u:EF K μ tk fk)(t:EF K μ tv fv):EF K μ (wH [(tk,tv)]) (AH fk fv):=⟨by
 intro F Z H O σ ρ A Q P e R h q p a;have N:=R.step (Pure.new (o:=.dK []) R.fh a);have fp:Fresh F Z A [p]:=R.fresh (New.one a (R.fh.free a));obtain⟨W,sz,M,S,back⟩:=N.hold (B:=[p]) (λb v=>⟨.dK [],by rw[abF.mp v];exact af⟩) (.one af (λ_ z=>nomatch z) .nil) fp;refine u.h e M h λU n x F1 H1 A1 B1 h1 i R2 v1 f1=>?_;obtain⟨d,E,h2⟩:=bX h1;split at h2
 ·rename_i k D;have C:=eI (R2.acc v1 E) D;refine t.h e R2 h2 λT m y Y H2 A2 B2 c g L r f2=>?_;split at c
  ·rename_i V l w;obtain⟨X,A3,f,J,dn,_,_⟩:=L.frz r f2 w;obtain⟨I,j,s⟩:=back _ _ _ _ ((i.trans g).trans f) J;have fb:=j.fr p (aab ..);have G:=I.write (o:=.dK [(k,y)]) fb.2.2 fb.1 fb.2.1;exact⟨s p _ (aab ..) af,[(k,y)],by rw[C];rfl,(by decide:(1:Nat)<=15),q _ _ _ _ _ _ _ c ((i.trans g).trans f) G (.fd af rfl (.cons dn .nil)) j⟩
  ·exact c.elim
 ·exact h2.elim⟩
end
section
variable {K:Frag}        
theorem rg(h:i<n):(List.range n)[i]?=some i:=by simp[h]
theorem Ey(hC:ClsF K c C)(h:i<n)(a:(cg c)[k]?=some f):EF K (List.range n) (wv K (ei i) f) (gX c i k):=I9 hC (rg h) a
theorem yt(hC:ClsF K c C)(h:i<n)(a:(cg c)[k]?=some f):EF K (List.range n) (wv K (ei i) f) (yg c i k):=Eh hC (rg h) a
theorem yu(hC:ClsF K c C)(h:i<n)(a:(cg c)[k]?=some f)(b:EF K (List.range n) te fe):EF K (List.range n) (tBM K "list" eB (wv K (ei i) f) (c7 te jc)) (yf c i k fe):=Ee hC (rg h) a b
theorem yv(hC:ClsF K c C)(h:i<n)(a:(cg c).contains mn=false)(b:AF K (List.range n) t fa):EF K (List.range n) (pV C mn (spM K cc) [] E0 (ei i) t) (eh mn c i cc fa):=Ef hC (rg h) a b
theorem yw(h:i<n):EF K (List.range n) (tCB (F8 K) (c7 (ei i) jc)) (yh i):=Ej (rg h)
theorem ul(h:i<n):EF K (List.range n) (tOp (K6 K) (ei i) (tUn (rU λi=>.int (-i)) (tC (.int 1)))) (oA i):=yi (rg h)
theorem yx(h:i<n)(a:EF K (List.range n) te fe):EF K (List.range n) (tBM K "list" eB (ei i) (c7 te jc)) (yj i fe):=Em (rg h) a
end
structure DfM(K:Frag)(C:Addr)(x q:Str)(st:Stmt)(f:Addr)(fd:FuncData):Prop where
 me:Meth K C x f
 fn:Fun K x q st f fd
theorem dfm_mk{K:Frag}{f:Addr}{kV:Value}(a:PySem.W.findIn K (.ref C) x=some (some (.ref f)))(i:PySem.W.isFn K (.ref f)=true)
  (l:K.lookup f=some ⟨oc,od,.func (PySem.W.fnOf x q (cD st) (bu st) (aw st) .none kV doc pm an cdv ct),osl⟩) (c:PySem.W.codeIn K cdv q=true) (k:PySem.W.keepIn K (.ref f)=true):DfM K C x q st f (PySem.W.fnOf x q (cD st) (bu st) (aw st) .none kV doc pm an cdv ct):=⟨⟨a,i,k⟩,An l c k⟩
theorem Jl{K:Frag}(a:PySem.W.nsIn K mainGlobals (Dh c)=some (some (.ref C)))(pg:PySem.W.plainGet K C Str.empty=true)(hd:PySem.W.hasDictIn K C=true)(po:PySem.W.plainOver K C=true)(sa:PySem.W.findIn K (.ref C) "__setattr__" = some (some (.builtin "object.__setattr__")))(na:∀f∈cg c,NoAttr K C f):ClsF K c C:=⟨a,⟨pg,hd,po,sa⟩,na⟩
abbrev m6(Z:Zz)(C:Addr)(x:Str)(k:Nat)(ps:List Str)(c:Ct):Prop:=OwnM Z.P Z.w Z.K Z.mg Z.base C x k ps (spM Z.K c)
abbrev Jm(Z:Zz)(C:Addr)(x:Str)(k:Nat)(ps:List Str)(c:Ct):Prop:=OwnI Z.P Z.w Z.K Z.mg Z.base x C k ps (spM Z.K c)
section
variable {Z:Zz} {T:Prop} {y:Str}  {f:Addr}  {ps:List Str} {c:Ct}  {h:Heap}
theorem gz(D:DfM Z.K C x q st f fd)(ok:FnOk Z.P Z.w Z.K Z.mg Z.base CX0 k f fd ps (spM Z.K c))
  (a:∀(kV doc pm:Value) (an:Option Addr) (cdv ct:Value) (us:List Value),us.length=ps.length->bindArgs (PySem.W.fnOf x q (cD st) (bu st) (aw st) .none kV doc pm an cdv ct) ⟨us,[]⟩=pure (ps.zip us)):m6 Z C x k ps c:=⟨f,fd,ok,D.me,D.fn.binds a⟩
theorem Ez(t:TopZ Z T)(D:DfM Z.K C "__init__" q st f fd)(a:PySem.W.nsIn Z.K mainGlobals y=some (some (.ref C)))(mk:PySem.W.makesIn Z.K C=true)(b:PySem.W.keepIn Z.K (.ref C)=true)(ok:FnOk Z.P Z.w Z.K Z.mg Z.base CX0 k f fd ps (spM Z.K c))
  (d:∀(kV doc pm:Value) (an:Option Addr) (cdv ct:Value) (us:List Value),us.length=ps.length->bindArgs (PySem.W.fnOf "__init__" q (cD st) (bu st) (aw st) .none kV doc pm an cdv ct) ⟨us,[]⟩=pure (ps.zip us)):Jm Z C y k ps c:=⟨f,fd,ok,⟨mk,D.me.at_,D.me.fn,b⟩,aaU t.X t.G a,D.fn.binds d⟩
end
section
variable  {P:List α->Prop}
theorem us_1(h:∀a,P [a]):∀us:List α,us.length=1->P us
 |[_],_=>h _
theorem us_2(h:∀a b,P [a,b]):∀us:List α,us.length=2->P us
 |[_,_],_=>h _ _
theorem us_3(h:∀a b c,P [a,b,c]):∀us:List α,us.length=3->P us
 |[_,_,_],_=>h _ _ _
theorem us_4(h:∀a b c d,P [a,b,c,d]):∀us:List α,us.length=4->P us
 |[_,_,_,_],_=>h _ _ _ _
theorem us_5(h:∀a b c d e,P [a,b,c,d,e]):∀us:List α,us.length=5->P us
 |[_,_,_,_,_],_=>h _ _ _ _ _
end
def qG(i j:Int):Prop:=i.natAbs<2 ^ 1000/\j.natAbs<2 ^ 1000
theorem EA:OpR X (binaryOp .Mult) (rI qG λi j=>.int (i*j)):=opI λi j _ _ _ _ _ a q=>mul_int q (.of_le (intBits_le a.1) (intBits_le a.2) (by decide))
theorem yy:BOp X (binaryOp .Mult) (rI qG λi j=>.int (i*j)):=⟨EA⟩
def um(i j:Int):Prop:=0<=j/\j<=8/\i.natAbs<2 ^ 1000
theorem EB:OpR X (binaryOp .Pow) (rI um λi j=>.int (i ^ j.toNat)):=opI λi j _ _ _ _ _ a q=>by
 refine pow_int a.1 ?_ q;have b:Builtin.Int.intBits i<=1000:=intBits_le a.2.2;have h2:=a.2.1;have h1:(Builtin.Int.intBits i:Int)*j<=1000*j:=Int.mul_le_mul_of_nonneg_right (by nofun) a.1;nofun
theorem yz:BOp X (binaryOp .Pow) (rI um λi j=>.int (i ^ j.toNat)):=⟨EB⟩
section
variable {K:Frag}
theorem yB:OpF K (rI qG λi j=>.int (i*j)) (aIC qG λi j=>.int (i*j)):=jE λ_ _ _=>.int _
theorem yD:OpF K (rI um λi j=>.int (i ^ j.toNat)) (aIC um λi j=>.int (i ^ j.toNat)):=jE λ_ _ _=>.int _
end
def m7:V->List V->Hp->VK->Prop:=λx vs H Q=>∃l b xs ys,x=.ref l/\vs=[.ref b]/\H l=some (.dK xs)/\Rd H b (.dK ys)/\l≠b/\xs.length+ys.length<=sizeLine/\Q .non (upd H l (.dK (cV xs ys)))
theorem uo:MtM X "dict.update" m7:=by
 intro pins s σ H x vs v us Q I m n h;obtain⟨l,b,xs,ys,rfl,rfl,g,t,a,f,q⟩:=h;cases m;obtain⟨u,rfl,o⟩:=n.one;cases o;obtain⟨z,hd,v1,e,j⟩:=rV I.hok g;obtain⟨y,c,k,d,w⟩:=jf I.hok t;refine call_meetsIn PySem.F.slot_dict_update j.typeIs PySem.F.entry_dict_update (PySem.F.args_dict_update_2 _ _) (meets_dict_update (ay X.prog X.w) l b a c) ⟨v1,k,j,w,by rw[← e.length,← d.length];exact f,λh' i _ hs=>?_⟩;have r:∃q,h'.get? l=some q:=let ⟨q,_,_,p,_⟩:=i;⟨q,p⟩;exact⟨.non,_,gn I (by rw[g];exact True.intro) hs r (ir (aas (dD ys xs) f) hd (d.merge e) i),rfl,q⟩
theorem uq:BMt X "dict.update" m7:=⟨uo⟩
section
variable {K:Frag}     
def EC:List Key->List D->List Key->List D->List Key×List D
 |ks,ds,k::es,d::fs=>EC (gH ks ds k d).1 (gH ks ds k d).2 es fs
 |ks,ds,_,_=>(ks,ds)
theorem yF:∀{ys xs:List (Key×V)} {ks es:List Key} {ds fs:List D},xs.map (·.1)=ks->Dens K F (xs.map (·.2)) ds->ys.map (·.1)=es->Dens K F (ys.map (·.2)) fs->(cV xs ys).map (·.1)=(EC ks ds es fs).1/\Dens K F ((cV xs ys).map (·.2)) (EC ks ds es fs).2:=by
 intro ys
 induction ys with
 |nil=>intro xs ks es ds fs h1 h2 b a;subst b;cases a;exact⟨h1,h2⟩
 | cons y ys e=>
  intro xs ks es ds fs h1 h2 b a;subst b
  cases a with
  | cons g f=>
   obtain⟨d,c⟩:=ka (k:=y.1) h1 h2 g;have r:=e (xs:=gQ xs y.1 y.2) d c rfl f;exact r
theorem Rel.mutDF{ks:List Key}(R:Rel K F Z H σ ρ A)(h:unD ρ i=some (ks,ds)):∀a,σ[i]?=some (some (.ref a))->F a=none:=by
 obtain⟨v,B,A',h1,h2,g,d,pm⟩:=R.takeI (lG h);intro a c
 cases h2 with
 | @fd b ys ks os e f dn=>
  rw[h1] at c;cases c;exact(d.fr a (aab ..)).1
def Nk(i:Nat)(fe:FE):FE:=λρ Q=>(unD ρ i).isSome=true/\fe ρ λr b=>match fzR r b with
 | some (.dct es fs,a)=>(match unD a i with
  |some (ks,ds)=>ks.length+es.length<=sizeLine/\Q (.ov (.fz .non)) (a.set i (some (.fd (EC ks ds es fs).1 (EC ks ds es fs).2)))
  |none=>False)
 |_=>False
theorem ED(h:j<n)(E:EF K (List.range n) te fe):EF K (List.range n) (tBM K "dict" m7 (ei j) (c7 te jc)) (Nk j fe):=⟨by
 intro F Z H U σ ρ A Q P p R h' q;obtain⟨G,h'⟩:=h';obtain⟨⟨D,N⟩,L⟩:=abV.mp G;obtain⟨a,f,h1,h2,_,_,_⟩:=R.mutD L;refine⟨.ref a,(p j j (rg h)).1.trans h1,.inr (.inr (.inl ⟨rfl,.inl ⟨f,h2⟩⟩)),?_⟩;refine E.h p R h' λr w v F1 H1 A1 W d y T v1 f1=>?_;split at d
 ·rename_i es fs u m;obtain⟨V,Y,x,R2,M,_,_⟩:=T.frz v1 f1 m;split at d
  ·rename_i ks ds t;obtain⟨O,xs,c,l,e,k,mt⟩:=R2.mutD t;have s:=R2.mutDF t O c;rw[h1] at c;cases c
   cases M with
   | @dct b ys _ _ g2 g3 I=>
    have i:a≠b:=λz=>by
     rw[← z] at g2;rcases g2 with g|⟨o,g⟩
     ·rw[s] at g;cases g
     ·rw[s] at g;cases g
    obtain⟨C,B⟩:=yF e k g3 I;obtain⟨X,S⟩:=mt (cV xs ys) _ _ C B;refine⟨a,b,xs,ys,rfl,rfl,l,R2.fh.rd g2,i,?_,q _ _ _ _ _ _ _ d.2 (y.trans x) S (.fz .non) Fresh.nil⟩;have J:xs.length=ks.length:=by rw[← e,abD]
    have m:ys.length=es.length:=by rw[← g3,abD]
    rw[J,m];exact d.1
  ·exact d.elim
 ·exact d.elim⟩
end
section
variable   {A:Around}   {it d:Addr} {ep:Nat}  {es:Array DictEntry} {e:DictEntry} 
theorem yG(k:s.heap.IsKeyIter it d i es.size ep)(hd:s.heap.get? d=some o)(a:o.data=.dict es ep)(p:es[i]?=some e)(q:∀h',h'.IsKeyIter it d (i+1) es.size ep->Heap.SameBut it s.heap h'->Q (some e.key) { s with heap:=h' }):wpAny (model prog w) A (pyNext (.ref it)) Q E s:=by
 have j:=k.typeIs;obtain⟨m,hi,f,c⟩:=k;obtain⟨B,dct,u,sl⟩:=m;simp only at f c;subst f c;obtain⟨z,y,t,l⟩:=o;simp only at a;subst a;obtain⟨v,g,x,tk,os⟩:=s;unfold pyNext;refine aaa (abz (wpAny_callSpecial?_slot j aa7 (aaA aa7 j F.entry_dict_keyiterator_next ?_ (F.args_dict_keyiterator_next_1 _))));unfold Builtin.«dict_keyiterator.__next__»
 repeat (any_goals (first|assumption|wp_step))
 have n:(if (i:Int)<0 then none else es[(i:Int).toNat]?)=some e:=by rw[if_neg (by nofun)];simpa using p
 rw[n]
 repeat (any_goals (first|assumption|(with_reducible refine wpAny_isOneOf_keyiter (by assumption) ?_)|wp_step))
 refine⟨_,rfl,aaf (q _ ⟨_,Heap.get?_update_self _ hi rfl,rfl,?_⟩ ⟨?_,λb r=>Heap.get?_update_other _ _ (Ne.symm r)⟩)⟩
 ·kernel_rfl
 ·exact Heap.size_update ..
theorem yH(t:A.handled=none)(k:s.heap.IsKeyIter it d i es.size ep)(hd:s.heap.get? d=some o)(a:o.data=.dict es ep)(p:es[i]?=none)(q:∀h',Heap.ExtBut it s.heap h'->Q none { s with heap:=h' }):wpAny (model prog w) A (pyNext (.ref it)) Q E s:=by
 have j:=k.typeIs;obtain⟨m,hi,f,c⟩:=k;obtain⟨C,dct,v,sl⟩:=m;simp only at f c;subst f c;obtain⟨B,z,u,l⟩:=o;simp only at a;subst a;obtain⟨x,g,y,tk,os⟩:=s;unfold pyNext;refine aaa (abz (wpAny_callSpecial?_slot j aa7 (aaA aa7 j F.entry_dict_keyiterator_next ?_ (F.args_dict_keyiterator_next_1 _))));unfold Builtin.«dict_keyiterator.__next__»
 repeat (any_goals (first|assumption|wp_step))
 have n:(if (i:Int)<0 then none else es[(i:Int).toNat]?)=none:=by rw[if_neg (by nofun)];simpa using p
 rw[n]
 repeat (any_goals (first|assumption|wp_step))
 refine wpAny_raiseNew_none (by simp[t]) ?_;have f1:=isSubtype_stop
 repeat (any_goals (first|assumption|wp_step))
 exact q _ λb o r e=>Heap.get?_push_of_some _ (Heap.get?_push_of_some _ ((Heap.get?_update_other _ _ (Ne.symm r)).trans e))
theorem yI{Q:Value->Shared->Prop}(hd:s.heap.get? d=some o)(b:o.cls=.type "dict")(a:o.data=.dict es ep)(j:(d==sysModules)=false)(q:Q (.ref s.heap.objs.size) { s with heap:=s.heap.push { cls:=.type "dict_keyiterator", data:=.fields #[.ref d,.int 0 0,.int es.size 0,.int ep 0] } }):wpAny (model prog w) A (pyIter (.ref d)) Q E s:=by
 have c:s.TypeIs (.ref d) "dict" := ⟨_,hd,b⟩;obtain⟨m,l,f,e⟩:=o;simp only at a b;subst a b;obtain⟨i,g,k,tk,os⟩:=s;refine wpAny_pyIter_slot c F.slot_dict_iter (aaA F.slot_dict_iter c F.entry_dict_iter ?_ (F.args_dict_iter_1 _));unfold Builtin.«dict.__iter__» Builtin.Dict.dictSlotNone;refine aaa (aaa (wpAny_notOrdered_dict c ?_));unfold Builtin.Dict.showsAll
 repeat (any_goals (first|assumption|wp_step))
 refine⟨_,rfl, "dict_keyiterator", _,⟨_,Heap.get?_push_size _ rfl,rfl⟩,F.slot_dict_keyiterator_next.lookup,q⟩
theorem EE(hE:o.ExactDict)(hdat:o.data=.dict es ep)(hm:(d==sysModules)=false):PySem.W.KdlSrc prog w "dict" d d es.size (λi v=>∃e,es[i]?=some e/\v=e.key) (λh=>h.get? d=some o) where
 type:=λs h=>⟨_,h,hE.1⟩
 there:=λh e=>⟨aag e,aag e⟩
 keep:=λh h' e k=>k d (.inl rfl) o e
 notList:=by decide
 notTuple:=by decide
 hint:=λA E s Q h q=>PySem.W.kdl_hint_dict ⟨_,h,hE.1⟩ q
 iter:=λA s hA h=>by
  refine⟨_,λi h'=>h'.IsKeyIter s.heap.objs.size d i es.size ep/\h'.get? d=some o,λE Q q=>yI h hE.1 hdat hm q,?_,⟨_,Heap.get?_push_size _ rfl,rfl,rfl⟩,Heap.get?_push_of_some _ h⟩;have hne:d≠s.heap.objs.size:=aak (aag h);refine⟨λb hb=>by simp at hb;simp[hb],λi h1 h2 hs k=>⟨?_,k d (by simp) o hs.2⟩,λi s1 Q E hi hs q=>?_,λs1 Q E hs q=>?_,λi s1 Q E hs q=>wpAny_pyIter_keyiter hs.1 q⟩
  ·obtain⟨oi,e1,e2⟩:=hs.1;exact⟨oi,k _ (by simp) oi e1,e2⟩
  ·refine yG hs.1 hs.2 hdat (Array.getElem?_eq_getElem hi) λh' g1 g2=>q _ h' _ ⟨_,Array.getElem?_eq_getElem hi,rfl⟩ ⟨g1,(g2.2 d hne).trans hs.2⟩ λb u hb e=>?_;rw[g2.2 b (by exists hb)];exact e
  ·refine yH hA hs.1 hs.2 hdat (Array.getElem?_eq_none (aac _)) λh' g=>q h' _ λb u hb e=>g b u (by exists hb) e
end
theorem EG{β:Type}{F:α->β->Prop}{l:List α}{m:List β}(h:Paired F l m):∀{i:Nat} {a:α} {b:β},l[i]?=some a->m[i]?=some b->F a b:=by
 induction h with
 |nil=>intro i a b e;cases e
 | cons r t f=>
  intro i a b d c
  cases i with
  |zero=>cases d;cases c;exact r
  |succ i=>exact f d c
def ur:List V->Hp->VK->Prop:=λxs H Q=>∃(p:Addr) (kvs:List (List Key×V)),xs=[.ref p]/\Rd H p (.dT kvs)/\∀(l:Addr) (bs:List Addr),H l=none->bs.length=kvs.length->(∀(i:Nat) (b:Addr) (a:List Key×V),bs[i]?=some b->kvs[i]?=some a->H b=some (.tup (a.1.map kV)))->Q (.ref l) (upd H l (.lst (bs.map .ref)))
theorem qH(D:X.calm=true):CallR X (.type "list") ur:=by
 intro pins s σ H xs us Q I r h;obtain⟨p,kvs,rfl,B,q⟩:=h;obtain⟨u,rfl,y⟩:=dZ r;cases y;obtain⟨n,E,xs,rel,o,es,ep,h1,h2,G,m,F⟩:=(show ObjOk X.prog X.w H s.heap p (.dT kvs) from B.ok I.hok);have k:kvs.length=xs.length:=aa4 rel;have f:es.size=xs.length:=by rw[← abO,m,abD]
 refine PySem.W.kdl_call (EE h2 G E) (I.ok.hd D) h1 (by rw[f,← k];exact n) λh' tk a c' C v c=>?_
 have d:a.toList=xs.map λx=>Value.ref x.2.1:=by
  apply List.ext_getElem?;intro j;rw[List.getElem?_map]
  cases e:xs[j]? with
  | none=>
   rw[List.getElem?_eq_none_iff] at e;refine List.getElem?_eq_none ?_;rw[abO,c.1,f];exact e
  | some x=>
   have t:j<a.size:=by have:=(List.getElem?_eq_some_iff.mp e).1;rw[c.1,f];exact this
   obtain⟨en,w,J⟩:=c.2 j a[j] (Array.getElem?_eq_getElem t);rw[← Array.getElem?_toList,m,List.getElem?_map,e] at w;cases w;rw[Array.getElem?_toList,Array.getElem?_eq_getElem t,J];rfl
 have A:Vals ((xs.map λx=>x.2.1).map V.ref) a.toList:=by
  rw[d,aat];clear c d v f k m F rel
  induction xs with
  |nil=>exact .nil
  |cons x xs z=>exact .cons rfl z
 refine⟨.ref s.heap.objs.size,_,I.laid (t':=tk) (o:=.lst ((xs.map λx=>x.2.1).map V.ref)) C (aac _) ⟨by rw[abD,abD,← k];exact n,a.toList,c',A,by rw[abh];exact v⟩,rfl,q _ _ (I.hok.fresh (aac _)) (by rw[abD,k]) λi b K g l=>?_⟩;rw[List.getElem?_map] at g
 cases e:xs[i]? with
 |none=>rw[e] at g;cases g
 | some x=>
  rw[e] at g;cases g;exact(EG rel l e).2.1
theorem yJ(a:X.calm=true):BCall X (.type "list") ur:=⟨qH a⟩
section
variable {K:Frag}     
theorem Rel.tups{bs:List Addr}(R:Rel K F Z H σ ρ A)(h:∀b∈bs,∃xs,H b=some (.tup xs)):∃F',Same F F'/\Rel K F' Z H σ ρ A/\∀b∈bs,F' b=H b:=by
 classical
 obtain⟨F',s,c,k,_⟩:=R.grow (B:=bs.filter λb=>decide (F b=none)) (λb a=>by
  obtain⟨xs,e⟩:=h b (abQ.mp a).1;exact⟨_,e⟩) (λb a=>by
  obtain⟨xs,e⟩:=h b (abQ.mp a).1;refine⟨of_decide_eq_true (abQ.mp a).2,?_,λz=>R.sl.nt b z xs e⟩
  cases z:Z b with
  |none=>rfl
  | some o=>
   have:=R.zh.s b o z;rw[e] at this;cases this;exact absurd z (R.zh.n b xs))
 refine⟨F',s,c,λb a=>?_⟩;obtain⟨xs,e⟩:=h b a
 cases z:F b with
 |none=>rw[e];exact k b _ (abQ.mpr ⟨a,decide_eq_true z⟩) e
 |some o=>rw[s b o z];exact(R.fh b o z).symm
def Nl(k:List Key):D:=.tup (k.map xN)
theorem lR{F:Hp}:∀{ks:List (List Key)} {bs:List Addr},bs.length=ks.length->(∀(i:Nat) b k,bs[i]?=some b->ks[i]?=some k->F b=some (.tup (k.map kV)))->Dens K F (bs.map .ref) (ks.map Nl)
 |[],[],_,_=>.nil
 |k::ks,b::bs,a,h=>.cons (.tup (h 0 b k rfl rfl) (fU k)) (lR (Nat.succ.inj a) λi b k d c=>h (i+1) b k d c)
def AI(fe:FE):FE:=λρ Q=>fe ρ λr a=>on1 a r λd=>match d with
 |.dt ks _=>Q (.ov (.fl (ks.map Nl))) a
 |_=>False
theorem yL(y:EF K μ te fe):EF K μ (tCB ur (c7 te jc)) (AI fe):=⟨by
 intro F Z H D σ ρ A Q P t R h q;refine y.h t R h λr s x F1 H1 I G h1 v p v1 f1=>?_;obtain⟨d,j,h2⟩:=bX h1;split at h2
 ·rename_i ks ds;obtain⟨a,ys,rfl,g1,g2,g3⟩:=(p.acc v1 j).asDT p.fh;refine⟨a,ys,rfl,g1,λl bs m c n=>?_⟩
  have at_:∀(i:Nat) b,bs[i]?=some b->∃f,ys[i]?=some f/\H1 b=some (.tup (f.1.map kV)):=λi b e=>by
   have hi:i<ys.length:=by have:=(List.getElem?_eq_some_iff.mp e).1;nofun
   exact⟨_,List.getElem?_eq_getElem hi,n i b _ e (List.getElem?_eq_getElem hi)⟩
  obtain⟨E,u,R2,w⟩:=p.tups (bs:=bs) λb n=>by
   obtain⟨i,e⟩:=List.mem_iff_getElem?.mp n;obtain⟨f,_,g⟩:=at_ i b e;exact⟨_,g⟩
  have C:=R2.step (Pure.new (o:=.lst (bs.map .ref)) R2.fh m);refine q _ _ _ _ _ _ _ h2 (v.trans u) C (.fl af (lR (by rw[c,← g2,abD]) λi b k j g=>?_)) (R2.fresh (New.one m (R2.fh.free m)));obtain⟨f,B,z⟩:=at_ i b j;rw[← g2,List.getElem?_map,B] at g;cases g;rw[w b (List.mem_iff_getElem?.mpr ⟨i,j⟩)];exact z
 ·exact h2.elim⟩
def ofF:FV->OV
 |.fz d=>.fz d
 |.fl _ ds=>.fl ds
 |.fd _ ks ds=>.fd ks ds
 |.ft _ ks ds=>.ft ks ds
theorem Fw.own{p:FV}(h:Fw K F H v p B):Ow K F H v (ofF p) B:=by
 cases h with
 |fz h=>exact .fz h
 |fl h t=>exact .fl h t
 |fd h q t=>exact .fd h q t
 |ft h q t=>exact .ft h q t
def qI(i j:Nat)(fe:FE):FS:=λD ρ=>fe ρ λr a=>match r with
 |.ov (.ot [p,q])=>D.nx ((a.set i (some (ofF p))).set j (some (ofF q)))
 |_=>False
theorem EH(B:EF K (List.range n) te fe)(hi:i∉m)(s:j∉m):SF K n m (pM te (Gw K 2 (rl (fE i) (rl (fE j) KJ)))) (qI i j fe):=⟨by
 intro F Z H σ0 σ ρ A D N R p E h;refine B.h (View.id p.1) R h λr k v F1 H1 S J h1 l g v1 f1=>?_;split at h1
 ·rename_i x y
  cases (show Ow K F1 H1 v (.ot [x,y]) J from v1) with
  | @ot a xs _ _ C q=>
   cases q with
   | @cons u _ us _ I P g1 t=>
    cases t with
    | @cons w _ M _ e O g2 t=>
     cases t;obtain⟨n1,n2,n3⟩:=a8 (aaE (I++(e++[]))) f1.nd;obtain⟨L,R2,o⟩:=g.assign (i:=i) g1.own ⟨n1,λb d=>f1.fr b (aav _ d)⟩
     have f2:Fresh F1 Z L e:=⟨by rw[aam] at n2;exact n2,λb d=>by
      have c:b∈e++[]:=by rw[aam];exact d
      have f:=f1.fr b (aal _ c);refine⟨f.1,f.2.1,λz=>?_⟩;rcases o b z with y|y
      ·exact f.2.2 y
      ·exact n3 b y c⟩
     obtain⟨Q,G,_⟩:=R2.assign (i:=j) g2.own f2;exact⟨_,_,rfl,SqT.of (g.fh _ _ C),rfl,_,_,rfl,_,_,rfl,rfl,E.nx _ _ _ _ _ l G ((p.set hi).set s) h1⟩
 ·exact h1.elim⟩
end
section
variable {K:Frag}
end
def Jn:List V->Hp->VK->Prop:=λxs H Q=>(∃i,xs=[.int i]/\Q (.int i) H)∨∃k,xs=[.bl k]/\Q (.int (if k then 1 else 0)) H
theorem Jo :BCall X (.type "int") Jn:=⟨rK⟩
def Mr:List D->(OV->Prop)->Prop
 |[.int i],P=>P (.fz (.int i))
 |[.bl b],P=>P (.fz (.int (if b then 1 else 0)))
 |_,_=>False
theorem Jp{K:Frag}:CallF K Jn Mr:=⟨by
 intro F H xs ds Q P s b f n;unfold Mr at f;split at f
 ·obtain⟨x,rfl,a⟩:=bQ b;rw[a.int_eq];exact .inl ⟨_,rfl,ax s n (.int _) f⟩
 ·obtain⟨x,rfl,a⟩:=bQ b;rw[a.bl_eq];exact .inr ⟨_,rfl,ax s n (.int _) f⟩
 ·exact f.elim⟩
section
variable {K:Frag}     
abbrev FP:=FSt->(List (Key×D)->FSt->Prop)->Prop
def qJ:FP:=λρ Q=>Q [] ρ
def cI(fk fv:FE)(fp:FP):FP:=λρ Q=>fk ρ λr a=>on1 a r λd=>(match lH d with
 | some k=>fv a λs e=>(match fzR s e with
  |some (g,c)=>fp c fun f b=>Q ((k,g)::f) b
  |none=>False)
 |none=>False)
structure PF(K:Frag)(μ:List Nat)(trs:List (TE×TE))(f:FP):Prop where
 h:∀{F Z H:Hp} {τ σ:St} {ρ:FSt} {A:List Addr} {Q:List (V×V)->Hp->Prop} {P:List (Key×D)->FSt->Prop},View μ τ σ->Rel K F Z H σ ρ A->f ρ P ->
  (∀kds ρ' F' H' A' (kvs:List (Key×V)),P kds ρ'->Same F F'->Rel K F' Z H' σ ρ' A'->kvs.map (·.1)=kds.map (·.1)->Dens K F' (kvs.map (·.2)) (kds.map (·.2))->Q (kvs.map λkv=>(kV kv.1,kv.2)) H')->nM trs τ H Q
theorem Jq:PF K μ [] qJ:=⟨by
 intro F Z H a σ ρ A Q P b R h q;exact q [] ρ F H A [] h (Same.refl _) R rfl .nil⟩
theorem EI{fp:FP}(u:EF K μ tk fk)(t:EF K μ tv fv)(hr:PF K μ trs fp):PF K μ ((tk,tv)::trs) (cI fk fv fp):=⟨by
 intro F Z H G σ ρ A Q P a R h q;refine u.h a R h λJ l x F1 H1 Y U h1 p R2 v1 f1=>?_;obtain⟨d,B,h2⟩:=bX h1;split at h2
 ·rename_i k z;have w:=eI (R2.acc v1 B) z;refine t.h a R2 h2 λI j y S H2 X T b o E m f2=>?_;split at b
  ·rename_i L i v;obtain⟨O,W,n,D,dn,_,_⟩:=E.frz m f2 v;refine hr.h a D b λs g N M V kvs r f C c e=>?_;rw[w];exact q _ _ _ _ _ ((k,y)::kvs) r (((p.trans o).trans n).trans f) C (by rw[abG,abG,c]) (.cons (dn.mono f) e)
  ·exact b.elim
 ·exact h2.elim⟩
def cY(acc:List Key×List D)(a:List (Key×D)):List Key×List D:=a.foldl (λacc b=>gH acc.1 acc.2 b.1 b.2) acc
theorem jK:∀{a:List (Key×D)} {kvs:List (Key×V)} {ys:List (Key×V)} {acc:List Key×List D},kvs.map (·.1)=a.map (·.1)->Dens K F (kvs.map (·.2)) (a.map (·.2))->ys.map (·.1)=acc.1->Dens K F (ys.map (·.2)) acc.2->(cV ys kvs).map (·.1)=(cY acc a).1/\Dens K F ((cV ys kvs).map (·.2)) (cY acc a).2
 |[],[],_,_,_,_,h1,h2=>⟨h1,h2⟩
 |[],_::_,_,_,h,_,_,_=>by cases h
 |_::_,[],_,_,h,_,_,_=>by cases h
 | c::a,b::kvs,ys,acc,h,hd,h1,h2=>by
  rw[abG,abG] at h hd;obtain⟨f,e⟩:=List.cons.inj h
  cases hd with
  | cons g dn=>
   obtain⟨g1,g2⟩:=ka (k:=b.1) h1 h2 g;have d:b.1=c.1:=f;show (cV (gQ ys b.1 b.2) kvs).map (·.1)=(cY (gH acc.1 acc.2 c.1 c.2) a).1/\Dens K F ((cV (gQ ys b.1 b.2) kvs).map (·.2)) (cY (gH acc.1 acc.2 c.1 c.2) a).2;rw[← d];exact jK e dn g1 g2
def jL(fp:FP):FE:=λρ Q=>fp ρ λa b=>a.length<=15/\Q (.ov (.fd (cY ([],[]) a).1 (cY ([],[]) a).2)) b
theorem yM{fp:FP}(k:PF K μ trs fp):EF K μ (wH trs) (jL fp):=⟨by
 intro F Z H u σ ρ A Q P i R h q p a;have t:=R.step (Pure.new (o:=.dK []) R.fh a);have fp:Fresh F Z A [p]:=R.fresh (New.one a (R.fh.free a));obtain⟨w,sz,s,v,back⟩:=t.hold (B:=[p]) (λb m=>⟨.dK [],by rw[abF.mp m];exact af⟩) (.one af (λ_ z=>nomatch z) .nil) fp;refine k.h i s h λc g F1 H1 x kvs h1 d R2 f dn=>?_;obtain⟨r,e,j⟩:=back _ _ _ _ d R2;have fb:=e.fr p (aab ..);have n:=r.write (o:=.dK (cV [] kvs)) fb.2.2 fb.1 fb.2.1;obtain⟨g1,g2⟩:=jK (ys:=[]) (acc:=([],[])) f dn rfl .nil;have l:kvs.length=c.length:=by have:=congrArg List.length f;rwa [abD,abD] at this
 exact⟨j p _ (aab ..) af,kvs,rfl,by rw[l];exact h1.1,q _ _ _ _ _ _ _ h1.2 d n (.fd af g1 g2) e⟩⟩
end
end L2
namespace L2
open PySem PySem.Spec PyProof.Rows
open PySem.Builtin PySem.Builtin.Str PySem.StrLaws
def ut:R2:=λx y H Q=>∃(z:Str) (n:Int),x=.str z/\y=.int n/\0<=n/\0<z.length/\z.length*n.toNat<=16777216/\Q (.str (cX z n)) H
section
variable {X:Cx}
theorem qK:BOp X (binaryOp .Mult) ut:=⟨by
 intro pins s σ H x y v u Q I b a h;obtain⟨z,n,rfl,rfl,h1,e,d,q⟩:=h;by_cases c:n=0
 ·subst c;obtain⟨t,rfl⟩:=b;obtain⟨t',rfl⟩:=a;refine PySem.P.mul_str (by decide) (λh=>absurd (by decide) h) (λh=>absurd (by decide) h) ?_;rw[if_pos (by decide)];exact⟨aan _,.str (cX z 0),H,I.tok _,⟨_,rfl⟩,q⟩
 ·exact jJ.h pins s σ H _ _ v u Q I b a ⟨z,n,rfl,rfl,by nofun,e,d,q⟩⟩
end
section
variable {K:Frag} {μ:List Nat}
def kq(d e:D)(P:OV->Prop):Prop:=match d with
 | .str z=>(match e with
  |.int n=>(0<=n/\0<z.length/\z.length*n.toNat<=16777216)/\P (.fz (.str (cX z n)))
  |_=>False)
 |_=>False
theorem qL:OpF K ut kq:=⟨by
 intro F H x y d e Q P s b a f n
 cases d with
 | str z=>
  cases e with
  |int i=>exact ⟨z,i,b.str_eq,a.int_eq,f.1.1,f.1.2.1,f.1.2.2,ax s n (.str _) f.2⟩
  |_=>exact False.elim f
 |_=>exact False.elim f⟩
end
end L2
local macro_rules|`(tactic|delta $c:ident) => `(tactic|(intro os P h;first|(cases h;exact L2.lo_of rfl rfl)|(unfold $c at h;(repeat (obtain ⟨x,h⟩ := h));all_goals (subst_vars;exact L2.lo_of rfl rfl))))
namespace KR
open PySem L2
variable{z s w t n word y n2 n3 n4 n0 n1 n5 u J:Str}{k c f far g m i G g' b c':Nat}{a:Addr}{P:Pk}{d:D}{zs ls p zs0 ps E ns pool A:List Str}{x:Option Nat}{ds:List D}{Q:D->Prop}{ks:List Key}{α β:Type}{mg:Str->Option Value}{base:Heap}{b1 b2 b0:Int}{rank sg:Str->Nat}
def top(i:Nat):Stmt:=PySem.Challenge.pw_keptreading_k16_long_texts.main.body.getD i (.Pass ⟨0,0,0,0⟩)
def EJ:Stmt->List Stmt
 |.ClassDef _ _ _ b _ _ _ _ _ _ _=>b
 |_=>[]
def mth(i j:Nat):Stmt:=(EJ (top i)).getD j (.Pass ⟨0,0,0,0⟩)
structure Txt(K:Frag)(mg:Str->Option Value):Prop where
 n_len:mg "len" = none
 n_max:mg "max" = none
 n_min:mg "min" = none
 n_isinstance:mg "isinstance" = none
 n_all:mg "all" = none
 n_any:mg "any" = none
 n_sorted:mg "sorted" = none
 n_range:mg "range" = none
 n_str:mg "str" = none
 n_bool:mg "bool" = none
 n_int:mg "int" = none
 n_list:mg "list" = none
 n_tuple:mg "tuple" = none
 n_dict:mg "dict" = none
 n_set:mg "set" = none
 n_ord:mg "ord" = none
 n_ValueError:mg "ValueError" = none
 g_LETTERS:Glo mg "LETTERS" (.str "abcdefghijklmnopqrstuvwxyz")
 g_MOST_LETTERS:Glo mg "MOST_LETTERS" (.int 8)
 g_MOST_SIGNS:Glo mg "MOST_SIGNS" (.int 40)
 g_MOST_PARTS:Glo mg "MOST_PARTS" (.int 8)
 g_BARRED_SIGN:Glo mg "BARRED_SIGN" (.int 37)
 g_WORDS_ALONE:HQ K mg "WORDS_ALONE" [.str "none", .str "any"]
 g_WORDS_WITH_ONE:HQ K mg "WORDS_WITH_ONE" [.str "again", .str "ahead", .str "not"]
 g_WORDS_WITH_SOME:HQ K mg "WORDS_WITH_SOME" [.str "row", .str "first"]
 g_WORDS_EVER_EMPTY:HQ K mg "WORDS_EVER_EMPTY" [.str "none", .str "again", .str "ahead", .str "not"]
abbrev Ms(a b:Addr)(c name:D)(place:Int):OV:=.ob ⟨a,0,[.fz c,.fz name,.fz (.int place),.fz (.int place),.fz (.int 0),.fl b [],.fz (.bl false),.fz .non]⟩
@[irreducible] def aM:Ct:=λos P=>∃(a:Addr) (c name:D) (place:Int),os=[.ob ⟨a,0,[]⟩,.fz c,.fz name,.fz (.int place)]/\∀b:Addr,P (.fz .non) [Ms a b c name place,.fz c,.fz name,.fz (.int place)]
@[irreducible] def az:Ct:=λos P=>∃(a:Addr) (g f p2 e c b j i:FV) (d:D),os=[.ob ⟨a,0,[g,f,p2,e,c,b,j,i]⟩,.fz d]/\P (.fz .non) [.ob ⟨a,0,[g,f,p2,e,c,b,.fz (.bl true),.fz d]⟩,.fz d]
abbrev uu:Stmt:=mth 37 0
abbrev EK:FS:=
  (al (jm 0 0 0 (ab 1))
  (al (jm 0 0 1 (ab 2))
  (al (jm 0 0 2 (ab 3))
  (al (jm 0 0 3 (ab 3))
  (al (jm 0 0 4 (fC (.int 0)))
  (al (AG 0 0 5 (hV ae))
  (al (jm 0 0 6 (fC (.bl false)))
  (jm 0 0 7 (fC .non)))))))))
abbrev AJ:Stmt:=mth 37 1
abbrev Jr:FS:=
  (al (jm 0 0 6 (fC (.bl true)))
  (jm 0 0 7 (ab 1)))
theorem EL:Hh aM EK [0] 4:=by
 intro os P h;unfold aM at h;obtain⟨a,c,name,place,rfl,q⟩:=h;ext;refine⟨aan _,?_⟩;ext;intro b;ext;exact q b
theorem Js:Hh az Jr [0] 2:=by
 intro os P h;unfold az at h;obtain⟨a,j,i,p2,g,f,e,c,b,d,rfl,q⟩:=h;ext;exact q
def AK(l:List Nat):Prop:=∀c∈l,97<=c/\c<=122
def db(z:Str):Prop:=1<=z.cps.toList.length/\z.cps.toList.length<=8/\AK z.cps.toList
theorem kr{a b:List Nat}(e:AK a)(d:AK b):AK (a++b):=λc h=>(abE.mp h).elim (e c) (d c)
abbrev abc:Str := "abcdefghijklmnopqrstuvwxyz"
theorem EM:AK abc.cps.toList:=by
 have h:(abc.cps.toList.all λc=>decide (97<=c/\c<=122))=true:=by decide +kernel
 intro c a;exact of_decide_eq_true (abY.mp h c a)
theorem m8:abc.cps.toList.length=26:=by decide +kernel
theorem iO(z:Str)(lo hi:Option Int):(gv z lo hi).cps.toList=eC z.cps.toList lo hi:=by simp[gv]
theorem bG:sizeLine=16777216:=sizeLine_eq
def bZ(z:Str):Prop:=1<=z.cps.toList.length/\z.cps.toList.length<=40/\z.cps.toList.Pairwise (·<·)/\∀c∈z.cps.toList,32<=c/\c<=126/\c≠37
abbrev fq:Str := " !\"#$&'()*+,-./0123456789:;<=>?\x40ABCDEFGHIJKLMNOPQRSTUVWXYZ[\\]^_`abcdefghijklmnopqrstuvwxyz{|}~"
theorem iP:fq.cps.toList.length=94:=by decide +kernel
theorem fX:∀c∈fq.cps.toList,32<=c/\c<=126/\c≠37:=by
 have h:(fq.cps.toList.all λc=>decide (32<=c/\c<=126/\c≠37))=true:=by decide +kernel
 intro c a;exact of_decide_eq_true (abY.mp h c a)
theorem yN(h:z.cps.toList.length=1):∃c,z=⟨#[c]⟩:=by
 obtain⟨c,a⟩:=List.length_eq_one_iff.mp h;exact⟨c,j1 (by rw[a])⟩
theorem oG:∀{ss:List Str},(∀z∈ss,z.cps.toList.length=1)->∃cs:List Nat,ss=cs.map λc=>(⟨#[c]⟩:Str)
 |[],_=>⟨[],rfl⟩
 | s::ss,h=>by
  obtain⟨c,rfl⟩:=yN (h s (aab ..));obtain⟨cs,rfl⟩:=oG (ss:=ss) λz a=>h z (aae _ a);exact⟨c::cs,rfl⟩
theorem jM:∀cs:List Nat,((cs.map λc=>(⟨#[c]⟩:Str)).map λz=>z.cps.toList).flatten=cs
 |[]=>rfl
 |c::cs=>by simp only[List.map_cons,List.flatten_cons,jM cs];rfl
theorem qM{cs:List Nat}(h:(cs.map λc=>(⟨#[c]⟩:Str)).Pairwise λa b=>cU a b=true)(e:(cs.map λc=>(⟨#[c]⟩:Str)).Nodup):cs.Pairwise (·<·):=by
 rw[List.Nodup] at e;have h2:=h.and e;rw[List.pairwise_map] at h2;refine h2.imp fun {a b} d=>?_;have f:¬([b]<[a]):=eJ.mp d.1;have i:¬(b<a):=λz=>f (List.Lex.rel z);have g:a≠b:=λz=>d.2 (by rw[z]);nofun
def uv(zs:List Str)(word:Str)(rest:List Str):Prop:=
 ((word = "none" ∨ word = "any")/\rest=[])∨(word = "signs" /\ ∃z,rest=[z]/\bZ z) ∨
 ((word = "again" ∨ word = "ahead" ∨ word = "not")/\rest.length=1/\∀z∈rest,z∈zs)∨((word = "row" ∨ word = "first")/\1<=rest.length/\rest.length<=8/\∀z∈rest,z∈zs)
abbrev av(word:Str)(rest:List Str):D:=.tup (.str word::rest.map .str)
abbrev Rw:=Str×Str×List Str
variable{rows:List Rw}
abbrev gY(r:Rw):D:=.tup [.str r.1,av r.2.1 r.2.2]
def EN(zs:List Str)(word:Str)(rest:List Str):Prop:=(∀z∈zs,db z)/\uv zs word rest
def lS(word:Str)(rest:List Str):Prop:=∃zs:List Str,EN zs word rest
structure BookL(rows:List Rw):Prop where
 nd:(rows.map (·.1)).Nodup
 ok:∀r∈rows,db r.1/\lS r.2.1 r.2.2
 few:rows.length<=30
 pool:∃zs:List Str,zs.length<=45/\∀r∈rows,EN zs r.2.1 r.2.2
def b8(word:Str)(rest:List Str):List Str:=if word = "signs" then [] else rest
inductive bE:Ct
 |mk {word:Str} {rest:List Str} {P:Pk} (h:P (.fl ((b8 word rest).map .str)) [.fz (av word rest)]):bE [.fz (av word rest)] P
abbrev uw:Stmt:=top 22
abbrev EO:FS:=
  (al (fIf (au (fOp aEq (fOp aIx (ab 0) (fC (.int 0))) (fC (.str "signs"))))
   (bh (hV ae))
   aP)
  (bh (fCB IV (aa (fSl aSl (ab 0) (dJ (fC (.int 1))) bM) ae))))
theorem EQ:Hh bE EO [] 1:=by
 intro os P h;obtain@⟨word,rest,_,q⟩:=h;unfold b8 at q
 have nw:oh (D.str word::rest.map D.str).length (some 1) none:=λz=>by
  have c:HT.sIx (D.str word::rest.map D.str).length 0 (some (1:Int))=1:=by
   rw[show (1:Int)=((1:Nat):Int) from rfl,HT.sIx_nat,abM];nofun
  rw[c] at z;nofun
 have a:eC (D.str word::rest.map D.str) (some 1) none=rest.map D.str:=lw _ 1;ext;refine aB ?_;ext;refine eN ?_;ext;refine⟨bq,?_⟩;ext;refine am (word = "signs") bY (λb=>?_) (λb=>?_)
 ·ext;refine⟨aan _,?_⟩;ext;rw[if_pos b] at q;exact q
 ·ext;refine⟨nw,?_⟩;rw[if_neg b] at q;rw[a];ext;exact q
inductive Leaf where
 |lack|none|any|signs (s:Str)
variable{l:Leaf}
def ux:Leaf->D
 |.lack=>.non
 |.none=>av "none" []
 |.any=>av "any" []
 |.signs s=>av "signs" [s]
def Mt:Option Int->D
 |none=>.non
 |some i=>.int i
def mG(l:Leaf)(z:Str)(k:Nat):Option Int:=match l with
 |.lack=>none
 |.none=>some 0
 |.any=>if k<z.length then some 1 else none
 | .signs s=>match z.cps.toList[k]? with
  |some c=>if c∈s.cps.toList then some 1 else none
  |none=>none
theorem oH(h:z.cps.toList[k]?=none):mG (.signs s) z k=none:=by unfold mG;simp only[h]
theorem uy(h:z.cps.toList[k]?=some c):mG (.signs s) z k=if c∈s.cps.toList then some 1 else none:=by unfold mG;simp only[h]
inductive bH:Ct
 |mk {l:Leaf} {z:Str} {k:Nat} {P:Pk} (hk:k<=z.length) (hz:z.length<=sizeLine) (h:P (.fz (Mt (mG l z k))) [.fz (ux l),.fz (.str z),.fz (.int k)]):bH [.fz (ux l),.fz (.str z),.fz (.int k)] P
abbrev oI:Stmt:=top 38
abbrev yO:FS:=
  (al (fIf (au (fOp AD (ab 0) (fC .non)))
   (bh (fC .non))
   aP)
  (al (fIf (au (fOp aEq (fOp aIx (ab 0) (fC (.int 0))) (fC (.str "none"))))
   (bh (fC (.int 0)))
   aP)
  (al (fIf (au (fOp aEq (ab 2) (fCB et (aa (ab 1) ae))))
   (bh (fC .non))
   aP)
  (bh (K5 (fOr (au (fOp aEq (fOp aIx (ab 0) (fC (.int 0))) (fC (.str "any")))) (au (fOp aIn (fOp aIx (ab 1) (ab 2)) (fOp aIx (ab 0) (fC (.int 1)))))) (fC (.int 1)) (fC .non))))))
theorem yQ:Hh bH yO [] 3:=by
 intro os P h;obtain@⟨l,z,k,_,j,e,q⟩:=h;have sz:=bG
 cases l with
 | lack=>
  ext;refine aB ?_;ext;refine c9 ?_;ext;exact q
 | none=>
  ext;refine aB ?_;ext;refine dI ?_;ext;refine aB ?_;ext;refine⟨bq,?_⟩;ext;refine am _ bY (λ_=>?_) (λa=>absurd rfl a);ext;exact q
 | any=>
  ext;refine aB ?_;ext;refine dI ?_;ext;refine aB ?_;ext;refine⟨bq,?_⟩;ext;refine am _ bY (λa=>absurd a (by decide +kernel)) (λ_=>?_);ext;refine aB ?_;ext;refine⟨e,?_⟩;ext;refine⟨aq,?_⟩;ext;refine am _ aL (λg=>?_) (λg=>?_)
  ·ext;have d:¬k<z.length:=by nofun
   have:mG .any z k=none:=if_neg d;rw[this] at q;exact q
  ·ext;have b:k<z.length:=by nofun
   refine⟨bq,?_⟩;ext;refine am _ bY (λ_=>?_) (λa=>absurd rfl a);ext;refine c9 ?_;ext;have:mG .any z k=some 1:=if_pos b;rw[this] at q;exact q
 | signs s=>
  ext;refine aB ?_;ext;refine dI ?_;ext;refine aB ?_;ext;refine⟨bq,?_⟩;ext;refine am _ bY (λa=>absurd a (by decide +kernel)) (λ_=>?_);ext;refine aB ?_;ext;refine⟨e,?_⟩;ext;refine⟨aq,?_⟩;ext;refine am _ aL (λg=>?_) (λg=>?_)
  ·ext;have d:¬k<z.length:=by nofun
   have:mG (.signs s) z k=none:=oH (List.getElem?_eq_none_iff.mpr (by rw[← hX];nofun));rw[this] at q;exact q
  ·ext;have b:k<z.length:=by nofun
   refine⟨bq,?_⟩;ext;refine am _ bY (λa=>absurd a (by decide +kernel)) (λ_=>?_);ext;have i:z.cps.toList[k]?=some (z.cps.toList[k]'(by rw[← hX];exact b)):=List.getElem?_eq_getElem _;generalize z.cps.toList[k]'(by rw[← hX];exact b)=c at i;rw[uy i] at q;refine⟨e,?_⟩;rw[oB i];ext;refine am _ decide_eq_true_iff (λf=>?_) (λf=>?_)
   ·ext;rw[if_pos f] at q;exact q
   ·ext;rw[if_neg f] at q;exact q
theorem oJ{c name:D}{place:Int}(h:∀b:Addr,P (.fz .non) [Ms a b c name place,.fz c,.fz name,.fz (.int place)]):aM [.ob ⟨a,0,[]⟩,.fz c,.fz name,.fz (.int place)] P:=by
 unfold aM;exact⟨a,c,name,place,rfl,h⟩
theorem b4{g f p2 e c b j i:FV}(h:P (.fz .non) [.ob ⟨a,0,[g,f,p2,e,c,b,.fz (.bl true),.fz d]⟩,.fz d]):az [.ob ⟨a,0,[g,f,p2,e,c,b,j,i]⟩,.fz d] P:=by
 unfold az;exact⟨a,g,f,p2,e,c,b,j,i,d,rfl,h⟩
abbrev ask1(a b:Addr)(c name:D)(place:Int)(len:D):OV:=.ob ⟨a,0,[.fz c,.fz name,.fz (.int place),.fz (.int place),.fz (.int 0),.fl b [],.fz (.bl true),.fz len]⟩
@[irreducible] def dP:Ct:=λos P=>∃(ks:List Key) (ds:List D) (z n:Str) (k:Nat),os=[.fz (.dct ks ds),.fz (.str z),.fz (.str n),.fz (.int k)]/\k<=z.length/\z.length<=sizeLine /\
  ((∃l,(iJ ks ds (.inr n)).getD .non=ux l/\∀a b,P (ask1 a b (ux l) (.str n) k (Mt (mG l z k))) os) ∨
   ∃word rest,(iJ ks ds (.inr n)).getD .non=av word rest/\word ≠ "signs" /\ rest≠[]/\rest.length<=8/\∀a b,P (Ms a b (av word rest) (.str n) k) os)
abbrev uz:Stmt:=top 39
abbrev ER:FS:=
  (al (bO (Jk (ab 0) (ab 2)) (ac 4))
  (al (b7 5 (Ja 0 aM (aa (fFz (ab 4)) (aa (fFz (ab 2)) (aa (fFz (ab 3)) ae)))))
  (al (fIf (fOr (au (fOp AD (ab 4) (fC .non))) (au (fOp aEq (fCB et (aa (ah bE (aa (fFz (ab 4)) ae)) ae)) (fC (.int 0)))))
   (bN (eh "end" 0 5 az (aa (fFz (ah bH (aa (fFz (ab 4)) (aa (fFz (ab 1)) (aa (fFz (ab 3)) ae))))) ae)))
   aP)
  (bh (ab 5)))))
theorem ES:Hh dP ER [] 6:=by
 intro os P h;unfold dP at h;obtain⟨ks,ds,z,n,k,rfl,f,d,h⟩:=h;ext;rcases h with ⟨l,e,q⟩|⟨word,rest,e,i,g,m,q⟩
 ·rw[e];ext;intro a;refine oJ λb=>?_;ext;refine aB ?_
  cases l with
  | lack=>
   ext;refine c9 ?_;ext;refine c9 ?_;ext;refine .mk (l:=.lack) f d ?_;ext;refine b4 ?_;ext;exact q a b
  | none=>
   ext;refine dI ?_;ext;refine .mk ?_;ext;refine⟨aq,?_⟩;ext;refine am _ aL (λ_=>?_) (λc=>absurd (by decide +kernel) c);ext;refine .mk (l:=.none) f d ?_;ext;refine b4 ?_;ext;exact q a b
  | any=>
   ext;refine dI ?_;ext;refine .mk ?_;ext;refine⟨aq,?_⟩;ext;refine am _ aL (λ_=>?_) (λc=>absurd (by decide +kernel) c);ext;refine .mk (l:=.any) f d ?_;ext;refine b4 ?_;ext;exact q a b
  | signs s=>
   ext;refine dI ?_;ext;refine .mk ?_;ext;refine⟨aq,?_⟩;ext;refine am _ aL (λ_=>?_) (λc=>absurd (by rw[show b8 "signs" [s]=[] from if_pos rfl];rfl) c);ext;refine .mk (l:=.signs s) f d ?_;ext;refine b4 ?_;ext;exact q a b
 ·rw[e];ext;intro a;refine oJ λb=>?_;ext;refine aB ?_;ext;refine dI ?_;ext;refine .mk ?_;ext;refine⟨aq,?_⟩;ext;have j:b8 word rest=rest:=if_neg i;refine am _ aL (λc=>?_) (λ_=>?_)
  ·rw[j,abD] at c;exact absurd (List.length_eq_zero_iff.mp (by nofun)) g
  ·ext;exact q a b
inductive Rl where
 |leaf (l:Leaf)|comp (w:Str) (r:List Str)
def rlD:Rl->D
 |.leaf l=>ux l
 |.comp w r=>av w r
def ib(o:Option Nat):D:=match o with
 |none=>.non
 |some k=>.int k
def eA(l:Leaf)(z:Str)(k:Nat):Option Nat:=match mG l z k with
 |none=>none
 |some i=>some i.toNat
theorem ET(l:Leaf)(z:Str)(k:Nat):Mt (mG l z k)=ib (eA l z k):=by
 unfold eA
 cases e:mG l z k with
 |none=>rfl
 | some i=>
  have:0<=i:=by
   unfold mG at e;split at e
   ·cases e
   ·cases e;decide
   ·split at e
    ·cases e;decide
    ·cases e
   ·split at e
    ·split at e
     ·cases e;decide
     ·cases e
    ·cases e
  show D.int i=D.int ((i.toNat:Nat):Int);rw[Int.toNat_of_nonneg this]
abbrev Sp2:=Str×Nat
variable{root q:Sp2}{st:List Sp2}
def bt(s:Sp2):D:=.tup [.str s.1,.int s.2]
structure As where
 fm:Rl
 n:Str
 k:Nat
 t:Nat
 tn:Nat
 st:List Sp2
 dn:Bool
 ln:Option Nat
abbrev asA(a b:Addr)(s:As):Oo:=⟨a,0,[.fz (rlD s.fm),.fz (.str s.n),.fz (.int s.k),.fz (.int s.t),.fz (.int s.tn),.fl b (s.st.map bt),.fz (.bl s.dn),.fz (ib s.ln)]⟩
def kS(s:As)(x:Option Nat):As:={ s with dn:=true,ln:=x }
def yR(r:List Str)(s:As)(x:Option Nat):As:=match x with
 |none=>kS s none
 |some l=>if s.tn+1=r.length then kS { s with t:=s.t+l,tn:=s.tn+1 } (some (s.t+l - s.k)) else { s with t:=s.t+l,tn:=s.tn+1 }
def eP(r:List Str)(s:As)(x:Option Nat):As:=if x≠none∨s.tn+1=r.length then kS { s with tn:=s.tn+1 } x else { s with tn:=s.tn+1 }
def fA(s:As)(x:Option Nat):As:=if x=none∨x=some 0 then kS s (some (s.t - s.k)) else { s with t:=s.t+x.getD 0 }
def ak(r:List Str)(s:As):Sp2:=(r.getD s.tn "", s.t)
def bU(w:Str)(r:List Str)(a:As)(x:Option Nat):As:=
 let s:={ a with st:=a.st++[ak r a] }
 if w = "row" then yR r s x else if w = "first" then eP r s x else if w = "again" then fA s x else if w = "ahead" then kS s (if x=none then none else some 0) else kS s (if x=none then some 0 else none)
inductive aW:Ct
 |mk {a b:Addr} {s:As} {w:Str} {r:List Str} {P:Pk} (hf:s.fm=.comp w r) (ht:s.tn<r.length) (hr:r.length<=8) (h:P (.fz (bt (ak r s))) [.ob (asA a b s)]):aW [.ob (asA a b s)] P
inductive aS:Ct
 |mk {a b:Addr} {s:As} {w:Str} {r:List Str} {x:Option Nat} {P:Pk} (hf:s.fm=.comp w r) (hr:r.length<=8) (hk:s.k<=s.t) (h:P (.fz .non) [.ob (asA a b (yR r s x)),.fz (ib x)]):aS [.ob (asA a b s),.fz (ib x)] P
inductive aH:Ct
 |mk {a b:Addr} {s:As} {w:Str} {r:List Str} {x:Option Nat} {P:Pk} (hf:s.fm=.comp w r) (hr:r.length<=8) (h:P (.fz .non) [.ob (asA a b (eP r s x)),.fz (ib x)]):aH [.ob (asA a b s),.fz (ib x)] P
inductive aJ:Ct
 |mk {a b:Addr} {s:As} {x:Option Nat} {P:Pk} (hk:s.k<=s.t) (h:P (.fz .non) [.ob (asA a b (fA s x)),.fz (ib x)]):aJ [.ob (asA a b s),.fz (ib x)] P
inductive bF:Ct
 |mk {a b:Addr} {s:As} {w:Str} {r:List Str} {x:Option Nat} {P:Pk} (hf:s.fm=.comp w r) (ht:s.tn<r.length) (hr:r.length<=8) (hk:s.k<=s.t) (hs:s.st.length<sizeLine) (h:P (.fz .non) [.ob (asA a b (bU w r s x)),.fz (ib x)]):bF [.ob (asA a b s),.fz (ib x)] P
abbrev lT:Stmt:=mth 37 2
abbrev uA:FS:=
  (bh (c6 (aa (fOp aIx (gX 0 0 0) (fOp b6 (fC (.int 1)) (gX 0 0 4))) (aa (gX 0 0 3) ae))))
abbrev AL:Stmt:=mth 37 4
abbrev Jt:FS:=
  (al (fIf (au (fOp AD (ab 1) (fC .non)))
   (al (bN (eh "end" 0 0 az (aa (fC .non) ae)))
  Il)
   aP)
  (al (qC 0 0 3 (ab 1))
  (al (qC 0 0 4 (fC (.int 1)))
  (fIf (au (fOp aEq (gX 0 0 4) (fOp (aI0 λi j=>.int (i - j)) (fCB et (aa (gX 0 0 0) ae)) (fC (.int 1)))))
   (bN (eh "end" 0 0 az (aa (fFz (fOp (aI0 λi j=>.int (i - j)) (gX 0 0 3) (gX 0 0 2))) ae)))
   aP))))
abbrev oK:Stmt:=mth 37 5
abbrev yS:FS:=
  (al (qC 0 0 4 (fC (.int 1)))
  (fIf (fOr (au (fOp tR (ab 1) (fC .non))) (au (fOp aEq (gX 0 0 4) (fOp (aI0 λi j=>.int (i - j)) (fCB et (aa (gX 0 0 0) ae)) (fC (.int 1))))))
   (bN (eh "end" 0 0 az (aa (fFz (ab 1)) ae)))
   aP))
abbrev oM:Stmt:=mth 37 6
abbrev yT:FS:=
  (fIf (fOr (au (fOp AD (ab 1) (fC .non))) (au (fOp aEq (ab 1) (fC (.int 0)))))
   (bN (eh "end" 0 0 az (aa (fFz (fOp (aI0 λi j=>.int (i - j)) (gX 0 0 3) (gX 0 0 2))) ae)))
   (qC 0 0 3 (ab 1)))
abbrev uB:Stmt:=mth 37 3
abbrev EU:FS:=
  (al (bN (yf 0 0 5 (eh "wanted" 0 0 aW ae)))
  (al (bO (fOp aIx (gX 0 0 0) (fC (.int 0))) (ac 2))
  (fIf (au (fOp aEq (ab 2) (fC (.str "row"))))
   (bN (eh "take_in_row" 0 0 aS (aa (fFz (ab 1)) ae)))
   (fIf (au (fOp aEq (ab 2) (fC (.str "first"))))
   (bN (eh "take_in_first" 0 0 aH (aa (fFz (ab 1)) ae)))
   (fIf (au (fOp aEq (ab 2) (fC (.str "again"))))
   (bN (eh "take_in_again" 0 0 aJ (aa (fFz (ab 1)) ae)))
   (fIf (au (fOp aEq (ab 2) (fC (.str "ahead"))))
   (bN (eh "end" 0 0 az (aa (fFz (K5 (au (fOp AD (ab 1) (fC .non))) (fC .non) (fC (.int 0)))) ae)))
   (bN (eh "end" 0 0 az (aa (fFz (K5 (au (fOp AD (ab 1) (fC .non))) (fC (.int 0)) (fC .non))) ae)))))))))
theorem uC:Hh aW uA [0] 1:=by
 intro os P h;obtain@⟨a,b,s,w,r,_,d,c,hr,q⟩:=h;obtain⟨fm,n,k,t,tn,st,dn,ln⟩:=s;simp only at d c;subst d
 have f:atI (D.str w::List.map D.str r) (1+(tn:Int))=some (.str (r.getD tn "")):=by
  rw[show (1+(tn:Int))=((tn+1:Nat):Int) by nofun];refine oB ?_;rw[List.getElem?_cons_succ,List.getElem?_map,List.getD_eq_getElem?_getD,List.getElem?_eq_getElem c];rfl
 have e:2<=sizeLine:=by rw[sizeLine_eq];decide
 ext;rw[f];ext;refine⟨e,?_⟩;ext;exact q
theorem Ju:Hh aS Jt [0] 2:=by
 intro os P h;obtain@⟨a,b,s,w,r,x,_,c,hr,f,q⟩:=h;obtain⟨fm,n,k,t,tn,st,dn,ln⟩:=s;simp only at c f;subst c;have sz:=bG
 cases x with
 | none=>
  ext;refine aB ?_;ext;refine c9 ?_;ext;refine b4 ?_;ext;exact q
 | some l=>
  ext;refine aB ?_;ext;refine dI ?_;ext;refine aB ?_;ext;refine⟨aq,?_⟩;ext;refine am (tn+1=r.length) (aL.trans (by simp only[List.length_cons,List.length_map];nofun)) (λh=>?_) (λh=>?_)
  ·ext;refine b4 ?_;ext;rw[show yR r ⟨.comp w r,n,k,t,tn,st,dn,ln⟩ (some l)=kS ⟨.comp w r,n,k,t+l,tn+1,st,dn,ln⟩ (some (t+l - k)) from if_pos h] at q;have e:((t:Int)+(l:Int)) - (k:Int)=((t+l - k:Nat):Int):=by nofun
   have d:P (.fz .non) [.ob ⟨a,0,[.fz (av w r),.fz (.str n),.fz (.int k),.fz (.int ((t:Int)+l)),.fz (.int ((tn:Int)+1)),.fl b (st.map bt),.fz (.bl true),.fz (.int ((t:Int)+l - k))]⟩,.fz (.int l)]:=by rw[e];exact q
   exact d
  ·ext;rw[show yR r ⟨.comp w r,n,k,t,tn,st,dn,ln⟩ (some l)=⟨.comp w r,n,k,t+l,tn+1,st,dn,ln⟩ from if_neg h] at q;exact q
theorem yU:Hh aH yS [0] 2:=by
 intro os P h;obtain@⟨a,b,s,w,r,x,_,c,hr,q⟩:=h;obtain⟨fm,n,k,t,tn,st,dn,ln⟩:=s;simp only at c;subst c;have sz:=bG
 cases x with
 | none=>
  ext;refine aB ?_;ext;refine dI ?_;ext;refine⟨aq,?_⟩;ext;refine am (tn+1=r.length) (aL.trans (by simp only[List.length_cons,List.length_map];nofun)) (λh=>?_) (λh=>?_)
  ·ext;refine b4 ?_;ext;rw[show eP r ⟨.comp w r,n,k,t,tn,st,dn,ln⟩ none=kS ⟨.comp w r,n,k,t,tn+1,st,dn,ln⟩ none from if_pos (.inr h)] at q;exact q
  ·ext;rw[show eP r ⟨.comp w r,n,k,t,tn,st,dn,ln⟩ none=⟨.comp w r,n,k,t,tn+1,st,dn,ln⟩ from if_neg (λz=>z.elim (λy=>y rfl) h)] at q;exact q
 | some l=>
  ext;refine aB ?_;ext;refine c9 ?_;ext;refine c9 ?_;ext;refine b4 ?_;ext;rw[show eP r ⟨.comp w r,n,k,t,tn,st,dn,ln⟩ (some l)=kS ⟨.comp w r,n,k,t,tn+1,st,dn,ln⟩ (some l) from if_pos (.inl (λz=>nomatch z))] at q;exact q
theorem yV:Hh aJ yT [0] 2:=by
 intro os P h;obtain@⟨a,b,s,x,_,c,q⟩:=h;obtain⟨fm,n,k,t,tn,st,dn,ln⟩:=s;simp only at c;have e:(t:Int) - (k:Int)=((t - k:Nat):Int):=by nofun
 have fi:∀y:D,P (.fz .non) [.ob (asA a b (kS ⟨fm,n,k,t,tn,st,dn,ln⟩ (some (t - k)))),.fz y]->P (.fz .non) [.ob ⟨a,0,[.fz (rlD fm),.fz (.str n),.fz (.int k),.fz (.int t),.fz (.int tn),.fl b (st.map bt),.fz (.bl true),.fz (.int ((t:Int) - k))]⟩,.fz y]:=λy q=>by rw[e];exact q
 cases x with
 | none=>
  ext;refine aB ?_;ext;refine c9 ?_;ext;refine c9 ?_;ext;refine b4 ?_;ext;rw[show fA ⟨fm,n,k,t,tn,st,dn,ln⟩ none=kS ⟨fm,n,k,t,tn,st,dn,ln⟩ (some (t - k)) from if_pos (.inl rfl)] at q;exact fi _ q
 | some l=>
  ext;refine aB ?_;ext;refine dI ?_;ext;refine⟨aq,?_⟩;ext;refine am (l=0) (aL.trans (by nofun)) (λh=>?_) (λh=>?_)
  ·ext;refine b4 ?_;ext;rw[show fA ⟨fm,n,k,t,tn,st,dn,ln⟩ (some l)=kS ⟨fm,n,k,t,tn,st,dn,ln⟩ (some (t - k)) from if_pos (.inr (by rw[h]))] at q;exact fi _ q
  ·ext;rw[show fA ⟨fm,n,k,t,tn,st,dn,ln⟩ (some l)=⟨fm,n,k,t+l,tn,st,dn,ln⟩ from if_neg (λz=>z.elim (λy=>nomatch y) λy=>h (aaj y))] at q;exact q
theorem EV:Hh bF EU [0] 3:=by
 intro os P h;obtain@⟨a,b,s,w,r,x,_,g,f,hr,e,hs,q⟩:=h;obtain⟨fm,n,k,t,tn,st,dn,ln⟩:=s;simp only at g f e hs;subst g;have i:((st++[ak r ⟨.comp w r,n,k,t,tn,st,dn,ln⟩]).map bt)=st.map bt++[bt (ak r ⟨.comp w r,n,k,t,tn,st,dn,ln⟩)]:=by rw[aad];rfl
 ext;refine .mk (s:=⟨.comp w r,n,k,t,tn,st,dn,ln⟩) rfl f hr ?_;ext;refine⟨rfl,by rw[abD];exact hs,?_⟩;rw[← i];ext;refine eN ?_;ext;refine aB ?_;ext;refine⟨bq,?_⟩;ext;refine am (w = "row") bY (λh=>?_) (λh=>?_)
 ·ext;refine .mk (s:=⟨.comp w r,n,k,t,tn,st++[ak r ⟨.comp w r,n,k,t,tn,st,dn,ln⟩],dn,ln⟩) rfl hr e ?_;ext;rw[show bU w r ⟨.comp w r,n,k,t,tn,st,dn,ln⟩ x=yR r ⟨.comp w r,n,k,t,tn,st++[ak r ⟨.comp w r,n,k,t,tn,st,dn,ln⟩],dn,ln⟩ x from if_pos h] at q;exact q
 ext;refine aB ?_;ext;refine⟨bq,?_⟩;ext;refine am (w = "first") bY (λh2=>?_) (λh2=>?_)
 ·ext;refine .mk (s:=⟨.comp w r,n,k,t,tn,st++[ak r ⟨.comp w r,n,k,t,tn,st,dn,ln⟩],dn,ln⟩) rfl hr ?_;ext;rw[show bU w r ⟨.comp w r,n,k,t,tn,st,dn,ln⟩ x=eP r ⟨.comp w r,n,k,t,tn,st++[ak r ⟨.comp w r,n,k,t,tn,st,dn,ln⟩],dn,ln⟩ x from (if_neg h).trans (if_pos h2)] at q;exact q
 ext;refine aB ?_;ext;refine⟨bq,?_⟩;ext;refine am (w = "again") bY (λc=>?_) (λc=>?_)
 ·ext;refine .mk (s:=⟨.comp w r,n,k,t,tn,st++[ak r ⟨.comp w r,n,k,t,tn,st,dn,ln⟩],dn,ln⟩) e ?_;ext;rw[show bU w r ⟨.comp w r,n,k,t,tn,st,dn,ln⟩ x=fA ⟨.comp w r,n,k,t,tn,st++[ak r ⟨.comp w r,n,k,t,tn,st,dn,ln⟩],dn,ln⟩ x from (if_neg h).trans ((if_neg h2).trans (if_pos c))] at q;exact q
 ext;refine aB ?_;ext;refine⟨bq,?_⟩;ext;refine am (w = "ahead") bY (λd=>?_) (λd=>?_)
 ·cases x with
  | none=>
   ext;refine c9 ?_;ext;refine b4 ?_;ext;rw[show bU w r ⟨.comp w r,n,k,t,tn,st,dn,ln⟩ none=kS ⟨.comp w r,n,k,t,tn,st++[ak r ⟨.comp w r,n,k,t,tn,st,dn,ln⟩],dn,ln⟩ none from (if_neg h).trans ((if_neg h2).trans ((if_neg c).trans (if_pos d)))] at q;exact q
  | some l=>
   ext;refine dI ?_;ext;refine b4 ?_;ext;rw[show bU w r ⟨.comp w r,n,k,t,tn,st,dn,ln⟩ (some l)=kS ⟨.comp w r,n,k,t,tn,st++[ak r ⟨.comp w r,n,k,t,tn,st,dn,ln⟩],dn,ln⟩ (some 0) from (if_neg h).trans ((if_neg h2).trans ((if_neg c).trans (if_pos d)))] at q;exact q
 ·cases x with
  | none=>
   ext;refine c9 ?_;ext;refine b4 ?_;ext;rw[show bU w r ⟨.comp w r,n,k,t,tn,st,dn,ln⟩ none=kS ⟨.comp w r,n,k,t,tn,st++[ak r ⟨.comp w r,n,k,t,tn,st,dn,ln⟩],dn,ln⟩ (some 0) from (if_neg h).trans ((if_neg h2).trans ((if_neg c).trans (if_neg d)))] at q;exact q
  | some l=>
   ext;refine dI ?_;ext;refine b4 ?_;ext;rw[show bU w r ⟨.comp w r,n,k,t,tn,st,dn,ln⟩ (some l)=kS ⟨.comp w r,n,k,t,tn,st++[ak r ⟨.comp w r,n,k,t,tn,st,dn,ln⟩],dn,ln⟩ none from (if_neg h).trans ((if_neg h2).trans ((if_neg c).trans (if_neg d)))] at q;exact q
def m9:List Str->List Str->List Str
 |ls,[]=>ls
 |ls,m::a=>m9 (if m∈ls then ls else ls++[m]) a
structure Res where
 ln:Option Nat
 far:Nat
 ls:List Str
variable{r r':Res}{e:Sp2×Res}
abbrev Rls:=Str->Rl
variable{R:Rls}
def e8(R:Rls)(z:Str)(n:Str)(k:Nat):As:=match R n with
 |.leaf l=>⟨.leaf l,n,k,k,0,[],true,eA l z k⟩
 |.comp w r=>⟨.comp w r,n,k,k,0,[],false,none⟩
def goF(R:Rls)(z:Str):Nat->As->Nat->List Str->Option Res
 |0,_,_,_=>none
 | f+1,s,far,ls=>if s.dn=true then some ⟨s.ln,far,ls⟩ else match s.fm with
  |.leaf _=>none
  | .comp w r=>match goF R z f (e8 R z (ak r s).1 (ak r s).2) (ak r s).2 [(ak r s).1] with
   |none=>none
   |some t=>goF R z f (bU w r s t.ln) (max far t.far) (m9 ls t.ls)
abbrev rdF(R:Rls)(z:Str)(f:Nat)(n:Str)(k:Nat):Option Res:=goF R z f (e8 R z n k) k [n]
theorem qO{s:As}(h:s.dn=true):goF R z (f+1) s far ls=some ⟨s.ln,far,ls⟩:=if_pos h
theorem nb{s:As}(h:s.dn=false)(e:goF R z (f+1) s far ls=some r):∃w p t,s.fm=.comp w p/\rdF R z f (ak p s).1 (ak p s).2=some t/\goF R z f (bU w p s t.ln) (max far t.far) (m9 ls t.ls)=some r:=by
 unfold goF at e;rw[if_neg (by rw[h];decide)] at e
 cases b:s.fm with
 |leaf l=>rw[b] at e;cases e
 | comp w p=>
  rw[b] at e;simp only at e
  cases a:rdF R z f (ak p s).1 (ak p s).2 with
  |none=>rw [show goF R z f (e8 R z (ak p s).1 (ak p s).2) (ak p s).2 [(ak p s).1]=none from a] at e;cases e
  | some t=>
   rw[show goF R z f (e8 R z (ak p s).1 (ak p s).2) (ak p s).2 [(ak p s).1]=some t from a] at e;exact⟨w,p,t,rfl,a,e⟩
theorem kZ{s:As}{t:Res}(h:s.dn=false)(b:s.fm=.comp w p)(a:rdF R z f (ak p s).1 (ak p s).2=some t):goF R z (f+1) s far ls=goF R z f (bU w p s t.ln) (max far t.far) (m9 ls t.ls):=by
 rw[goF,if_neg (by rw[h];decide),b];simp only;rw[show goF R z f (e8 R z (ak p s).1 (ak p s).2) (ak p s).2 [(ak p s).1]=some t from a]
theorem ku:∀{f:Nat} {s:As} {far:Nat} {ls:List Str} {r:Res},goF R z f s far ls=some r->goF R z (f+1) s far ls=some r
 |0,_,_,_,_,e=>nomatch e
 | f+1,s,far,ls,r,e=>by
  cases h:s.dn with
  |true=>rw [qO h] at e ⊢;exact e
  | false=>
   obtain⟨w,p,t,b,a,c⟩:=nb h e;rw[kZ h b (ku a)];exact ku c
theorem yY{s:As}(h:f<=g)(e:goF R z f s far ls=some r):goF R z g s far ls=some r:=by
 induction h with
 |refl=>exact e
 |step _ a=>exact ku a
theorem lU{s:As}{t:Res}(b:goF R z f s far ls=some r)(a:goF R z g s far ls=some t):r=t:=
 aaj ((yY (Nat.le_max_left f g) b).symm.trans (yY (Nat.le_max_right f g) a))
def iQ(R:Rls)(zs:List Str):Prop:=∀n w p,R n=.comp w p->w ≠ "signs" /\ 1<=p.length/\p.length<=8/\∀x∈p,x∈zs
structure AsOk(R:Rls)(z:Str)(zs:List Str)(s:As):Prop where
 fm:s.fm=R s.n
 nz:s.n∈zs
 kt:s.k<=s.t
 tz:s.t<=z.length
 tn:s.dn=false->∃w p,s.fm=.comp w p/\s.tn<p.length
 t8:s.tn<=8
 st:s.st.length<=(s.t - s.k)+s.tn+(if s.dn=true then 1 else 0)
 ln:∀l,s.dn=true->s.ln=some l->s.k+l<=z.length
theorem uD(a:k<=z.length)(e:eA l z k=some m):k+m<=z.length:=by
 unfold eA at e
 cases h:mG l z k with
 |none=>rw[h] at e;cases e
 | some i=>
  rw[h] at e;cases e;unfold mG at h;split at h
  ·cases h
  ·cases h;exact a
  ·split at h
   ·cases h;show k+1<=_;nofun
   ·cases h
  ·split at h
   ·rename_i c b;have:k<z.length:=by rw[hX];exact(List.getElem?_eq_some_iff.mp b).1
    split at h
    ·cases h;show k+1<=_;nofun
    ·cases h
   ·cases h
theorem jN(h:iQ R zs)(b:n∈zs)(a:k<=z.length):AsOk R z zs (e8 R z n k):=by
 unfold e8
 cases e:R n with
 |leaf l=>exact⟨e.symm,b,aac _,a,(λz=>nomatch z),aan _,aan _,λm _ q=>uD a q⟩
 |comp w p=>exact⟨e.symm,b,aac _,a,λ_=>⟨w,p,rfl,(h n w p e).2.1⟩,aan _,aan _,λm z=>nomatch z⟩
theorem cj :(e8 R z n k).n=n/\(e8 R z n k).k=k/\(e8 R z n k).st=[]:=by
 unfold e8;cases R n <;> exact⟨rfl,rfl,rfl⟩
theorem iR(w:Str)(p:List Str)(s:As)(x:Option Nat):∃t tn dn ln,bU w p s x=⟨s.fm,s.n,s.k,t,tn,s.st++[ak p s],dn,ln⟩ /\
    ((dn=true/\(t=s.t∨∃l,x=some l/\t=s.t+l)/\(tn=s.tn∨tn=s.tn+1)/\(∀m,ln=some m->m=0∨m<=t - s.k∨x=some m)) ∨
     (dn=s.dn/\((∃l,x=some l/\t=s.t+l/\tn=s.tn+1/\tn≠p.length)∨(t=s.t/\tn=s.tn+1/\tn≠p.length)∨∃l,x=some l/\0<l/\t=s.t+l/\tn=s.tn))):=by
  by_cases h1:w = "row"
  · rw[show bU w p s x=yR p { s with st:=s.st++[ak p s] } x from if_pos h1]
    cases x with
    |none=>exact⟨_,_,_,_,rfl,.inl ⟨rfl,.inl rfl,.inl rfl,λm z=>nomatch z⟩⟩
    | some l=>
      by_cases h:s.tn+1=p.length
      · rw[show yR p { s with st:=s.st++[ak p s] } (some l)=⟨s.fm,s.n,s.k,s.t+l,s.tn+1,s.st++[ak p s],true,some (s.t+l - s.k)⟩ from if_pos h]
        exact⟨_,_,_,_,rfl,.inl ⟨rfl,.inr ⟨l,rfl,rfl⟩,.inr rfl,λm z=>.inr (.inl (by cases z;exact aac _))⟩⟩
      · rw[show yR p { s with st:=s.st++[ak p s] } (some l)=⟨s.fm,s.n,s.k,s.t+l,s.tn+1,s.st++[ak p s],s.dn,s.ln⟩ from if_neg h]
        exact⟨_,_,_,_,rfl,.inr ⟨rfl,.inl ⟨l,rfl,rfl,rfl,h⟩⟩⟩
  by_cases h2:w = "first"
  · rw[show bU w p s x=eP p { s with st:=s.st++[ak p s] } x from (if_neg h1).trans (if_pos h2)]
    by_cases h:x≠none∨s.tn+1=p.length
    · rw[show eP p { s with st:=s.st++[ak p s] } x=⟨s.fm,s.n,s.k,s.t,s.tn+1,s.st++[ak p s],true,x⟩ from if_pos h]
      exact⟨_,_,_,_,rfl,.inl ⟨rfl,.inl rfl,.inr rfl,λm z=>.inr (.inr z)⟩⟩
    · rw[show eP p { s with st:=s.st++[ak p s] } x=⟨s.fm,s.n,s.k,s.t,s.tn+1,s.st++[ak p s],s.dn,s.ln⟩ from if_neg h]
      exact⟨_,_,_,_,rfl,.inr ⟨rfl,.inr (.inl ⟨rfl,rfl,λz=>h (.inr z)⟩)⟩⟩
  by_cases a:w = "again"
  · rw[show bU w p s x=fA { s with st:=s.st++[ak p s] } x from (if_neg h1).trans ((if_neg h2).trans (if_pos a))]
    by_cases h:x=none∨x=some 0
    · rw[show fA { s with st:=s.st++[ak p s] } x=⟨s.fm,s.n,s.k,s.t,s.tn,s.st++[ak p s],true,some (s.t - s.k)⟩ from if_pos h]
      exact⟨_,_,_,_,rfl,.inl ⟨rfl,.inl rfl,.inl rfl,λm z=>.inr (.inl (by cases z;exact aac _))⟩⟩
    · rw[show fA { s with st:=s.st++[ak p s] } x=⟨s.fm,s.n,s.k,s.t+x.getD 0,s.tn,s.st++[ak p s],s.dn,s.ln⟩ from if_neg h]
      cases x with
      |none=>exact absurd (.inl rfl) h
      |some l=>exact⟨_,_,_,_,rfl,.inr ⟨rfl,.inr (.inr ⟨l,rfl,Nat.pos_of_ne_zero λz=>h (.inr (by rw[z])),rfl,rfl⟩)⟩⟩
  suffices fin:∃y:Option Nat,(∀m,y=some m->m=0)/\bU w p s x=kS { s with st:=s.st++[ak p s] } y by
    obtain⟨y,c,e⟩:=fin;rw[e];exact⟨_,_,_,_,rfl,.inl ⟨rfl,.inl rfl,.inl rfl,λm z=>.inl (c m z)⟩⟩
  by_cases b:w = "ahead"
  · refine⟨if x=none then none else some 0,λm z=>?_,(if_neg h1).trans ((if_neg h2).trans ((if_neg a).trans (if_pos b)))⟩
    split at z
    · cases z
    · cases z;rfl
  · refine⟨if x=none then some 0 else none,λm z=>?_,(if_neg h1).trans ((if_neg h2).trans ((if_neg a).trans (if_neg b)))⟩
    split at z
    · cases z;rfl
    · cases z
theorem kx{s:As}(k:iQ R zs)(O:AsOk R z zs s)(hd:s.dn=false)(f:s.fm=.comp w p)(hx:∀l,x=some l->s.t+l<=z.length):AsOk R z zs (bU w p s x):=by
 have A:=(k s.n w p (O.fm.symm.trans f)).2.2.1;obtain⟨r,u,b,v⟩:=O.tn hd;rw[f] at b;cases b;have h1:=O.kt;have h2:=O.tz;have m:=O.st;rw[hd,if_neg (by decide)] at m;obtain⟨t,tn,dn,ln,e,c⟩:=iR w p s x;rw[e];have j:(s.st++[ak p s]).length=s.st.length+1:=by rw[abH];rfl
 rcases c with ⟨rfl,a,i,d⟩|⟨rfl,c⟩
 ·have g1:s.t<=t/\t<=z.length:=by
   rcases a with a|⟨l,a,g⟩
   ·nofun
   ·have:=hx l a;nofun
  clear a;refine⟨O.fm,O.nz,by show s.k<=t;nofun,g1.2,(λz=>nomatch z),by show tn<=8;nofun,?_,λl _ q=>?_⟩
  ·show (s.st++[ak p s]).length<=(t - s.k)+tn+(if true=true then 1 else 0);rw[j,if_pos rfl];nofun
  ·show s.k+l<=z.length;rcases d l q with y|y|y
   ·nofun
   ·nofun
   ·have:=hx l y;nofun
 ·have mk:s.t<=t->t<=z.length->tn<p.length->s.st.length+1<=(t - s.k)+tn->AsOk R z zs ⟨s.fm,s.n,s.k,t,tn,s.st++[ak p s],s.dn,ln⟩:=λC o n B=>by
   refine⟨O.fm,O.nz,by show s.k<=t;nofun,o,λ_=>⟨w,p,f,n⟩,by show tn<=8;nofun,?_,λl q=>?_⟩
   ·show (s.st++[ak p s]).length<=(t - s.k)+tn+(if s.dn=true then 1 else 0);rw[j,hd,if_neg (by decide)];nofun
   ·exact absurd (hd.symm.trans q) (by decide)
  rcases c with ⟨l,a,i,d,g⟩|⟨i,d,g⟩|⟨l,a,i,d,g⟩
  ·have:=hx l a;exact mk (by nofun) (by nofun) (by nofun) (by nofun)
  ·exact mk (by nofun) (by nofun) (by nofun) (by nofun)
  ·have:=hx l a;exact mk (by nofun) (by nofun) (by nofun) (by nofun)
theorem ky:∀{ms ls:List Str},ls.Nodup->(m9 ls ms).Nodup
 |[],_,h=>h
 | m::ms,ls,h=>by
  refine ky (ms:=ms) ?_;split
  ·exact h
  ·rename_i c;exact abP.mpr ⟨h,by simp,λa e b d z=>c (by rw[← List.mem_singleton.mp d,← z];exact e)⟩
theorem ic:∀{ms ls:List Str} {x:Str},x∈m9 ls ms↔x∈ls∨x∈ms
 |[],ls,x=>by show x∈ls↔_;simp
 | m::ms,ls,x=>by
  show x∈m9 (if m∈ls then ls else ls++[m]) ms↔_;rw[ic (ms:=ms)];split
  ·rename_i a;simp only[List.mem_cons];constructor
   ·rintro (h|h)
    ·exact .inl h
    ·exact .inr (.inr h)
   ·rintro (h|h|h)
    ·exact .inl h
    ·exact .inl (h ▸ a)
    ·exact .inr h
  ·simp only[List.mem_append,List.mem_cons,List.not_mem_nil,or_false,or_assoc]
structure ResOk(z:Str)(zs:List Str)(k:Nat)(r:Res):Prop where
 ln:∀l,r.ln=some l->k+l<=z.length
 kf:k<=r.far
 fz:r.far<=z.length
 nd:r.ls.Nodup
 sub:∀x∈r.ls,x∈zs
theorem EW(c:iQ R zs):∀{f:Nat} {s:As} {far:Nat} {ls:List Str} {r:Res},AsOk R z zs s->s.k<=far->far<=z.length->ls.Nodup->(∀x∈ls,x∈zs)->goF R z f s far ls=some r->ResOk z zs s.k r
 |0,_,_,_,_,_,_,_,_,_,e=>nomatch e
 | f+1,s,far,ls,r,O,h1,h2,j,i,e=>by
  cases h:s.dn with
  | true=>
   rw[qO h] at e;cases e;exact⟨λl q=>O.ln l h q,h1,h2,j,i⟩
  | false=>
   obtain⟨w,p,t,d,n,o⟩:=nb h e;obtain⟨u,v,b,a⟩:=O.tn h;rw[d] at b;cases b
   have g:(ak p s).1∈zs:=by
    refine(c s.n w p (O.fm.symm.trans d)).2.2.2 _ ?_;show p.getD s.tn "" ∈ p;rw[List.getD_eq_getElem?_getD,List.getElem?_eq_getElem a];exact aaR a
   have T:=EW c (jN c g O.tz) (by rw[cj.2.1];exact aac _) O.tz (by simp) (by exists g) n;rw[cj.2.1] at T;have q:=iR w p s t.ln
   have k:(bU w p s t.ln).k=s.k:=by
    obtain⟨_,_,_,_,q,_⟩:=q;rw[q]
   have:=EW c (kx c O h d λl q=>T.ln l q) (by rw[k];nofun) (by have:=T.fz;nofun) (ky j) (λx m=>(ic.mp m).elim (i x) (T.sub x)) o;rw[k] at this;exact this
theorem Jv(c:iQ R zs)(a:n∈zs)(b:k<=z.length)(e:rdF R z f n k=some r):ResOk z zs k r:=by
 have:=EW c (jN c a b) (by rw[cj.2.1];exact aac _) b (by simp) (by exists a) e
 rwa [cj.2.1] at this
def fZ(R:Rls)(z:Str):Nat->As->As
 |0,s=>s
 | f+1,s=>if s.dn=true then s else match s.fm with
  |.leaf _=>s
  | .comp w p=>match rdF R z f (ak p s).1 (ak p s).2 with
   |none=>s
   |some t=>fZ R z f (bU w p s t.ln)
theorem lV{s:As}(h:s.dn=true):fZ R z f s=s:=by
 cases f with
 |zero=>rfl
 |succ f=>exact if_pos h
theorem lW{s:As}{t:Res}(h:s.dn=false)(b:s.fm=.comp w p)(a:rdF R z f (ak p s).1 (ak p s).2=some t):fZ R z (f+1) s=fZ R z f (bU w p s t.ln):=by
 rw[fZ,if_neg (by rw[h];decide),b];simp only;rw[a]
theorem oN:∀{f:Nat} {s:As} {far:Nat} {ls:List Str} {r:Res},goF R z f s far ls=some r->fZ R z (f+1) s=fZ R z f s
 |0,_,_,_,_,e=>nomatch e
 | f+1,s,far,ls,r,e=>by
  cases h:s.dn with
  |true=>rw [lV h,lV h]
  | false=>
   obtain⟨w,p,t,b,a,c⟩:=nb h e;rw[lW h b (ku a),lW h b a];exact oN c
theorem AM{s:As}(h:f<=g)(e:goF R z f s far ls=some r):fZ R z g s=fZ R z f s:=by
 induction h with
 |refl=>rfl
 |step h a=>rw[oN (yY h e),a]
theorem Jw{s:As}{a:Nat}{b:List Str}{t:Res}(d:goF R z f s far ls=some r)(c:goF R z g s a b=some t):fZ R z f s=fZ R z g s:=by
 rw[← AM (Nat.le_max_left f g) d,← AM (Nat.le_max_right f g) c]
theorem AN:∀{f:Nat} {s:As} {q:Sp2},q∈s.st->q∈(fZ R z f s).st
 |0,_,_,h=>h
 | f+1,s,q,h=>by
  unfold fZ;split
  ·exact h
  ·split
   ·exact h
   ·rename_i w p _;split
    ·exact h
    ·rename_i t _;refine AN ?_;obtain⟨_,_,_,_,e,_⟩:=iR w p s t.ln;rw[e];exact aav _ h
theorem EX{s:As}(c:iQ R zs)(O:AsOk R z zs s)(b:s.fm=.comp w p)(a:s.tn<p.length):(ak p s).1∈zs:=by
 refine(c s.n w p (O.fm.symm.trans b)).2.2.2 _ ?_;show p.getD s.tn "" ∈ p;rw[List.getD_eq_getElem?_getD,List.getElem?_eq_getElem a];exact aaR a
theorem AO(c:iQ R zs):∀{f:Nat} {s:As},AsOk R z zs s->AsOk R z zs (fZ R z f s)
 |0,_,h=>h
 | f+1,s,O=>by
  unfold fZ;split
  ·exact O
  ·rename_i hd;have b:s.dn=false:=abX.mpr hd;split
   ·exact O
   ·rename_i w p e;split
    ·exact O
    ·rename_i t g;obtain⟨i,j,a,d⟩:=O.tn b;rw[e] at a;cases a;exact AO c (kx c O b e λl q=>(Jv c (EX c O e d) O.tz g).ln l q)
def kT(R:Rls)(z:Str)(f:Nat)(q:Sp2):List Sp2:=(fZ R z f (e8 R z q.1 q.2)).st
abbrev Kp:=List (Sp2×Res)
variable{K es:Kp}
def nc(s:Sp2):List Key:=[.inr s.1,.inl s.2]
def lsD(ls:List Str):D:=.dct (ls.map .inr) (ls.map λ_=>.bl true)
def yZ(k:Nat)(t:Res):D:=.tup [ib t.ln,.int ((t.far:Int) - (k:Int)+1),lsD t.ls]
abbrev kU(K:Kp):List (List Key):=K.map λe=>nc e.1
abbrev lX(K:Kp):List D:=K.map λe=>yZ e.1.2 e.2
theorem kz{s t:Sp2}(h:nc s=nc t):s=t:=by
 obtain⟨a,b⟩:=s;obtain⟨c,d⟩:=t;have h1:=List.cons.inj h;have h2:=List.cons.inj h1.2;have f:a=c:=aa9 h1.1;have e:(b:Int)=(d:Int):=Sum.inl.inj h2.1;rw[f,Int.ofNat.inj e]
theorem kA{s:Sp2}:tK (kU K) (nc s)=true↔s∈K.map (·.1):=by
 unfold tK;rw[aa0];constructor
 ·rintro⟨x,b,h⟩;obtain⟨e,a,rfl⟩:=abJ.mp b;exact abJ.mpr ⟨e,a,kz (of_decide_eq_true h)⟩
 ·intro h;obtain⟨e,a,rfl⟩:=abJ.mp h;exact⟨_,abJ.mpr ⟨e,a,rfl⟩,decide_eq_true rfl⟩
theorem iS:∀{K:Kp} {e:Sp2×Res},(K.map (·.1)).Nodup->e∈K->jl (kU K) (lX K) (nc e.1)=some (yZ e.1.2 e.2)
 |[],_,_,h=>nomatch h
 | x::K,e,nd,h=>by
  have a:=abL.mp nd;unfold jl kU lX;rw[abG,abG,ab1,List.find?_cons];rcases abI.mp h with q|q
  ·rw[q];simp
  ·have:decide (nc x.1=nc e.1)=false:=decide_eq_false λz=>a.1 (abJ.mpr ⟨e,q,(kz z).symm⟩);simp only[this];exact iS a.2 q
def fJ(k:Nat)(es:Kp):Nat:=es.foldl (λm e=>max m e.2.far) k
def lY(ls:List Str)(es:Kp):List Str:=es.foldl (λl e=>m9 l e.2.ls) ls
theorem kB{ks:List (List Key)}{k:List Key}(h:jl ks ds k=some d)(q:Q d):match jl ks ds k with
  |some d=>Q d
  |none=>False:=by rw [h];exact q
theorem qP(h:es[i]?=some e):fJ k (es.take (i+1))=max (fJ k (es.take i)) e.2.far:=by
 unfold fJ;rw[aap,h,abf];rfl
theorem uE(h:es[i]?=some e):lY ls (es.take (i+1))=m9 (lY ls (es.take i)) e.2.ls:=by
 unfold lY;rw[aap,h,abf];rfl
theorem uF:∀{ms ls:List Str},EC (ls.map Sum.inr) (ls.map λ_=>D.bl true) (ms.map Sum.inr) (ms.map λ_=>D.bl true)=((m9 ls ms).map Sum.inr,(m9 ls ms).map λ_=>D.bl true)
 |[],ls=>rfl
 | m::ms,ls=>by
  have e:gH (ls.map Sum.inr) (ls.map λ_=>D.bl true) (Sum.inr m) (.bl true)=((if m∈ls then ls else ls++[m]).map Sum.inr,(if m∈ls then ls else ls++[m]).map λ_=>D.bl true):=by
   have b:((ls.map Sum.inr:List Key).any λx=>decide (x=Sum.inr m))=true↔m∈ls:=by
    rw[aa0];constructor
    ·rintro⟨x,f,h⟩;obtain⟨y,d,rfl⟩:=abJ.mp f;exact aa9 (of_decide_eq_true h) ▸ d
    ·intro h;exact⟨_,abJ.mpr ⟨m,h,rfl⟩,decide_eq_true rfl⟩
   unfold gH;by_cases h:m∈ls
   ·rw[if_pos (b.mpr h),if_pos h]
    congr 1
    clear b h
    induction ls with
    |nil=>rfl
    | cons a ls c=>
     simp only[List.map_cons,List.zip_cons_cons];rw[c]
     congr 1
     split <;> rfl
   ·rw[if_neg (λz=>h (b.mp z)),if_neg h,aad,aad];rfl
  show EC (gH (ls.map Sum.inr) (ls.map λ_=>D.bl true) (Sum.inr m) (.bl true)).1 (gH (ls.map Sum.inr) (ls.map λ_=>D.bl true) (Sum.inr m) (.bl true)).2 (ms.map Sum.inr) (ms.map λ_=>D.bl true)=_;rw[e];exact uF
@[irreducible] def fK:Ct:=λos P=>∃(a b:Addr) (s:As) (K es:Kp) (m:Nat),os=[.ob (asA a b s),.ft (kU K) (lX K)]/\(K.map (·.1)).Nodup/\s.st=es.map (·.1)/\(∀e∈es,e∈K/\e.1.2<=e.2.far)/\(∀i,(lY [s.n] (es.take i)).length<=m)/\(∀e∈es,e.2.ls.length<=m)/\m+m<=sizeLine /\
 P (.fz (yZ s.k ⟨s.ln,fJ s.k es,lY [s.n] es⟩)) [.ob ⟨a,0,[.fz (rlD s.fm),.fz (.str s.n),.fz (.int s.k),.fz (.int s.t),.fz (.int s.tn),.fz (.lst (s.st.map bt)),.fz (.bl s.dn),.fz (ib s.ln)]⟩,.ft (kU K) (lX K)]
abbrev uG:Stmt:=top 40
abbrev EY:FS:=
  (al (bO (gX 0 0 2) (ac 2))
  (al (b7 3 (AH (gX 0 0 1) (fC (.bl true))))
  (al (qq (cE (yg 0 0 5)) (ac 4)
   (al (bO (fOp aIx (ab 1) (ab 4)) (qp 3 (da (ac 5) (da (ac 6) (da (ac 7) qo)))))
  (al (bO (fCB Ma (aa (ab 2) (aa (fOp (aI0 λi j=>.int (i - j)) (fOp b6 (fOp aIx (ab 4) (fC (.int 1))) (ab 6)) (fC (.int 1))) ae))) (ac 2))
  (bN (Nk 3 (ab 7))))))
  (bh (c6 (aa (gX 0 0 7) (aa (fOp b6 (fOp (aI0 λi j=>.int (i - j)) (ab 2) (gX 0 0 2)) (fC (.int 1))) (aa (ab 3) ae))))))))
theorem EZ:Hh fK EY [0,1] 8:=by
 intro os P h;unfold fK at h;obtain⟨a,b,s,K,es,m,rfl,nd,f,u,g,r,z,q⟩:=h;obtain⟨fm,n,k,t,tn,st,dn,ln⟩:=s;simp only at f g;subst f;have sz:=bG;ext;rw[aat];refine bL (λi ρ=>∃p o l j:Option OV,ρ=[some (.ob ⟨a,0,[.fz (rlD fm),.fz (.str n),.fz (.int k),.fz (.int t),.fz (.int tn),.fz (.lst (es.map (bt ∘ λx=>x.1))),.fz (.bl dn),.fz (ib ln)]⟩),some (.ft (kU K) (lX K)),some (.fz (.int (fJ k (es.take i)))),some (.fd ((lY [n] (es.take i)).map Sum.inr) ((lY [n] (es.take i)).map λ_=>.bl true)),p,o,l,j]) ⟨none,none,none,none,?_⟩ ?_ ?_
 ·rfl
 ·rintro i d ρ R hd ⟨p,o,l,j,rfl⟩ v;rw[List.getElem?_map] at hd
  cases c:es[i]? with
  |none=>rw [c] at hd;cases hd
  | some e=>
   rw[c] at hd;cases hd;have w:=u e (List.mem_of_getElem? c);have h1:=g i;have h2:=r e (List.mem_of_getElem? c);ext;refine kB (iS nd w.1) ?_;ext;refine⟨rfl,?_⟩;ext;refine⟨rfl,?_⟩;ext;rw[abD,abD];refine⟨by nofun,?_⟩;rw[uF,← uE c]
   have y:(if ((e.1.2:Int)+((e.2.far:Int) - (e.1.2:Int)+1) - 1) > (fJ k (es.take i):Int) then ((e.1.2:Int)+((e.2.far:Int) - (e.1.2:Int)+1) - 1) else (fJ k (es.take i):Int))=((fJ k (es.take (i+1)):Nat):Int):=by
    rw[qP c];split <;> nofun
   refine v _ ⟨some (.fz (bt e.1)),some (.fz (ib e.2.ln)),some (.fz (.int ((e.2.far:Int) - (e.1.2:Int)+1))),some (.fz (lsD e.2.ls)),?_⟩;rw[← y];rfl
 ·rintro ρ ⟨p,o,l,j,rfl⟩;rw[abD,aai (aac _)];ext;refine⟨(by rw[sizeLine_eq];exact(by decide:(3:Nat)<=16777216)),?_⟩;ext;rw[aat] at q;exact q
theorem y0{b:Addr}{s:As}(nd:(K.map (·.1)).Nodup)(h1:s.st=es.map (·.1))(h2:∀e∈es,e∈K/\e.1.2<=e.2.far)(f:∀i,(lY [s.n] (es.take i)).length<=m)(d:∀e∈es,e.2.ls.length<=m)(c:m+m<=sizeLine)
  (h:P (.fz (yZ s.k ⟨s.ln,fJ s.k es,lY [s.n] es⟩)) [.ob ⟨a,0,[.fz (rlD s.fm),.fz (.str s.n),.fz (.int s.k),.fz (.int s.t),.fz (.int s.tn),.fz (.lst (s.st.map bt)),.fz (.bl s.dn),.fz (ib s.ln)]⟩,.ft (kU K) (lX K)]):fK [.ob (asA a b s),.ft (kU K) (lX K)] P:=by
 unfold fK;exact⟨a,b,s,K,es,m,rfl,nd,h1,h2,f,d,c,h⟩
def Tf:Nat->Nat
 |0=>0
 |f+1=>2*Tf f+3
theorem E1(h:f<=g):Tf f<=Tf g:=by
 induction h with
 |refl=>exact aac _
 | @step m _ a=>
  show Tf f<=2*Tf m+3;nofun
structure Lst(R:Rls)(z:Str)(q:Sp2)(g:Nat)(r:Res):Prop where
 rd:rdF R z g q.1 q.2=some r
 lo:∀f t,rdF R z f q.1 q.2=some t->g<=f
theorem AQ:∀{f:Nat} {q:Sp2} {r:Res},rdF R z f q.1 q.2=some r->∃g,g<=f/\Lst R z q g r:=by
 intro f
 induction f with
 |zero=>intro q r e;cases e
 | succ f a=>
  intro q r e
  cases h:rdF R z f q.1 q.2 with
  | some t=>
   obtain⟨g,c,L⟩:=a h;have:t=r:=lU h e;exact⟨g,by nofun,this ▸ L⟩
  | none=>
   refine⟨f+1,aac _,e,λb t h'=>?_⟩
   cases Nat.lt_or_ge f b with
   |inl y=>exact y
   |inr y=>rw[show rdF R z f q.1 q.2=some t from yY y h'] at h;cases h
theorem Jx(L:Lst R z q g r)(a:Lst R z q g' r'):g=g':=by
 have:=L.lo _ _ a.rd;have:=a.lo _ _ L.rd;nofun
structure KpOk(R:Rls)(z:Str)(zs:List Str)(K:Kp):Prop where
 nd:(K.map (·.1)).Nodup
 ok:∀e∈K,e.1.1∈zs/\e.1.2<=z.length/\∃f,rdF R z f e.1.1 e.1.2=some e.2
 cl:∀e∈K,∀f,rdF R z f e.1.1 e.1.2=some e.2->∀q∈kT R z f e.1,q∈K.map (·.1)
theorem KpOk.res(O:KpOk R z zs K)(a:iQ R zs)(h:e∈K):ResOk z zs e.1.2 e.2:=by
 obtain⟨h1,h2,f,b⟩:=O.ok e h;exact Jv a h1 h2 b
theorem oO(m:Nat):∀zs:List Str,(zs.flatMap λn=>(List.range m).map λk=>(n,k)).length=zs.length*m
 |[]=>by simp
 |n::zs=>by rw[List.flatMap_cons,abH,oO m zs,abD,abT,abM,Nat.succ_mul,Nat.add_comm]
theorem KpOk.len(O:KpOk R z zs K):K.length<=zs.length*(z.length+1):=by
 have h:(K.map (·.1)).length<=(zs.flatMap λn=>(List.range (z.length+1)).map λk=>(n,k)).length:=by
  refine aax O.nd λq a=>?_;obtain⟨e,b,rfl⟩:=abJ.mp a;obtain⟨h1,h2,_⟩:=O.ok e b;exact List.mem_flatMap.mpr ⟨e.1.1,h1,abJ.mpr ⟨e.1.2,ab0.mpr (by nofun),rfl⟩⟩
 rw[abD] at h;rw[oO] at h;exact h
structure Frm(R:Rls)(z:Str)(zs:List Str)(K:Kp)(s:As)(f g far:Nat)(ls:List Str)(r:Res):Prop where
 go:goF R z f s far ls=some r
 ok:AsOk R z zs s
 acc:∃es:Kp,s.st=es.map (·.1)/\(∀e∈es,e∈K)/\far=fJ s.k es/\ls=lY [s.n] es
 lst:Lst R z (s.n,s.k) g r
 fg:f<=g
 nw:(s.n,s.k)∉K.map (·.1)
 en:fZ R z f s=fZ R z g (e8 R z s.n s.k)
inductive Wait(R:Rls)(z:Str)(zs:List Str)(K:Kp)(root:Sp2)(G:Nat):Sp2->Nat->List As->Nat->Prop where
 |nil {g:Nat}:g<=G->Wait R z zs K root G root g [] 0
 |cons {s:As} {f g gs far m:Nat} {ls:List Str} {r:Res} {w:Str} {p:List Str} {rest:List As}:Frm R z zs K s (f+1) gs far ls r->s.dn=false->s.fm=.comp w p->g<=f->Wait R z zs K root G (s.n,s.k) gs rest m->Wait R z zs K root G (ak p s) g (s::rest) (Tf f+2+m)
theorem Wait.len{l:List As}(h:Wait R z zs K root G q g l m):l.length+g<=G:=by
 induction h with
 |nil h=>rw[List.length_nil];nofun
 |cons F _ _ b _ a=>have:=F.fg;rw[abM];nofun
theorem Frm.more{s:As}(F:Frm R z zs K s f g far ls r)(h:e.1≠(s.n,s.k)):Frm R z zs (K++[e]) s f g far ls r:=by
 obtain⟨es,h1,h2,b⟩:=F.acc;refine⟨F.go,F.ok,⟨es,h1,λx a=>aav _ (h2 x a),b⟩,F.lst,F.fg,λy=>?_,F.en⟩;rw[aad] at y;rcases abE.mp y with y|y
 ·exact F.nw y
 ·exact h (abF.mp y).symm
theorem Wait.more{l:List As}(L:Lst R z e.1 g' r')(h:Wait R z zs K root G q g l m):g'<=g->Wait R z zs (K++[e]) root G q g l m:=by
 induction h with
 |nil h=>exact λ_=>.nil h
 | cons F hd d c _ a=>
  intro b;have:=F.fg;refine .cons (F.more λy=>?_) hd d c (a (by nofun));have:=Jx (y ▸ L) F.lst;nofun
theorem uH{zs:List Str}:∀{es:Kp} {ls:List Str},ls.Nodup->(∀x∈ls,x∈zs)->(∀e∈es,∀x∈e.2.ls,x∈zs)->(lY ls es).Nodup/\∀x∈lY ls es,x∈zs
 |[],_,h1,h2,_=>⟨h1,h2⟩
 |e::es,ls,h1,h2,a=>uH (es:=es) (ls:=m9 ls e.2.ls) (ky h1) (λx b=>(ic.mp b).elim (h2 x) (a e (aab ..) x)) λd c=>a d (aae _ c)
theorem uI :fJ k (es++[e])=max (fJ k es) e.2.far:=by unfold fJ;rw[abf];rfl
theorem y4 :lY ls (es++[e])=m9 (lY ls es) e.2.ls:=by unfold lY;rw[abf];rfl
theorem Frm.take{s:As}(m:iQ R zs)(n:KpOk R z zs K)(F:Frm R z zs K s (f+1) g far ls r)(hd:s.dn=false)(d:s.fm=.comp w p)(i:e∈K)(j:e.1=ak p s) :
  Frm R z zs K (bU w p s e.2.ln) f g (max far e.2.far) (m9 ls e.2.ls) r/\(bU w p s e.2.ln).n=s.n/\(bU w p s e.2.ln).k=s.k:=by
 obtain⟨D,E,t,b,k,a⟩:=nb hd F.go;rw[d] at b;cases b;obtain⟨_,_,G,c⟩:=n.ok e i;rw[j] at c;have B:t=e.2:=lU k c;subst B;have T:=n.res m i
 have ok:=kx (x:=e.2.ln) m F.ok hd d λl q=>by
  have:=T.ln l q;rw[j] at this;exact this
 obtain⟨es,h1,h2,c,A⟩:=F.acc;obtain⟨t',o,C,u,q,_⟩:=iR w p s e.2.ln;have en:=F.en;rw[lW hd d k] at en;rw[q] at ok a en ⊢;exact⟨⟨a,ok,⟨es++[e],by rw[aad,h1,← j];rfl,λx v=>(abE.mp v).elim (h2 x) λy=>by rw[abF.mp y];exact i,by rw[uI,c],by rw[y4,A]⟩,F.lst,by have:=F.fg;nofun,F.nw,en⟩,rfl,rfl⟩
def Mu(R:Rls)(z:Str)(zs:List Str)(K:Kp)(root:Sp2)(G:Nat)(ss:List (Addr×Addr×As))(m:Nat):Prop:=(ss=[]/\root∈K.map (·.1)) ∨
 ∃a b s rest f g far ls r c mw,ss=(a,b,s)::rest/\Frm R z zs K s f g far ls r/\Wait R z zs K root G (s.n,s.k) g (rest.map (·.2.2)) mw/\(Tf f<=c∨∃d w p,f=d+1/\s.dn=false/\s.fm=.comp w p/\ak p s∈K.map (·.1)/\Tf d+1<=c)/\c+mw<=m
theorem Wait.stk{ss:List (Addr×Addr×As)}(h:Wait R z zs K root G q g (ss.map (·.2.2)) m)(c:q∈K.map (·.1)):Mu R z zs K root G ss m:=by
 cases ss with
 |nil=>cases h;exact .inl ⟨rfl,c⟩
 | cons t ss=>
  obtain⟨a,b,s⟩:=t
  cases h with
  |@cons _ f g gs far m ls r w p rest F hd d e W=>exact .inr ⟨a,b,s,ss,f+1,gs,far,ls,r,Tf f+2,m,rfl,F,W,.inr ⟨f,w,p,rfl,hd,d,c,by nofun⟩,aac _⟩
theorem y6(h:e.1∉K.map (·.1)):ug (kU K) (lX K) (nc e.1) (yZ e.1.2 e.2)=(kU (K++[e]),lX (K++[e])):=by
 unfold ug;rw[if_neg (λy=>h (kA.mp y))];unfold kU lX;rw[aad,aad];rfl
def gK(ks:List Key)(ds:List D)(R:Rls):Prop:=∀n,(iJ ks ds (.inr n)).getD .non=rlD (R n)
structure MkOk(R:Rls)(z:Str)(zs:List Str)(n:Str)(k f:Nat):Prop where
 r:iQ R zs
 n:n∈zs
 k:k<=z.length
 l:z.length+20<=sizeLine
 s:zs.length*(z.length+1)<sizeLine
 m:zs.length+zs.length<=sizeLine
 f:f<sizeLine
abbrev cJ(ks:List Key)(ds:List D):OV:=.fz (.dct ks ds)
abbrev ng(K:Kp):OV:=.ft (kU K) (lX K)
@[irreducible] def iT:Ct:=λos P=>∃(ks:List Key) (ds:List D) (R:Rls) (z n:Str) (zs:List Str) (k f:Nat) (K:Kp) (r:Res),os=[cJ ks ds,.fz (.str z),ng K,.fz (.str n),.fz (.int k)]/\gK ks ds R/\MkOk R z zs n k f/\KpOk R z zs K/\rdF R z f n k=some r /\
 ∀K':Kp,KpOk R z zs (K++K')->((n,k),r)∈K++K'->P (.fl (K'.map λe=>bt e.1)) [cJ ks ds,.fz (.str z),ng (K++K'),.fz (.str n),.fz (.int k)]
theorem iU(g:gK ks ds R)(f:iQ R zs)(d:k<=z.length)(c:z.length<=sizeLine)
  (h:∀a b,P (.ob (asA a b (e8 R z n k))) [.fz (.dct ks ds),.fz (.str z),.fz (.str n),.fz (.int k)]):dP [.fz (.dct ks ds),.fz (.str z),.fz (.str n),.fz (.int k)] P:=by
 have e:=g n;unfold dP;refine⟨ks,ds,z,n,k,rfl,d,c,?_⟩;unfold e8 at h
 cases hr:R n with
 | leaf l=>
  rw[hr] at e h;exact .inl ⟨l,e,λa b=>by rw[ET];exact h a b⟩
 | comp w p=>
  rw[hr] at e h;obtain⟨h1,h2,i,_⟩:=f n w p hr;exact .inr ⟨w,p,e,h1,λy=>by rw[y] at h2;simp at h2,i,h⟩
abbrev AR:Stmt:=top 41
abbrev Jy:FS:=
  (al (b7 5 (hV ae))
  (al (fIf (au (fOp aIn (c6 (aa (ab 3) (aa (ab 4) ae))) (ab 2)))
   (bh (ab 5))
   aP)
  (al (b7 6 (Jb (ah dP (aa (fFz (ab 0)) (aa (fFz (ab 1)) (aa (fFz (ab 3)) (aa (fFz (ab 4)) ae)))))))
  (al (fT (au (fOp (gU (λi j=>decide (j<i)) λi j=>aU j i) (yh 6) (fC (.int 0))))
   (Jc 6 7 (al (ua 6 7 (b7 7 (oA 6)))
  (al (fIf (HU (gX 0 7 6))
   (al (uk 2 (ah fK (aa (ab 7) (aa (ab 2) ae))) (c6 (aa (gX 0 7 1) (aa (gX 0 7 2) ae))))
  (al (bN (v9 5 (c6 (aa (gX 0 7 1) (aa (gX 0 7 2) ae)))))
  (al (bN (Ek 6))
  Ik)))
   aP)
  (al (bO (eh "wanted" 0 7 aW ae) (ac 8))
  (fIf (au (fOp aIn (ab 8) (ab 2)))
   (bN (eh "take" 0 7 bF (aa (fFz (fOp aIx (fOp aIx (ab 2) (ab 8)) (fC (.int 0)))) ae)))
   (ua 6 7 (bN (yj 6 (ah dP (aa (fFz (ab 0)) (aa (fFz (ab 1)) (aa (fFz (fOp aIx (ab 8) (fC (.int 0)))) (aa (fFz (fOp aIx (ab 8) (fC (.int 1)))) ae))))))))))))))
  (bh (ab 5))))))
theorem Jz:Hh iT Jy [2] 9:=by
 intro os P h;unfold iT at h;obtain⟨ks,ds,R,z,n,zs,k,f,K,r,rfl,hD,M,hK,hr,q⟩:=h;have s2:2<=sizeLine:=by rw[sizeLine_eq];decide
 have hzz:=M.l;obtain⟨G,hG,L⟩:=AQ (q:=(n,k)) hr;ext;refine⟨aan _,?_⟩;ext;refine aB ?_;ext;refine⟨s2,?_⟩;ext;refine am ((n,k)∈K.map (·.1)) (kA (s:=(n,k))) (λv=>?_) (λU=>?_)
 ·ext;obtain⟨e,j,O⟩:=abJ.mp v
  have hq:=q [] (by rw[aam];exact hK) (by
   rw[aam];obtain⟨_,_,o,h'⟩:=hK.ok e j;rw[O] at h';have:e.2=r:=lU h' hr;have N:e=((n,k),r):=by rw[← O,← this]
   exact N ▸ j)
  rw[aam] at hq;exact hq
 ext;refine iU hD M.r M.k (by nofun) λa b=>?_;ext;refine cG (λm ρ=>∃(K':Kp) (ss:List (Addr×Addr×As)) (Q H:Option OV),ρ=[some (cJ ks ds),some (.fz (.str z)),some (ng (K++K')),some (.fz (.str n)),some (.fz (.int k)),some (.fl (K'.map λe=>bt e.1)),some (.obs (ss.map λt=>asA t.1 t.2.1 t.2.2)),Q,H]/\KpOk R z zs (K++K')/\Mu R z zs (K++K') (n,k) G ss m) (Tf G) ?_ ?_
 ·refine⟨[],[(a,b,e8 R z n k)],none,none,?_,?_,.inr ⟨a,b,e8 R z n k,[],G,G,k,[n],r,Tf G,0,rfl,?_,?_,.inl (aac _),aac _⟩⟩
  ·rw[aam];rfl
  ·rw[aam];exact hK
  ·rw[aam];exact⟨L.rd,jN M.r M.n M.k,⟨[],cj.2.2,(λ_ y=>nomatch y),cj.2.1.symm,by rw[cj.1];rfl⟩,by rw[cj.1,cj.2.1];exact L,aac _,by rw[cj.1,cj.2.1];exact U,by rw[cj.1,cj.2.1]⟩
  ·rw[cj.1,cj.2.1];exact .nil (aac _)
 rintro m ρ Rr ⟨K',ss,Q,H,rfl,d,S⟩ kk;have on:∀(K2:Kp) (ss:List (Addr×Addr×As)) (Q H:Option OV) (m':Nat),m'<m->KpOk R z zs (K++K2)->Mu R z zs (K++K2) (n,k) G ss m'->Rr [some (cJ ks ds),some (.fz (.str z)),some (ng (K++K2)),some (.fz (.str n)),some (.fz (.int k)),some (.fl (K2.map λe=>bt e.1)),some (.obs (ss.map λt=>asA t.1 t.2.1 t.2.2)),Q,H]:=λK2 ss Q H m' h1 h2 h3=>kk m' _ h1 ⟨K2,ss,Q,H,rfl,h2,h3⟩;have hKl:=d.len;have hms:=M.s;have hmm:=M.m;rcases S with ⟨rfl,v⟩|⟨a,b,s,rest,o,g,far,ls,B,c,mw,rfl,F,W,hc,hm⟩
 ·ext;refine am _ decide_eq_true_iff (λh=>absurd h (show ¬(0:Int)<((0:Nat):Int) by decide)) (λ_=>?_);ext;obtain⟨e,j,O⟩:=abJ.mp v;refine q K' d ?_;obtain⟨_,_,o,h'⟩:=d.ok e j;rw[O] at h';have:e.2=r:=lU h' hr;have N:e=((n,k),r):=by rw[← O,← this]
  exact N ▸ j
 ·ext;refine am _ decide_eq_true_iff (λ_=>?_) (λh=>absurd (show (0:Int)<((_+1:Nat):Int) by nofun) h);ext;refine aB ?_;ext;refine am (s.dn=true) Iff.rfl (λhd=>?_) (λhd=>?_)
  ·obtain⟨es,h1,h2,h3,h4⟩:=F.acc
   have hrr:B=⟨s.ln,far,ls⟩:=by
    have g:=F.go
    cases o with
    |zero=>cases g
    |succ o=>rw[qO hd] at g;exact(aaj g).symm
   have D:∀e∈es,ResOk z zs e.1.2 e.2:=λe j=>d.res M.r (h2 e j);have sm:∀l:List Str,l.Nodup->(∀x∈l,x∈zs)->l.length<=zs.length:=λl a b=>aax a b
   have Z:KpOk R z zs (K++K'++[((s.n,s.k),B)]):=⟨by
    rw[aad];exact abP.mpr ⟨d.nd,by simp,λx I y hy e=>F.nw (by have N:x=(s.n,s.k):=e.trans (abF.mp hy);rw[← N];exact I)⟩,λe j=>by
    rcases abE.mp j with y|y
    ·exact d.ok e y
    ·rw[abF.mp y];exact⟨F.ok.nz,aas F.ok.kt F.ok.tz,g,F.lst.rd⟩,λe j f3 J x I=>by
    rw[aad];refine aav _ ?_;rcases abE.mp j with y|y
    ·exact d.cl e y f3 J x I
    ·rw[abF.mp y] at J I;have en:=F.en;rw[lV hd] at en;unfold kT at I;rw[Jw J F.lst.rd,← en,h1] at I;obtain⟨e',he',rfl⟩:=abJ.mp I;exact abJ.mpr ⟨e',h2 e' he',rfl⟩⟩
   have ep:ug (kU (K++K')) (lX (K++K')) [.inr s.n,.inl (s.k:Int)] (yZ s.k ⟨s.ln,fJ s.k es,lY [s.n] es⟩)=(kU (K++K'++[((s.n,s.k),B)]),lX (K++K'++[((s.n,s.k),B)])):=by
    rw[hrr,h3,h4];exact y6 (e:=((s.n,s.k),⟨s.ln,fJ s.k es,lY [s.n] es⟩)) F.nw
   have W2:=W.more (e:=((s.n,s.k),B)) F.lst (aac _);ext;refine y0 (s:=s) (K:=K++K') (es:=es) (m:=zs.length) d.nd h1 (λe j=>⟨h2 e j,(D e j).kf⟩) (λi=>?_) (λe j=>sm _ (D e j).nd (D e j).sub) hmm ?_
   ·have:=uH (zs:=zs) (es:=es.take i) (ls:=[s.n]) (by simp) (by simpa using F.ok.nz) λe j=>(D e (abg j)).sub;exact sm _ this.1 this.2
   ext;refine⟨rfl,?_⟩;ext;refine⟨s2,?_⟩;ext;rw[abD];refine⟨by nofun,?_⟩;rw[ep];ext;refine⟨rfl,?_⟩;ext;refine⟨s2,?_⟩;ext;rw[abD];refine⟨by rw[abH] at hKl;nofun,?_⟩;ext;have eK:K++K'++[((s.n,s.k),B)]=K++(K'++[((s.n,s.k),B)]):=aar ..;rw[eK] at Z W2
   have u:mw<m:=by
    rcases hc with y|⟨_,_,_,_,y,_⟩
    ·have g:=F.go
     cases o with
     |zero=>cases g
     |succ o=>have:Tf (o+1)=2*Tf o+3:=rfl;nofun
    ·rw[hd] at y;cases y
   have fin:=on (K'++[((s.n,s.k),B)]) rest (some (.ob ⟨a,0,[.fz (rlD s.fm),.fz (.str s.n),.fz (.int s.k),.fz (.int s.t),.fz (.int s.tn),.fz (.lst (s.st.map bt)),.fz (.bl s.dn),.fz (ib s.ln)]⟩)) H mw u Z (W2.stk (by
    rw[← eK,aad];exact aal _ (aab ..)))
   rw[← eK,aad] at fin;exact fin
  ·have A:s.dn=false:=abX.mpr hd;obtain⟨w,p,E,C⟩:=F.ok.tn A;have T:=(M.r s.n w p (F.ok.fm.symm.trans E)).2.2.1;obtain⟨es,h1,h2,h3,h4⟩:=F.acc
   have hst:s.st.length<sizeLine:=by
    have h5:=F.ok.st;have h6:=F.ok.t8;have h7:=F.ok.tz;rw[A,if_neg (by decide)] at h5;nofun
   obtain⟨f2,N⟩:∃f2,o=f2+1:=by
    have g:=F.go
    cases o with
    |zero=>cases g
    |succ o=>exact⟨o,rfl⟩
   subst N;obtain⟨w',p',t,Y,ht,hgo⟩:=nb A F.go;rw[E] at Y;cases Y;ext;refine .mk (s:=s) E C T ?_;ext;refine aB ?_;ext;refine am (ak p s∈(K++K').map (·.1)) (kA (s:=ak p s)) (λv=>?_) (λV=>?_)
   ·obtain⟨e,j,O⟩:=abJ.mp v;have e1':e.1=ak p s:=O;obtain⟨F2,n2,k2⟩:=F.take M.r d A E j e1'
    have u:Tf f2+mw<m:=by
     have:Tf (f2+1)=2*Tf f2+3:=rfl;rcases hc with y|⟨f3,_,_,y,_,_,_,y2⟩
     ·nofun
     ·cases y;nofun
    ext;refine kB (show jl (kU (K++K')) (lX (K++K')) [.inr (ak p s).1,.inl ((ak p s).2:Int)]=some (yZ e.1.2 e.2) from e1' ▸ iS d.nd j) ?_;ext;refine .mk (s:=s) E C T F.ok.kt hst ?_;ext;refine⟨rfl,?_⟩;exact on K' ((a,b,bU w p s e.2.ln)::rest) none (some (.fz (bt (ak p s)))) (Tf f2+mw) u d (.inr ⟨a,b,_,rest,f2,g,_,_,B,Tf f2,mw,rfl,F2,by rw[n2,k2];exact W,.inl (aac _),aac _⟩)
   ·obtain⟨g2,X,L2⟩:=AQ (q:=ak p s) ht
    have hw:(ak p s).1∈zs:=by
     refine(M.r s.n w p (F.ok.fm.symm.trans E)).2.2.2 _ ?_;show p.getD s.tn "" ∈ p;rw[List.getD_eq_getElem?_getD,List.getElem?_eq_getElem C];exact aaR C
    have u:Tf g2+(Tf f2+2+mw)<m:=by
     have:Tf (f2+1)=2*Tf f2+3:=rfl;have:=E1 X;rcases hc with y|⟨f3,w',p',_,_,y,y2,_⟩
     ·nofun
     ·rw[E] at y;cases y;exact absurd y2 V
    have hl:=W.len;have hfg:=F.fg;have hff:=M.f;ext;refine⟨rfl,?_⟩;ext;refine iU hD M.r F.ok.tz (by nofun) λa2 b2=>?_;ext;rw[abD] at hl;refine⟨by rw[abM,abD];nofun,?_⟩;ext;exact on K' ((a2,b2,e8 R z (ak p s).1 (ak p s).2)::(a,b,s)::rest) none (some (.fz (bt (ak p s)))) _ u d (.inr ⟨a2,b2,_,(a,b,s)::rest,g2,g2,_,_,t,Tf g2,Tf f2+2+mw,rfl,⟨L2.rd,jN M.r hw F.ok.tz,⟨[],cj.2.2,(λ_ y=>nomatch y),cj.2.1.symm,by rw[cj.1];rfl⟩,by rw[cj.1,cj.2.1];exact L2,aac _,by rw[cj.1,cj.2.1];exact V,by rw[cj.1,cj.2.1]⟩,by rw[cj.1,cj.2.1];exact .cons F A E X W,.inl (aac _),aac _⟩)
theorem E2(b:gK ks ds R)(M:MkOk R z zs n k f)(a:KpOk R z zs K)(hr:rdF R z f n k=some r)
  (h:∀K':Kp,KpOk R z zs (K++K')->((n,k),r)∈K++K'->P (.fl (K'.map λe=>bt e.1)) [cJ ks ds,.fz (.str z),ng (K++K'),.fz (.str n),.fz (.int k)]):iT [cJ ks ds,.fz (.str z),ng K,.fz (.str n),.fz (.int k)] P:=by
 unfold iT;exact⟨ks,ds,R,z,n,zs,k,f,K,r,rfl,b,M,a,hr,h⟩
abbrev kC(K:Kp):OV:=.fz (.dt (kU K) (lX K))
@[irreducible] def bx:Ct:=λos P=>∃(ks:List Key) (ds:List D) (R:Rls) (z n:Str) (zs:List Str) (k f:Nat) (K:Kp) (r:Res),os=[cJ ks ds,.fz (.str z),kC K,.fz (.str n),.fz (.int k)]/\gK ks ds R/\MkOk R z zs n k f/\KpOk R z zs K/\rdF R z f n k=some r/\((n,k),r)∈K /\
 ∀a b,P (.ob (asA a b (fZ R z f (e8 R z n k)))) os
abbrev AS:Stmt:=top 42
abbrev JA:FS:=
  (al (b7 5 (ah dP (aa (fFz (ab 0)) (aa (fFz (ab 1)) (aa (fFz (ab 3)) (aa (fFz (ab 4)) ae))))))
  (al (fT (mE (HU (gX 0 5 6)))
   (bN (eh "take" 0 5 bF (aa (fFz (fOp aIx (fOp aIx (ab 2) (eh "wanted" 0 5 aW ae)) (fC (.int 0)))) ae))))
  (bh (ab 5))))
theorem JB:Hh bx JA [] 6:=by
 intro os P h;unfold bx at h;obtain⟨ks,ds,R,z,n,zs,k,f,K,r,rfl,N,M,A,hr,C,q⟩:=h;have J:=M.l;have F:=A.cl _ C f hr;ext;refine iU N M.r M.k (by nofun) λa b=>?_;ext;refine cG (λm ρ=>∃(s:As) (far:Nat) (ls:List Str),ρ=[some (cJ ks ds),some (.fz (.str z)),some (kC K),some (.fz (.str n)),some (.fz (.int k)),some (.ob (asA a b s))]/\AsOk R z zs s/\goF R z m s far ls=some r/\fZ R z m s=fZ R z f (e8 R z n k)) f ⟨e8 R z n k,k,[n],rfl,jN M.r M.n M.k,hr,rfl⟩ ?_;rintro m ρ Z ⟨s,far,ls,rfl,O,u,en⟩ I;ext;refine am (s.dn=false) (by cases s.dn <;> decide) (λhd=>?_) (λhd=>?_)
 ·obtain⟨g,rfl⟩:∃g,m=g+1:=by
   cases m with
   |zero=>cases u
   |succ g=>exact⟨g,rfl⟩
  obtain⟨w,p,t,d,G,o⟩:=nb hd u;obtain⟨U,V,v,i⟩:=O.tn hd;rw[d] at v;cases v;have j:=(M.r s.n w p (O.fm.symm.trans d)).2.2.1
  have B:s.st.length<sizeLine:=by
   have Q:=O.st;have X:=O.t8;have W:=O.tz;rw[hd,if_neg (by decide)] at Q;nofun
  rw[lW hd d G] at en
  have L:ak p s∈K.map (·.1):=by
   refine F _ ?_;unfold kT;show ak p s∈(fZ R z f (e8 R z n k)).st;rw[← en];refine AN ?_;obtain⟨_,_,_,_,e,_⟩:=iR w p s t.ln;rw[e];exact aal _ (aab ..)
  obtain⟨e,D,S⟩:=abJ.mp L;have c:e.1=ak p s:=S;obtain⟨_,_,Y,x⟩:=A.ok e D;rw[c] at x;have H:e.2=t:=lU x G;have T:=A.res M.r D;ext;refine .mk (s:=s) d i j ?_;ext;refine kB (show jl (kU K) (lX K) [.inr (ak p s).1,.inl ((ak p s).2:Int)]=some (yZ e.1.2 e.2) from c ▸ iS A.nd D) ?_;ext;refine .mk (s:=s) d i j O.kt B ?_;ext;rw[H];refine I g _ (aaz _) ⟨bU w p s t.ln,_,_,rfl,kx M.r O hd d λl y=>?_,o,en⟩;have:=T.ln l (H ▸ y);rw[c] at this;exact this
 ·have E:s.dn=true:=by cases h:s.dn with|true=>rfl|false=>exact absurd h hd
  ext;rw[lV E] at en;rw[en];exact q a b
theorem E3(e:gK ks ds R)(M:MkOk R z zs n k f)(d:KpOk R z zs K)(hr:rdF R z f n k=some r)(c:((n,k),r)∈K)
  (h:∀a b,P (.ob (asA a b (fZ R z f (e8 R z n k)))) [cJ ks ds,.fz (.str z),kC K,.fz (.str n),.fz (.int k)]):bx [cJ ks ds,.fz (.str z),kC K,.fz (.str n),.fz (.int k)] P:=by
 unfold bx;exact⟨ks,ds,R,z,n,zs,k,f,K,r,rfl,e,M,d,hr,c,h⟩
def dc:List Sp2->List Sp2->List Sp2
 |ls,[]=>ls
 |ls,m::a=>dc (if m∈ls then ls else ls++[m]) a
theorem qQ{ls:List Sp2}(h:st[i]?=some q):dc ls (st.take (i+1))=if q∈dc ls (st.take i) then dc ls (st.take i) else dc ls (st.take i)++[q]:=by
 induction st generalizing ls i with
 |nil=>cases h
 | cons m st a=>
  cases i with
  |zero=>cases h;rfl
  |succ i=>exact a h
theorem lZ:∀{ms ls:List Sp2},(dc ls ms).length<=ls.length+ms.length
 |[],ls=>by show ls.length<=_;simp
 | m::ms,ls=>by
  have h:=lZ (ms:=ms) (ls:=if m∈ls then ls else ls++[m]);show (dc (if m∈ls then ls else ls++[m]) ms).length<=_;rw[abM];split at h
  ·rename_i a;rw[if_pos a];nofun
  ·rename_i a;rw[if_neg a];rw[abH,abd] at h;nofun
@[irreducible] def b9:Ct:=λos P=>∃(ks:List Key) (ds:List D) (R:Rls) (z n:Str) (zs:List Str) (k f:Nat) (K:Kp) (r:Res),os=[cJ ks ds,.fz (.str z),kC K,.fz (.str n),.fz (.int k)]/\gK ks ds R/\MkOk R z zs n k f/\KpOk R z zs K/\rdF R z f n k=some r/\((n,k),r)∈K /\
 P (.fl ((dc [] (kT R z f (n,k))).map bt)) os
abbrev l5:Stmt:=top 43
abbrev uJ:FS:=
  (al (b7 5 uf)
  (al (qq (cE (Jd 0 5 (ah bx (aa (fFz (ab 0)) (aa (fFz (ab 1)) (aa (fFz (ab 2)) (aa (fFz (ab 3)) (aa (fFz (ab 4)) ae)))))))) (ac 6)
   (uk 5 (fC (.bl true)) (ab 6)))
  (bh (AI (ab 5)))))
theorem uK{ls:List Sp2}:ug (ls.map nc) (ls.map λ_=>D.bl true) (nc q) (.bl true)=((if q∈ls then ls else ls++[q]).map nc,(if q∈ls then ls else ls++[q]).map λ_=>D.bl true):=by
 have b:tK (ls.map nc) (nc q)=true↔q∈ls:=by
  unfold tK;rw[aa0];constructor
  ·rintro⟨x,e,h⟩;obtain⟨y,d,rfl⟩:=abJ.mp e;exact kz (of_decide_eq_true h) ▸ d
  ·intro h;exact⟨_,abJ.mpr ⟨q,h,rfl⟩,decide_eq_true rfl⟩
 unfold ug;by_cases h:q∈ls
 ·rw[if_pos (b.mpr h),if_pos h]
  congr 1
  clear b h
  induction ls with
  |nil=>rfl
  | cons a ls c=>
   simp only[List.map_cons,List.zip_cons_cons];rw[c]
   congr 1
   split <;> rfl
 ·rw[if_neg (λy=>h (b.mp y)),if_neg h,aad,aad];rfl
theorem uL:Hh b9 uJ [] 7:=by
 intro os P h;unfold b9 at h;obtain⟨ks,ds,R,z,n,zs,k,f,K,r,rfl,t,M,s,hr,j,q⟩:=h;have o:=M.l;ext;refine E3 t M s hr j λa b=>?_;have O:=AO (f:=f) M.r (jN (z:=z) M.r M.n M.k)
 have g:(fZ R z f (e8 R z n k)).st.length<sizeLine:=by
  have w:=O.st;have v:=O.t8;have u:=O.tz;have:(if (fZ R z f (e8 R z n k)).dn=true then 1 else 0)<=1:=by split <;> nofun
  nofun
 have l:P (.fl ((dc [] (fZ R z f (e8 R z n k)).st).map bt)) [cJ ks ds,.fz (.str z),kC K,.fz (.str n),.fz (.int k)]:=q;ext;generalize (fZ R z f (e8 R z n k)).st=st at g l ⊢;refine bL (λi ρ=>∃x:Option OV,ρ=[some (cJ ks ds),some (.fz (.str z)),some (kC K),some (.fz (.str n)),some (.fz (.int k)),some (.ft ((dc [] (st.take i)).map nc) ((dc [] (st.take i)).map λ_=>.bl true)),x]) ⟨none,rfl⟩ ?_ ?_
 ·rintro i d ρ y hd ⟨x,rfl⟩ m;rw[List.getElem?_map] at hd
  cases c:st[i]? with
  |none=>rw [c] at hd;cases hd
  | some e=>
   rw[c] at hd;cases hd;have hi:=(List.getElem?_eq_some_iff.mp c).1;have p:=lZ (ms:=st.take i) (ls:=[]);rw[aah,List.length_nil] at p;ext;refine⟨rfl,?_⟩;ext;rw[abD];refine⟨by nofun,?_⟩;rw[show ug ((dc [] (st.take i)).map nc) ((dc [] (st.take i)).map λ_=>D.bl true) [.inr e.1,.inl (e.2:Int)] (.bl true)=_ from uK (q:=e),← qQ c];exact m _ ⟨_,rfl⟩
 ·rintro ρ ⟨x,rfl⟩;rw[abD,aai (aac _)];ext;rw[aat];exact l
theorem qR(c:gK ks ds R)(M:MkOk R z zs n k f)(b:KpOk R z zs K)(hr:rdF R z f n k=some r)(a:((n,k),r)∈K)
  (h:P (.fl ((dc [] (kT R z f (n,k))).map bt)) [cJ ks ds,.fz (.str z),kC K,.fz (.str n),.fz (.int k)]):b9 [cJ ks ds,.fz (.str z),kC K,.fz (.str n),.fz (.int k)] P:=by
 unfold b9;exact⟨ks,ds,R,z,n,zs,k,f,K,r,rfl,c,M,b,hr,a,h⟩
inductive de:Ct
 |mk {i:Int} {P:Pk} (h:P (.fz (.bl true)) [.fz (.int i)]):de [.fz (.int i)] P
abbrev l6:Stmt:=top 44
abbrev uM:FS:=
  (bh (jj (fCB cIs (aa (ab 0) (aa (fC (.ty "int")) ae))) (Dj (fCB cIs (aa (ab 0) (aa (fC (.ty "bool")) ae))))))
theorem uN:Hh de uM [] 1:=by
 intro os P h;obtain@⟨i,_,q⟩:=h;ext;refine⟨⟨rfl,rfl⟩,?_⟩;ext;refine c9 ?_;ext;refine⟨⟨rfl,rfl⟩,?_⟩;ext;exact q
inductive dg:Ct
 |mk {z:Str} {k:Nat} {P:Pk} (hk:k<=z.length) (hz:z.length<=sizeLine) (h:P (.fz (.bl true)) [.fz (.str z),.fz (.int k)]):dg [.fz (.str z),.fz (.int k)] P
abbrev l7:Stmt:=top 45
abbrev uO:FS:=
  (bh (jj (ah de (aa (fFz (ab 1)) ae)) (jB (gU (λi j=>decide (i<=j)) λi j=>!aU j i) (gU (λi j=>decide (i<=j)) λi j=>!aU j i) (fC (.int 0)) (ab 1) (fCB et (aa (ab 0) ae)))))
theorem uP:Hh dg uO [] 2:=by
 intro os P h;obtain@⟨z,k,_,b,a,q⟩:=h;ext;refine .mk ?_;ext;refine c9 ?_;ext;refine am (0<=(k:Int)) decide_eq_true_iff (λ_=>?_) (λh=>absurd (Int.natCast_nonneg k) h);ext;refine⟨a,?_⟩;ext;show P (.fz (.bl (decide ((k:Int)<=(z.length:Int))))) _;rw[decide_eq_true (Int.ofNat_le.mpr b)];exact q
theorem uQ(h:(fR z)[i]?=some d):∃c,z.cps.toList[i]?=some c/\d=.str ⟨#[c]⟩:=by
 unfold fR at h;rw[List.getElem?_map,aaq] at h;obtain⟨r,h1,h2⟩:=h;exact⟨r,h1,h2.symm⟩
theorem uR(z:Str):z.length=z.cps.toList.length:=by rw[abO];rfl
abbrev kD:Str := "abcdefghijklmnopqrstuvwxyz"
theorem nh :c∈kD.cps.toList↔97<=c/\c<=122:=by
 have e:kD.cps.toList=List.range' 97 26:=by decide +kernel
 rw[e,List.mem_range'_1];nofun
def tru(i:Nat):List D:=(List.replicate i true).map .bl
theorem e9 :tru i++[.bl true]=tru (i+1):=by
 unfold tru;rw[List.replicate_succ',aad];rfl
theorem gA :(tru i).length=i:=by unfold tru;simp
theorem jO{Q:List Bool->Prop}(q:Q (List.replicate i true)):match gW (tru i) with
  |some zs=>Q zs
  |none=>False:=ou q
theorem gB :((List.replicate i true).all id)=true:=by simp
inductive ck:Ct
 |mk {z:Str} {P:Pk} (hz:db z) (h:P (.fz (.bl true)) [.fz (.str z)]):ck [.fz (.str z)] P
abbrev oP:Stmt:=top 17
abbrev y8:FS:=
  (al (fIf (mE (fW (fCB cIs (aa (ab 0) (aa (fC (.ty "str")) ae)))))
   (bh (fC (.bl false)))
   aP)
  (al (fIf (mE (au (jB (gU (λi j=>decide (i<=j)) λi j=>!aU j i) (gU (λi j=>decide (i<=j)) λi j=>!aU j i) (fC (.int 1)) (fCB et (aa (ab 0) ae)) (fC (.int 8)))))
   (bh (fC (.bl false)))
   aP)
  (bh (fCB xM (aa (bw [] 1 (xy (ab 0)) (ac 0) jC (fOp aIn (ab 0) (fC (.str "abcdefghijklmnopqrstuvwxyz")))) ae)))))
theorem y9:Hh ck y8 [] 1:=by
 intro os P h;obtain@⟨z,_,⟨n1,n2,n3⟩,q⟩:=h;have sz:=bG;have f:=uR z;ext;refine aB ?_;ext;refine⟨⟨rfl,rfl⟩,?_⟩;ext;refine dI ?_;ext;refine aB ?_;ext;refine⟨by nofun,?_⟩;ext;refine am ((1:Int)<=z.length) decide_eq_true_iff (λh1=>?_) (λh1=>absurd (by nofun) h1);ext;refine am (¬(z.length:Int)<=8) (by rw[aaT,decide_eq_false_iff_not]) (λh2=>absurd (by nofun) h2) (λh2=>?_);ext;refine aA (λi as ρ=>∃(x:Option OV),as=tru i/\ρ=[x,some (.fz (.str z))]) ⟨none,rfl,rfl⟩ ?_ ?_
 ·rintro i d as ρ R hd ⟨x,rfl,rfl⟩ k;obtain⟨c,a,rfl⟩:=uQ hd;have hi:=(List.getElem?_eq_some_iff.mp a).1;have e:decide (c∈kD.cps.toList)=true:=decide_eq_true (nh.mpr (n3 c (List.mem_of_getElem? a)));ext;refine c9 ?_;ext;refine⟨by rw[gA];nofun,k _ _ ⟨_,?_,rfl⟩⟩;rw[← e9];exact congrArg (λb=>tru i++[D.bl b]) e
 ·rintro as ρ ⟨x,rfl,rfl⟩;ext;refine jO ?_;ext;rw[gB];exact q
theorem uS{a:Nat}:aU ⟨#[a]⟩ ⟨#[b]⟩=decide (a<b):=by
 unfold aU;rw[decide_eq_decide];simp[List.cons_lt_cons_iff]
theorem e_32:Str.ofString " " = ⟨#[32]⟩:=by decide +kernel
theorem Mv:Str.ofString "~" = ⟨#[126]⟩:=by decide +kernel
theorem Mw :(!aU ⟨#[c]⟩ (Str.ofString " "))=true↔32<=c:=by
 rw[e_32,uS,aaT,decide_eq_false_iff_not];nofun
theorem JC :(!aU (Str.ofString "~") ⟨#[c]⟩)=true↔c<=126:=by
 rw[Mv,uS,aaT,decide_eq_false_iff_not];nofun
def fL(z:Str):Prop:=∀c∈z.cps.toList,32<=c/\c<=126/\c≠37
inductive eQ:Ct
 |mk {c:Nat} {P:Pk} (hc:32<=c/\c<=126/\c≠37) (h:P (.fz (.bl true)) [.fz (.str ⟨#[c]⟩)]):eQ [.fz (.str ⟨#[c]⟩)] P
abbrev oQ:Stmt:=top 18
abbrev za:FS:=
  (bh (jj (jB (gU (λi j=>decide (i<=j)) λi j=>!aU j i) (gU (λi j=>decide (i<=j)) λi j=>!aU j i) (fC (.str " ")) (ab 0) (fC (.str "~"))) (fOp aNe (fCB Mc (aa (ab 0) ae)) (fC (.int 37)))))
theorem zb:Hh eQ za [] 1:=by
 intro os P h;obtain@⟨c,_,⟨d,b,a⟩,q⟩:=h;ext;refine am (32<=c) Mw (λ_=>?_) (λh=>absurd d h);ext;refine am (c<=126) JC (λ_=>?_) (λh=>absurd b h);ext;refine⟨aq,?_⟩;ext;rw[show dEq (.int (c:Int)) (.int 37)=false from abX.mpr λe=>a (Int.ofNat.inj (aL.mp e))];exact q
inductive dh:Ct
 |mk {z:Str} {P:Pk} (hz:z.length<sizeLine) (ht:fL z) (h:P (.fz (.bl true)) [.fz (.str z)]):dh [.fz (.str z)] P
abbrev oR:Stmt:=top 19
abbrev zc:FS:=
  (bh (jj (fCB cIs (aa (ab 0) (aa (fC (.ty "str")) ae))) (fCB xM (aa (bw [] 1 (xy (ab 0)) (ac 0) jC (ah eQ (aa (fFz (ab 0)) ae))) ae))))
theorem zd:Hh dh zc [] 1:=by
 intro os P h;obtain@⟨z,_,f,b,q⟩:=h;have e:=uR z;ext;refine⟨⟨rfl,rfl⟩,?_⟩;ext;refine c9 ?_;ext;refine aA (λi as ρ=>∃(x:Option OV),as=tru i/\ρ=[x,some (.fz (.str z))]) ⟨none,rfl,rfl⟩ ?_ ?_
 ·rintro i d as ρ R hd ⟨x,rfl,rfl⟩ k;obtain⟨c,a,rfl⟩:=uQ hd;have hi:=(List.getElem?_eq_some_iff.mp a).1;ext;refine c9 ?_;ext;refine .mk (b c (List.mem_of_getElem? a)) ?_;ext;exact⟨by rw[gA];nofun,k _ _ ⟨_,e9,rfl⟩⟩
 ·rintro as ρ ⟨x,rfl,rfl⟩;ext;refine jO ?_;ext;rw[gB];exact q
inductive bd:Ct
 |mk {z:Str} {P:Pk} (hz:bZ z) (h:P (.fz (.bl true)) [.fz (.str z)]):bd [.fz (.str z)] P
abbrev oS:Stmt:=top 20
abbrev ze:FS:=
  (al (fIf (mE (fW (ah dh (aa (fFz (ab 0)) ae))))
   (bh (fC (.bl false)))
   aP)
  (al (fIf (mE (au (jB (gU (λi j=>decide (i<=j)) λi j=>!aU j i) (gU (λi j=>decide (i<=j)) λi j=>!aU j i) (fC (.int 1)) (fCB et (aa (ab 0) ae)) (fC (.int 40)))))
   (bh (fC (.bl false)))
   aP)
  (bh (fCB xM (aa (bw [0] 1 (nY (aa (fC (.int 1)) (aa (fCB et (aa (ab 0) ae)) ae))) (ac 0) jC (fOp (gU (λi j=>decide (i<j)) aU) (fOp aIx (ab 1) (fOp (aI0 λi j=>.int (i - j)) (ab 0) (fC (.int 1)))) (fOp aIx (ab 1) (ab 0)))) ae)))))
theorem zf:Hh bd ze [] 1:=by
 intro os P h;obtain@⟨z,_,⟨n1,n2,n3,n4⟩,q⟩:=h;have sz:=bG;have b:=uR z;ext;refine aB ?_;ext;refine .mk (by nofun) n4 ?_;ext;refine dI ?_;ext;refine aB ?_;ext;refine⟨by nofun,?_⟩;ext;refine am ((1:Int)<=z.length) decide_eq_true_iff (λh1=>?_) (λh1=>absurd (by nofun) h1);ext;refine am (¬(z.length:Int)<=40) (by rw[aaT,decide_eq_false_iff_not]) (λh2=>absurd (by nofun) h2) (λh2=>?_);ext;refine⟨by nofun,?_⟩;ext;refine⟨⟨by nofun,by nofun,by nofun,by nofun⟩,?_⟩;ext;refine aA (λi as ρ=>∃(x:Option OV),as=tru i/\ρ=[x,some (.fz (.str z))]) ⟨none,rfl,rfl⟩ ?_ ?_
 ·rintro i d as ρ R hd ⟨x,rfl,rfl⟩ k;obtain⟨hi,rfl⟩:=aQ hd;have a:i+1<z.cps.toList.length:=by nofun
  have g1:z.cps.toList[i]?=some (z.cps.toList[i]'(by nofun)):=List.getElem?_eq_getElem _;have g2:z.cps.toList[i+1]?=some (z.cps.toList[i+1]'a):=List.getElem?_eq_getElem _
  have e:atI z.cps.toList ((1:Int)+i - 1)=some (z.cps.toList[i]'(by nofun)):=by
   rw[show (1:Int)+i - 1=((i:Nat):Int) by nofun];exact bf g1
  have c:atI z.cps.toList ((1:Int)+i)=some (z.cps.toList[i+1]'a):=by
   rw[show (1:Int)+i=((i+1:Nat):Int) by nofun];exact bf g2
  ext;refine c9 ?_;ext;refine⟨by nofun,?_⟩;rw[e];ext;refine⟨by nofun,?_⟩;rw[c];ext;refine⟨by rw[gA];nofun,k _ _ ⟨_,?_,rfl⟩⟩;rw[uS,decide_eq_true (abZ.mp n3 i (i+1) (by nofun) a (aaz i))];exact e9
 ·rintro as ρ ⟨x,rfl,rfl⟩;ext;refine jO ?_;ext;rw[gB];exact q
inductive eR:Ct
 |mk {word:Str} {rest:List Str} {P:Pk} (hf:lS word rest) (h:P (.fz (.bl true)) [.fz (av word rest)]):eR [.fz (av word rest)] P
theorem uT{x:α}{r:List α}:eC (x::r) (some 1) none=r:=by
 unfold eC;rw[show HT.sIx (x::r).length 0 (some 1)=1 from by show min 1 (r.length+1)=1;nofun,HT.sIx_none];simp
abbrev oT:Stmt:=top 21
abbrev zg:FS:=
  (al (fIf (fOr (mE (fW (fCB cIs (aa (ab 0) (aa (fC (.ty "tuple")) ae))))) (au (fOp aEq (fCB et (aa (ab 0) ae)) (fC (.int 0)))))
   (bh (fC (.bl false)))
   aP)
  (al (bO (fOp aIx (ab 0) (fC (.int 0))) (ac 1))
  (al (fIf (mE (fW (fCB cIs (aa (ab 1) (aa (fC (.ty "str")) ae)))))
   (bh (fC (.bl false)))
   aP)
  (al (fIf (au (fOp aIn (ab 1) (fC (.gt [.str "none", .str "any"]))))
   (bh (fOp aEq (fCB et (aa (ab 0) ae)) (fC (.int 1))))
   aP)
  (al (fIf (au (fOp aEq (ab 1) (fC (.str "signs"))))
   (bh (jj (fOp aEq (fCB et (aa (ab 0) ae)) (fC (.int 2))) (ah bd (aa (fFz (fOp aIx (ab 0) (fC (.int 1)))) ae))))
   aP)
  (al (fIf (au (fOp aIn (ab 1) (fC (.gt [.str "again", .str "ahead", .str "not"]))))
   (bh (jj (fOp aEq (fCB et (aa (ab 0) ae)) (fC (.int 2))) (ah ck (aa (fFz (fOp aIx (ab 0) (fC (.int 1)))) ae))))
   aP)
  (al (fIf (au (fOp aIn (ab 1) (fC (.gt [.str "row", .str "first"]))))
   (bh (jj (jB (gU (λi j=>decide (i<=j)) λi j=>!aU j i) (gU (λi j=>decide (i<=j)) λi j=>!aU j i) (fC (.int 1)) (fOp (aI0 λi j=>.int (i - j)) (fCB et (aa (ab 0) ae)) (fC (.int 1))) (fC (.int 8))) (fCB xM (aa (bw [] 1 (Ij (fSl Mg (ab 0) (dJ (fC (.int 1))) bM)) (ac 0) jC (ah ck (aa (fFz (ab 0)) ae))) ae))))
   aP)
  (bh (fC (.bl false))))))))))
theorem Mx{l:List α}(h:l.length=1):∃x,l=[x]:=List.length_eq_one_iff.mp h
theorem zi:Hh eR zg [] 2:=by
 intro os P h;obtain@⟨word,rest,_,⟨zs,f,c⟩,q⟩:=h;have sz:=bG;ext;refine aB ?_;ext;refine⟨⟨rfl,rfl⟩,?_⟩;ext;refine dI ?_;ext;refine⟨aq,?_⟩;ext;refine am False ⟨λh=>by have e:(((rest.map D.str).length+1:Nat):Int)=0:=aL.mp h;nofun,False.elim⟩ False.elim (λ_=>?_);ext;refine eN ?_;ext;refine aB ?_;ext;refine⟨⟨rfl,rfl⟩,?_⟩;ext;refine dI ?_;ext;refine aB ?_;ext;refine⟨⟨rfl,rfl⟩,?_⟩;ext;refine am (word = "none" ∨ word = "any") ((eZ (zs:=["none", "any"])).trans (by simp)) (λa=>?_) (λh1=>?_)
 ·have e:rest=[]:=by
   rcases c with ⟨_,h⟩|⟨h,_⟩|⟨h,_⟩|⟨h,_⟩
   ·exact h
   all_goals (rcases a with rfl|rfl <;> exact absurd h (by decide))
  subst e;ext;refine⟨aq,?_⟩;ext;exact q
 ·ext;refine aB ?_;ext;refine⟨bq,?_⟩;ext;refine am (word = "signs") bY (λa=>?_) (λh2=>?_)
  ·obtain⟨z,rfl,b⟩:∃z,rest=[z]/\bZ z:=by
    rcases c with ⟨h,_⟩|⟨_,h⟩|⟨h,_⟩|⟨h,_⟩
    ·exact absurd h h1
    ·exact h
    all_goals (rw[a] at h;exact absurd h (by decide))
   ext;refine⟨aq,?_⟩;ext;refine c9 ?_;ext;refine .mk b ?_;ext;exact q
  ·ext;refine aB ?_;ext;refine⟨⟨rfl,rfl⟩,?_⟩;ext;refine am (word = "again" ∨ word = "ahead" ∨ word = "not") ((eZ (zs:=["again", "ahead", "not"])).trans (by simp)) (λa=>?_) (λm=>?_)
   ·obtain⟨z,rfl,b⟩:∃z,rest=[z]/\db z:=by
     rcases c with ⟨h,_⟩|⟨h,_⟩|⟨_,h,g⟩|⟨h,_⟩
     ·exact absurd h h1
     ·exact absurd h h2
     ·obtain⟨z,rfl⟩:=Mx h;exact⟨z,rfl,f z (g z (abF.mpr rfl))⟩
     ·rcases a with rfl|rfl|rfl <;> exact absurd h (by decide)
    ext;refine⟨aq,?_⟩;ext;refine c9 ?_;ext;refine .mk b ?_;ext;exact q
   ·obtain⟨a,o,n,j⟩:(word = "row" ∨ word = "first")/\1<=rest.length/\rest.length<=8/\∀z∈rest,z∈zs:=by
     rcases c with ⟨h,_⟩|⟨h,_⟩|⟨h,_⟩|h
     ·exact absurd h h1
     ·exact absurd h h2
     ·exact absurd h m
     ·exact h
    have p:(rest.map D.str).length=rest.length:=abD ..;ext;refine aB ?_;ext;refine⟨⟨rfl,rfl⟩,?_⟩;ext;refine am (word = "row" ∨ word = "first") ((eZ (zs:=["row", "first"])).trans (by simp)) (λa=>?_) (λl=>absurd a l);ext;rw[List.length_cons];refine am ((1:Int)<=(((rest.map D.str).length+1:Nat):Int) - 1) decide_eq_true_iff (λg1=>?_) (λg1=>absurd (by nofun) g1);ext;refine am ((((rest.map D.str).length+1:Nat):Int) - 1<=8) decide_eq_true_iff (λg2=>?_) (λg2=>absurd (by nofun) g2);ext;rw[uT];ext;refine aA (λi as ρ=>∃(x y:Option OV),as=tru i/\ρ=[x,some (.fz (av word rest)),y]) ⟨none,_,rfl,rfl⟩ ?_ ?_
    ·rintro i d as ρ R hd ⟨x,y,rfl,rfl⟩ k;rw[List.getElem?_map,aaq] at hd;obtain⟨z,b,rfl⟩:=hd;have hi:=(List.getElem?_eq_some_iff.mp b).1;ext;refine c9 ?_;ext;refine .mk (f z (j z (List.mem_of_getElem? b))) ?_;ext;exact⟨by rw[gA];nofun,k _ _ ⟨_,_,e9,rfl⟩⟩
    ·rintro as ρ ⟨x,y,rfl,rfl⟩;ext;refine jO ?_;ext;rw[gB];exact q
def JD(r:Rw):Prop:=db r.1/\lS r.2.1 r.2.2
inductive eS:Ct
 |mk {r:Rw} {P:Pk} (hr:JD r) (h:P (.fz (.bl true)) [.fz (gY r)]):eS [.fz (gY r)] P
abbrev oU:Stmt:=top 25
abbrev zj:FS:=
  (al (fIf (fOr (mE (fW (fCB cIs (aa (ab 0) (aa (fC (.ty "tuple")) ae))))) (au (fOp aNe (fCB et (aa (ab 0) ae)) (fC (.int 2)))))
   (bh (fC (.bl false)))
   aP)
  (bh (jj (ah ck (aa (fFz (fOp aIx (ab 0) (fC (.int 0)))) ae)) (ah eR (aa (fFz (fOp aIx (ab 0) (fC (.int 1)))) ae)))))
theorem zk:Hh eS zj [] 1:=by
 intro os P h;obtain@⟨⟨n,word,rest⟩,_,⟨a,b⟩,q⟩:=h;ext;refine aB ?_;ext;refine⟨⟨rfl,rfl⟩,?_⟩;ext;refine dI ?_;ext;refine⟨aq,?_⟩;ext;refine dI ?_;ext;refine .mk a ?_;ext;refine c9 ?_;ext;refine .mk b ?_;ext;exact q
abbrev kE(rows:List Rw):D:=.lst (rows.map gY)
def My(rows:List Rw):Prop:=∀i r s,rows[i]?=some r->rows[i+1]?=some s->aU r.1 s.1=true
inductive cn:Ct
 |mk {rows:List Rw} {P:Pk} (hl:rows.length<=1000) (hr:My rows) (h:P (.fz (.bl true)) [.fz (kE rows)]):cn [.fz (kE rows)] P
abbrev uU:Stmt:=top 26
abbrev E4:FS:=
  (bh (fCB xM (aa (bw [0] 1 (nY (aa (fC (.int 1)) (aa (fCB et (aa (ab 0) ae)) ae))) (ac 0) jC (fOp (gU (λi j=>decide (i<j)) aU) (fOp aIx (fOp aIx (ab 1) (fOp (aI0 λi j=>.int (i - j)) (ab 0) (fC (.int 1)))) (fC (.int 0))) (fOp aIx (fOp aIx (ab 1) (ab 0)) (fC (.int 0))))) ae)))
theorem E5:Hh cn E4 [] 1:=by
 intro os P h;obtain@⟨rows,_,f,hr,q⟩:=h;have sz:=bG;have b:(rows.map gY).length=rows.length:=abD ..;ext;refine⟨⟨by nofun,by nofun,by nofun,by nofun⟩,?_⟩;ext;refine aA (λi as ρ=>∃(x:Option OV),as=tru i/\ρ=[x,some (.fz (kE rows))]) ⟨none,rfl,rfl⟩ ?_ ?_
 ·rintro i d as ρ R hd ⟨x,rfl,rfl⟩ k;obtain⟨hi,rfl⟩:=aQ hd;have a:i+1<rows.length:=by nofun
  have g1:rows[i]?=some (rows[i]'(by nofun)):=List.getElem?_eq_getElem _;have g2:rows[i+1]?=some (rows[i+1]'a):=List.getElem?_eq_getElem _
  have e:atI (rows.map gY) ((1:Int)+i - 1)=some (gY (rows[i]'(by nofun))):=by
   rw[show (1:Int)+i - 1=((i:Nat):Int) by nofun];exact bf (by rw[List.getElem?_map,g1];rfl)
  have c:atI (rows.map gY) ((1:Int)+i)=some (gY (rows[i+1]'a)):=by
   rw[show (1:Int)+i=((i+1:Nat):Int) by nofun];exact bf (by rw[List.getElem?_map,g2];rfl)
  ext;refine c9 ?_;ext;rw[e];ext;rw[c];ext;refine⟨by rw[gA];nofun,k _ _ ⟨_,?_,rfl⟩⟩;rw[hr i _ _ g1 g2];exact e9
 ·rintro as ρ ⟨x,rfl,rfl⟩;ext;refine jO ?_;ext;rw[gB];exact q
inductive eT:Ct
 |mk {rows:List Rw} {P:Pk} (hl:rows.length<=1000) (ho:∀r∈rows,JD r) (hr:My rows) (h:P (.fz (.bl true)) [.fz (kE rows)]):eT [.fz (kE rows)] P
abbrev oV:Stmt:=top 27
abbrev zm:FS:=
  (al (fIf (mE (fW (fCB cIs (aa (ab 0) (aa (fC (.ty "list")) ae)))))
   (bh (fC (.bl false)))
   aP)
  (bh (jj (fCB xM (aa (bw [] 1 (cE (ab 0)) (ac 0) jC (ah eS (aa (fFz (ab 0)) ae))) ae)) (ah cn (aa (fFz (ab 0)) ae)))))
theorem zn:Hh eT zm [] 1:=by
 intro os P h;obtain@⟨rows,_,c,b,hr,q⟩:=h;have sz:=bG;ext;refine aB ?_;ext;refine⟨⟨rfl,rfl⟩,?_⟩;ext;refine dI ?_;ext;refine aA (λi as ρ=>∃(x:Option OV),as=tru i/\ρ=[x,some (.fz (kE rows))]) ⟨none,rfl,rfl⟩ ?_ ?_
 ·rintro i d as ρ R hd ⟨x,rfl,rfl⟩ k;rw[List.getElem?_map,aaq] at hd;obtain⟨r,a,rfl⟩:=hd;have hi:=(List.getElem?_eq_some_iff.mp a).1;ext;refine c9 ?_;ext;refine .mk (b r (List.mem_of_getElem? a)) ?_;ext;exact⟨by rw[gA];nofun,k _ _ ⟨_,e9,rfl⟩⟩
 ·rintro as ρ ⟨x,rfl,rfl⟩;ext;refine jO ?_;ext;rw[gB];refine c9 ?_;ext;refine .mk c hr ?_;ext;exact q
def JE(word:Str):Prop:=word = "none" ∨ word = "again" ∨ word = "ahead" ∨ word = "not"
def E6(zs:List Str)(word:Str)(rest:List Str):Prop:=(word = "row" /\ ∀z∈rest,z∈zs)∨(word = "first" /\ ∃z∈rest,z∈zs)∨JE word
inductive Emp(rows:List Rw):Str->Prop where
 |base {r:Rw}:r∈rows->JE r.2.1->Emp rows r.1
 |row {r:Rw}:r∈rows->r.2.1 = "row" -> (∀z∈r.2.2,Emp rows z)->Emp rows r.1
 |first {r:Rw} {z:Str}:r∈rows->r.2.1 = "first" -> z∈r.2.2->Emp rows z->Emp rows r.1
def uV(rows:List Rw)(zs:List Str):Prop:=∀r∈rows,E6 zs r.2.1 r.2.2->r.1∈zs
theorem Emp.mem(c:uV rows zs)(h:Emp rows z):z∈zs:=by
 induction h with
 |base h e=>exact c _ h (.inr (.inr e))
 |row h e _ a=>exact c _ h (.inl ⟨e,a⟩)
 |first h e m _ a=>exact c _ h (.inr (.inl ⟨e,_,m,a⟩))
theorem Emp.of(h:∀z∈zs,Emp rows z){r:Rw}(hr:r∈rows)(m:E6 zs r.2.1 r.2.2):Emp rows r.1:=by
 rcases m with ⟨e,a⟩|⟨e,z,b,a⟩|e
 ·exact .row hr e λz b=>h z (a z b)
 ·exact .first hr e b (h z a)
 ·exact .base hr e
structure Walk1(rows:List Rw)(zs0 zs:List Str)(i:Nat):Prop where
 nd:zs.Nodup
 emp:∀z∈zs,Emp rows z
 sub:∀z∈zs,z∈rows.map (·.1)
 grow:(zs=zs0/\∀r∈rows.take i,E6 zs0 r.2.1 r.2.2->r.1∈zs0)∨zs0.length<zs.length
theorem Walk1.start(nd:zs.Nodup)(emp:∀z∈zs,Emp rows z)(sub:∀z∈zs,z∈rows.map (·.1)):Walk1 rows zs zs 0:=⟨nd,emp,sub,.inl ⟨rfl,λr h=>by simp at h⟩⟩
theorem oW{l:List α}{r a:α}(h:l[i]?=some a)(hr:r∈l.take (i+1)):r∈l.take i∨r=a:=by
 rw[aap,h] at hr;simpa using hr
theorem Walk1.add{r:Rw}(W:Walk1 rows zs0 zs i)(hr:rows[i]?=some r)(c:r.1∉zs)(m:E6 zs r.2.1 r.2.2):Walk1 rows zs0 (zs++[r.1]) (i+1):=by
 have a:=List.mem_of_getElem? hr;refine⟨KS.nodup_snoc W.nd c,λz b=>?_,λz b=>?_,.inr ?_⟩
 ·rcases abE.mp b with h|h
  ·exact W.emp z h
  ·have:z=r.1:=(by exists h);rw[this];exact Emp.of W.emp a m
 ·rcases abE.mp b with h|h
  ·exact W.sub z h
  ·have:z=r.1:=(by exists h);rw[this];exact abJ.mpr ⟨r,a,rfl⟩
 ·rw[abH,abd];rcases W.grow with ⟨e,_⟩|h
  ·rw[e];nofun
  ·nofun
theorem Walk1.skip{r:Rw}(W:Walk1 rows zs0 zs i)(hr:rows[i]?=some r)(h:E6 zs r.2.1 r.2.2->r.1∈zs):Walk1 rows zs0 zs (i+1):=by
 refine⟨W.nd,W.emp,W.sub,?_⟩;rcases W.grow with ⟨e,g⟩|g
 ·refine .inl ⟨e,λr' a m=>?_⟩;rcases oW hr a with z|z
  ·exact g r' z m
  ·subst z;subst e;exact h m
 ·exact .inr g
theorem Walk1.len(W:Walk1 rows zs0 zs i):zs.length<=rows.length:=by
 have:=aax W.nd W.sub
 rwa [abD] at this
inductive bI:Ct
 |mk {word:Str} {rest zs:List Str} {ds:List D} {P:Pk} (hf:lS word rest) (h:∀b:Bool,(b=true↔E6 zs word rest)->P (.fz (.bl b)) [.fz (av word rest),.fd (zs.map Sum.inr) ds]):bI [.fz (av word rest),.fd (zs.map Sum.inr) ds] P
@[irreducible] def bi:Ct:=λos P=>∃rows:List Rw,os=[.fz (.lst (rows.map gY))]/\BookL rows/\∀(zs:List Str) (ds:List D),zs.Nodup->(∀z,z∈zs↔Emp rows z)->zs.length<=30->P (.fd (zs.map Sum.inr) ds) os
section
variable {P:Program} {w:World} {K:Frag}  
abbrev JF:Stmt:=top 28
abbrev Mz:FS:=
  (al (fIf (au (fOp aEq (fOp aIx (ab 0) (fC (.int 0))) (fC (.str "row"))))
   (bh (fCB xM (aa (bw [1] 1 (cE (ah bE (aa (fFz (ab 0)) ae))) (ac 0) jC (fOp aIn (ab 0) (ab 2))) ae)))
   aP)
  (al (fIf (au (fOp aEq (fOp aIx (ab 0) (fC (.int 0))) (fC (.str "first"))))
   (bh (fCB K8 (aa (bw [1] 1 (cE (ah bE (aa (fFz (ab 0)) ae))) (ac 0) jC (fOp aIn (ab 0) (ab 2))) ae)))
   aP)
  (bh (fOp aIn (fOp aIx (ab 0) (fC (.int 0))) (fC (.gt [.str "none", .str "again", .str "ahead", .str "not"]))))))
theorem iV{rest:List Str}(h:lS word rest):rest.length<=8:=by
 obtain⟨zs,_,h⟩:=h;rcases h with ⟨_,rfl⟩|⟨_,z,rfl,_⟩|⟨_,h,_⟩|⟨_,_,h,_⟩
 ·simp
 ·simp
 ·nofun
 ·exact h
theorem MA:Hh bI Mz [1] 2:=by
 intro os P h;obtain@⟨word,rest,zs,ds,_,j,q⟩:=h;have sz:=bG;have l:=iV j
 have g:(b8 word rest).length<=8:=by
  unfold b8;split
  ·simp
  ·exact l
 ext;refine aB ?_;ext;refine eN ?_;ext;refine⟨bq,?_⟩;ext;refine am (word = "row") bY (λc=>?_) (λc=>?_)
 ·have f:b8 word rest=rest:=by unfold b8;rw[if_neg (by rw[c];decide)]
  ext;refine .mk ?_;rw[f];ext;refine aA (λi as ρ=>∃x:Option OV,as=(rest.take i).map (λz=>D.bl (qw (zs.map Sum.inr) (.inr z)))/\ρ=[x,some (.fz (av word rest)),some (.fd (zs.map Sum.inr) ds)]) ⟨none,by simp,rfl⟩ ?_ ?_
  ·rintro i d as ρ R hd ⟨x,rfl,rfl⟩ k
   obtain⟨z,a,rfl⟩:∃z,rest[i]?=some z/\d=.str z:=by
    rw[List.getElem?_map,aaq] at hd;obtain⟨z,h1,h2⟩:=hd;exact⟨z,h1,h2.symm⟩
   ext;refine c9 ?_;ext;refine⟨by rw[abD,aah];nofun,k _ _ ⟨some (.fz (.str z)),by rw[aap,a,aad];rfl,rfl⟩⟩
  ·rintro as ρ ⟨x,rfl,rfl⟩;rw[abD,aai (aac _)];have e:rest.map (λz=>D.bl (qw (zs.map Sum.inr) (.inr z)))=(rest.map λz=>qw (zs.map Sum.inr) (.inr z)).map D.bl:=by rw[aat];rfl
   rw[e];ext;refine ou ?_;ext;refine q _ ?_;rw[List.all_map,abY];constructor
   ·intro h;exact .inl ⟨c,λz a=>bv.mp (h z a)⟩
   ·rintro (⟨_,h⟩|⟨e,_⟩|e) z a
    ·exact bv.mpr (h z a)
    ·rw[c] at e;exact absurd e (by decide)
    ·rw[c] at e;exact absurd e (by unfold JE;decide)
 ·ext;refine aB ?_;ext;refine eN ?_;ext;refine⟨bq,?_⟩;ext;refine am (word = "first") bY (λb=>?_) (λb=>?_)
  ·have f:b8 word rest=rest:=by unfold b8;rw[if_neg (by rw[b];decide)]
   ext;refine .mk ?_;rw[f];ext;refine aA (λi as ρ=>∃x:Option OV,as=(rest.take i).map (λz=>D.bl (qw (zs.map Sum.inr) (.inr z)))/\ρ=[x,some (.fz (av word rest)),some (.fd (zs.map Sum.inr) ds)]) ⟨none,by simp,rfl⟩ ?_ ?_
   ·rintro i d as ρ R hd ⟨x,rfl,rfl⟩ k
    obtain⟨z,a,rfl⟩:∃z,rest[i]?=some z/\d=.str z:=by
     rw[List.getElem?_map,aaq] at hd;obtain⟨z,h1,h2⟩:=hd;exact⟨z,h1,h2.symm⟩
    ext;refine c9 ?_;ext;refine⟨by rw[abD,aah];nofun,k _ _ ⟨some (.fz (.str z)),by rw[aap,a,aad];rfl,rfl⟩⟩
   ·rintro as ρ ⟨x,rfl,rfl⟩;rw[abD,aai (aac _)];have e:rest.map (λz=>D.bl (qw (zs.map Sum.inr) (.inr z)))=(rest.map λz=>qw (zs.map Sum.inr) (.inr z)).map D.bl:=by rw[aat];rfl
    rw[e];ext;refine ou ?_;ext;refine q _ ?_;rw[ab5,aa0];constructor
    ·rintro⟨z,a,h⟩;exact .inr (.inl ⟨b,z,a,bv.mp h⟩)
    ·rintro (⟨e,_⟩|⟨_,z,a,h⟩|e)
     ·exact absurd e c
     ·exact⟨z,a,bv.mpr h⟩
     ·rw[b] at e;exact absurd e (by unfold JE;decide)
  ·ext;refine eN ?_;ext;refine⟨⟨rfl,rfl⟩,?_⟩;ext;refine q _ ?_;rw[show [D.str (Str.ofString "none"),D.str (Str.ofString "again"),D.str (Str.ofString "ahead"),D.str (Str.ofString "not")]=([("none" : Str), "again", "ahead", "not"]).map D.str from rfl,eZ];simp only[List.mem_cons,List.not_mem_nil,or_false];constructor
   ·intro h;exact .inr (.inr h)
   ·rintro (⟨e,_⟩|⟨e,_⟩|e)
    ·exact absurd e c
    ·exact absurd e b
    ·exact e
end
section
variable {P:Program} {w:World} {K:Frag}  
theorem AT(h:(rows.map gY)[i]?=some d):∃r,rows[i]?=some r/\d=gY r:=by
 rw[List.getElem?_map,aaq] at h;obtain⟨r,h1,h2⟩:=h;exact⟨r,h1,h2.symm⟩
abbrev oX:Stmt:=top 29
abbrev zo:FS:=
  (al (b7 1 xv)
  (al (bO (fC (.bl true)) (ac 2))
  (al (fT (HU (ab 2))
   (al (bO (fC (.bl false)) (ac 2))
  (qq (cE (ab 0)) (qp 2 (da (ac 3) (da (ac 4) qo)))
   (fIf (v7 (au (fOp jF (ab 3) (ab 1))) (fW (ah bI (aa (fFz (ab 4)) (aa (ab 1) ae)))))
   (al (gT 1 (fC (.bl true)) (ab 3))
  (bO (fC (.bl true)) (ac 2)))
   aP))))
  (bh (ab 1)))))
theorem zp:Hh bi zo [] 5:=by
 intro os P h;unfold bi at h;obtain⟨rows,rfl,v,q⟩:=h;have sz:=bG;have few:=v.few;ext
 refine cG (λm ρ=>∃(zs:List Str) (ds:List D) (g:Bool) (n l:Option OV),ρ=[some (.fz (.lst (rows.map gY))),some (.fd (zs.map Sum.inr) ds),some (.fz (.bl g)),n,l]/\Walk1 rows zs zs 0/\(g=true∨uV rows zs)/\m=2*(rows.length - zs.length)+(if g=true then 1 else 0))
  _ ⟨[],[],true,none,none,rfl,Walk1.start abS (λ_ h=>by cases h) (λ_ h=>by cases h),.inl rfl,rfl⟩ ?_
 rintro m ρ R ⟨zs,ds,g,n,l,rfl,W,A,rfl⟩ x;ext
 cases g with
 | false=>
  have u:uV rows zs:=by
   rcases A with z|z
   ·cases z
   ·exact z
  refine dI ?_;ext;exact q zs ds W.nd (λz=>⟨W.emp z,λh=>h.mem u⟩) (aas W.len few)
 | true=>
  refine c9 ?_;ext
  refine bL (λi ρ=>∃(a:List Str) (c:List D) (g:Bool) (n l:Option OV),ρ=[some (.fz (.lst (rows.map gY))),some (.fd (a.map Sum.inr) c),some (.fz (.bl g)),n,l]/\Walk1 rows zs a i/\(g=false->a=zs)/\(g=true->zs.length<a.length))
   ⟨zs,ds,false,n,l,rfl,W,λ_=>rfl,λz=>nomatch z⟩ ?_ ?_
  ·rintro i d ρ E hd ⟨a,c,g,n,l,rfl,f,j,k⟩ o;obtain⟨r,hr,rfl⟩:=AT hd;have s:=List.mem_of_getElem? hr;ext;refine⟨rfl,?_⟩;ext;refine aB ?_;ext;refine am (r.1∉a) (by rw[aaT,abX,Ne,bv]) (λp=>?_) (λp=>?_)
   ·ext;refine .mk (v.ok r s).2 λb B=>?_;ext;refine am (E6 a r.2.1 r.2.2) B (λt=>?_) (λt=>?_)
    ·ext;refine⟨rfl,?_⟩;ext;have w:=f.add hr p t;refine⟨by rw[abD];have:=f.len;nofun,?_⟩;ext;refine o _ ⟨a++[r.1],(gH (a.map Sum.inr) c (.inr r.1) (.bl true)).2,true,some (.fz (.str r.1)),some (.fz (av r.2.1 r.2.2)),?_,w,(λz=>nomatch z),λ_=>?_⟩
     ·have e:=tP (zs:=a) (ds:=c) (z:=r.1) (d:=.bl true);unfold KS.dedup1 at e;rw[if_neg p] at e;rw[← e];rfl
     ·rcases w.grow with ⟨z,_⟩|z
      ·have:=congrArg List.length z;rw[abH,abd] at this;rcases f.grow with ⟨y,_⟩|y
       ·rw[y] at this;nofun
       ·nofun
      ·exact z
    ·exact o _ ⟨a,c,g,some (.fz (.str r.1)),some (.fz (av r.2.1 r.2.2)),rfl,f.skip hr λz=>absurd z t,j,k⟩
   ·ext;refine dI ?_;exact o _ ⟨a,c,g,some (.fz (.str r.1)),some (.fz (av r.2.1 r.2.2)),rfl,f.skip hr λ_=>Classical.not_not.mp p,j,k⟩
  ·rintro ρ ⟨a,c,g,n,l,rfl,f,j,k⟩;rw[abD] at f;have C:=f.len;refine x _ _ ?_ ⟨a,c,g,n,l,rfl,Walk1.start f.nd f.emp f.sub,?_,rfl⟩
   ·cases g with
    |false=>rw[j rfl,if_neg (by decide),if_pos rfl];nofun
    |true=>have:=k rfl;rw[if_pos rfl];nofun
   ·cases g with
    |true=>exact .inl rfl
    | false=>
     refine .inr ?_;have e:=j rfl;rcases f.grow with ⟨_,z⟩|z
     ·rw[aai (aac _)] at z;rw[e];exact λr hr m=>z r hr m
     ·rw[e] at z;exact absurd z (aaO _)
theorem uW{P:Pk}(a:BookL rows)(h:∀(zs:List Str) (ds:List D),zs.Nodup->(∀z,z∈zs↔Emp rows z)->zs.length<=30->P (.fd (zs.map Sum.inr) ds) [.fz (.lst (rows.map gY))]):bi [.fz (.lst (rows.map gY))] P:=by
 unfold bi;exact⟨rows,rfl,a,h⟩
theorem l8(h:(zs.map D.str)[i]?=some d):∃z,zs[i]?=some z/\d=.str z:=by
 rw[List.getElem?_map,aaq] at h;obtain⟨r,h1,h2⟩:=h;exact⟨r,h1,h2.symm⟩
end
def kF(zs:List Str):List Str->List Str
 |[]=>[]
 |p::r=>if p∈zs then p::kF zs r else [p]
theorem qS{zs a:List Str}(h:∀z,z∈zs↔z∈a):∀ps,kF zs ps=kF a ps
 |[]=>rfl
 | p::r=>by
  unfold kF;rw[qS h r];by_cases b:p∈zs
  ·rw[if_pos b,if_pos ((h p).mp b)]
  ·rw[if_neg b,if_neg λz=>b ((h p).mpr z)]
theorem oY{zs:List Str}:∀ps,(kF zs ps).length<=ps.length
 |[]=>aac _
 | p::r=>by
  unfold kF;have:=oY (zs:=zs) r;split <;> simp <;> nofun
theorem uX{p:Str}(b:ps[i]?=some p)(h:∀z∈ps.take i,z∈zs):kF zs ps=ps.take i++kF zs (ps.drop i):=by
 induction ps generalizing i with
 |nil=>simp at b
 | cons a r c=>
  cases i with
  |zero=>rfl
  | succ i=>
   rw[List.take_succ_cons] at h;have e:=h a (aab ..);rw[List.getElem?_cons_succ] at b;have:=c b λz d=>h z (aae _ d);rw[List.take_succ_cons,List.drop_succ_cons,List.cons_append,← this];rw[kF,if_pos e]
theorem E7{p:Str}(a:ps[i]?=some p):ps.drop i=p::ps.drop (i+1):=by
 obtain⟨h,e⟩:=List.getElem?_eq_some_iff.mp a;rw[aaD h,e]
theorem zq{p:Str}(a:ps[i]?=some p)(h:∀z∈ps.take i,z∈zs)(b:p∉zs):kF zs ps=ps.take (i+1):=by
 rw[uX a h,E7 a,kF,if_neg b,aap,a];rfl
theorem oZ{zs:List Str}:∀{ps:List Str},(∀z∈ps,z∈zs)->kF zs ps=ps
 |[],_=>rfl
 | p::r,h=>by
  rw[kF,if_pos (h p (aab ..)),oZ λz a=>h z (aae _ a)]
def bP(zs:List Str)(word:Str)(rest:List Str):List Str:=if word = "row" then kF zs rest else b8 word rest
def dX(zs:List Str)(r:Rw):D:=.lst ((bP zs r.2.1 r.2.2).map .str)
inductive bz:Ct
 |mk {ps zs:List Str} {ds:List D} {P:Pk} (h8:ps.length<=8) (h:P (.fl ((kF zs ps).map .str)) [.fz (.lst (ps.map .str)),.fd (zs.map Sum.inr) ds]):bz [.fz (.lst (ps.map .str)),.fd (zs.map Sum.inr) ds] P
inductive bn:Ct
 |mk {word:Str} {rest zs:List Str} {ds:List D} {P:Pk} (hf:lS word rest) (h:P (.fl ((bP zs word rest).map .str)) [.fz (av word rest),.fd (zs.map Sum.inr) ds]):bn [.fz (av word rest),.fd (zs.map Sum.inr) ds] P
inductive di:Ct
 |mk {rows:List Rw} {P:Pk} (hB:BookL rows) (h:∀zs:List Str,(∀z,z∈zs↔Emp rows z)->P (.fd ((rows.map (·.1)).map Sum.inr) (rows.map (dX zs))) [.fz (.lst (rows.map gY))]):di [.fz (.lst (rows.map gY))] P
section
variable {P:Program} {w:World} {K:Frag}  
abbrev AU:Stmt:=top 30
abbrev JG:FS:=
  (al (b7 2 (hV ae))
  (al (qq (cE (ab 0)) (ac 3)
   (al (bN (v9 2 (ab 3)))
  (fIf (au (fOp jF (ab 3) (ab 1)))
   Ay
   aP)))
  (bh (ab 2))))
theorem JH:Hh bz JG [1] 4:=by
 intro os P h;obtain@⟨ps,zs,ds,_,j,q⟩:=h;have sz:=bG;ext;refine⟨aan _,?_⟩;ext;refine bL (λi ρ=>∃x:Option OV,ρ=[some (.fz (.lst (ps.map .str))),some (.fd (zs.map Sum.inr) ds),some (.fl ((ps.take i).map .str)),x]/\∀z∈ps.take i,z∈zs) ⟨none,by simp,λz c=>by simp at c⟩ ?_ ?_
 ·rintro i d ρ R hd ⟨x,rfl,a⟩ g;obtain⟨p,b,rfl⟩:=l8 hd;ext;refine⟨rfl,?_⟩;ext;refine⟨by rw[abD,aah];nofun,?_⟩;ext;refine aB ?_;ext;refine am (p∉zs) (by rw[aaT,abX,Ne,bv]) (λf=>?_) (λf=>?_)
  ·ext;have e:=zq b a f;rw[e,aap,b,aad] at q;exact q
  ·refine g _ ⟨some (.fz (.str p)),?_,?_⟩
   ·rw[aap,b,aad];rfl
   ·intro z c;rcases oW b c with h|h
    ·exact a z h
    ·rw[h];exact Classical.not_not.mp f
 ·rintro ρ ⟨x,rfl,a⟩;rw[abD,aai (aac _)] at *;ext;rw[oZ a] at q;exact q
abbrev uY:Stmt:=top 31
abbrev E8:FS:=
  (al (fIf (au (fOp aEq (fOp aIx (ab 0) (fC (.int 0))) (fC (.str "row"))))
   (bh (ah bz (aa (fFz (ah bE (aa (fFz (ab 0)) ae))) (aa (ab 1) ae))))
   aP)
  (bh (ah bE (aa (fFz (ab 0)) ae))))
theorem E9:Hh bn E8 [1] 2:=by
 intro os P h;obtain@⟨word,rest,zs,ds,_,c,q⟩:=h;have d:=iV c;unfold bP at q;ext;refine aB ?_;ext;refine eN ?_;ext;refine⟨bq,?_⟩;ext;refine am (word = "row") bY (λa=>?_) (λa=>?_)
 ·have b:b8 word rest=rest:=by unfold b8;rw[if_neg (by rw[a];decide)]
  rw[if_pos a] at q;ext;refine .mk ?_;rw[b];ext;refine .mk d ?_;ext;exact q
 ·rw[if_neg a] at q;ext;refine .mk ?_;ext;exact q
theorem o4{f:α->β}{l:List α}{a:α}(h:l[i]?=some a):(l.take (i+1)).map f=(l.take i).map f++[f a]:=by
 rw[aap,h,aad];rfl
theorem Fa{r:Rw}(nd:(rows.map (·.1)).Nodup)(h:rows[i]?=some r):r.1∉(rows.take i).map (·.1):=by
 intro z;obtain⟨hi,e⟩:=List.getElem?_eq_some_iff.mp h;obtain⟨r',a,f⟩:=abJ.mp z;obtain⟨j,d,b⟩:=abn a;rw[List.getElem_take] at b;have c:j<i:=by rw[aah] at d;nofun
 have:=(List.getElem_inj (i:=j) (j:=i) (h₀:=by rw[abD];nofun) (h₁:=by rw[abD];nofun) nd).mp (by rw[List.getElem_map,List.getElem_map,b,e,f]);nofun
theorem zr(h:z∉zs):gH (zs.map Sum.inr) ds (.inr z) d=(zs.map Sum.inr++[.inr z],ds++[d]):=by
 unfold gH;have e:¬((zs.map Sum.inr).any λx=>decide (x=(Sum.inr z:Key)))=true:=λq=>h (bv.mp q);rw[if_neg e]
abbrev uZ:Stmt:=top 32
abbrev Fb:FS:=
  (al (b7 1 (ah bi (aa (fFz (ab 0)) ae)))
  (al (b7 2 xv)
  (al (qq (cE (ab 0)) (qp 2 (da (ac 3) (da (ac 4) qo)))
   (gT 2 (ah bn (aa (fFz (ab 4)) (aa (ab 1) ae))) (ab 3)))
  (bh (ab 2)))))
theorem Fc:Hh di Fb [] 5:=by
 intro os P h;obtain@⟨rows,_,b,q⟩:=h;have sz:=bG;have few:=b.few;ext;refine uW b λzs ds l k m=>?_;ext;refine bL (λi ρ=>∃f c:Option OV,ρ=[some (.fz (.lst (rows.map gY))),some (.fd (zs.map Sum.inr) ds),some (.fd (((rows.take i).map (·.1)).map Sum.inr) ((rows.take i).map (dX zs))),f,c]) ⟨none,none,by simp⟩ ?_ ?_
 ·rintro i d ρ R hd ⟨f,c,rfl⟩ j;obtain⟨r,hr,rfl⟩:=AT hd;have g:=List.mem_of_getElem? hr;ext;refine⟨rfl,?_⟩;ext;refine .mk (b.ok r g).2 ?_;ext;refine⟨rfl,?_⟩;ext;refine⟨by rw[abD,abD,aah];nofun,?_⟩;refine j _ ⟨some (.fz (.str r.1)),some (.fz (av r.2.1 r.2.2)),?_⟩;have a:=Fa b.nd hr;have e:=zr (ds:=(rows.take i).map (dX zs)) (d:=dX zs r) a;rw[o4 hr,o4 hr,aad];show [_,_,some (OV.fd (gH (((rows.take i).map (·.1)).map Sum.inr) ((rows.take i).map (dX zs)) (.inr r.1) (dX zs r)).1 (gH (((rows.take i).map (·.1)).map Sum.inr) ((rows.take i).map (dX zs)) (.inr r.1) (dX zs r)).2),_,_]=_;rw[e];rfl
 ·rintro ρ ⟨f,c,rfl⟩;rw[abD,aai (aac _)];ext;exact q zs k
end
abbrev dY(zs:List Str)(rows:List Rw):D:=.dct ((rows.map (·.1)).map Sum.inr) (rows.map (dX zs))
def o5(zs ls:List Str)(r:Rw):List Str:=(bP zs r.2.1 r.2.2).filter λz=>decide (z∈ls)
def JI(zs:List Str)(rows:List Rw)(S:List Str):Prop:=∀n∈S,∃r∈rows,r.1=n/\∃p∈bP zs r.2.1 r.2.2,p∈S
def AV(zs:List Str)(rows:List Rw):Prop:=∀S,JI zs rows S->S=[]
def xQ(zs:List Str)(rows:List Rw)(ls:List Str)(n:Str):Prop:=∀r∈rows,r.1=n->∀p∈bP zs r.2.1 r.2.2,p∉ls
def ni(zs:List Str)(rows:List Rw)(ls:List Str)(n:Str):Bool:=@decide (xQ zs rows ls n) (Classical.propDecidable _)
theorem gc :ni zs rows ls n=true↔xQ zs rows ls n:=by
 unfold ni;exact @decide_eq_true_iff _ (Classical.propDecidable _)
theorem Fd(sub:∀n∈ls,n∈rows.map (·.1))(h:∀n∈ls,¬xQ zs rows ls n):JI zs rows ls:=by
 intro n b;obtain⟨r,hr,e⟩:=abJ.mp (sub n b);have g:=h n b;unfold xQ at g;simp only[Classical.not_forall,Classical.not_not] at g;obtain⟨r',a,f,p,c,d⟩:=g;exact⟨r',a,f,p,c,d⟩
@[irreducible] def aV:Ct:=λos P=>∃(rows:List Rw) (zs ls:List Str) (ds:List D) (r:Rw),(os=[.fz (dY zs rows),.fz (.str r.1),.fd (ls.map Sum.inr) ds]∨os=[.fz (dY zs rows),.fz (.str r.1),.fz (.dct (ls.map Sum.inr) ds)])/\BookL rows/\r∈rows/\P (.fl ((o5 zs ls r).map .str)) os
section
variable {P:Program} {w:World} {K:Frag}  
theorem fzzd{e:D}:[OV.fz d,OV.fz e,OV.fd ks ds].length=3/\∀(j:Nat) (o:OV),[OV.fz d,OV.fz e,OV.fd ks ds][j]?=some o->j∉([2]:List Nat)->tE o=true:=⟨rfl,λj o e a=>by
 match j,e with
 |0,e=>cases e;rfl
 |1,e=>cases e;rfl
 |2,e=>exact absurd (by simp) a⟩
theorem kG{f:Rw->D}:∀{rows:List Rw} {r:Rw},(rows.map (·.1)).Nodup->r∈rows->iJ ((rows.map (·.1)).map Sum.inr) (rows.map f) (.inr r.1)=some (f r)
 |[],_,_,h=>nomatch h
 | a::rows,r,b,h=>by
  unfold iJ;rw[abG,abG,abG,ab1,List.find?_cons];rw[abG,abL] at b;by_cases e:a.1=r.1
  ·have:r=a:=by
    rcases abI.mp h with h|h
    ·exact h
    ·exact absurd (abJ.mpr ⟨r,h,e.symm⟩) b.1
   subst this;simp
  ·have h':r∈rows:=by
    rcases abI.mp h with h|h
    ·exact absurd (by rw[h]) e
    ·exact h
   rw[show decide ((Sum.inr a.1:Key)=Sum.inr r.1)=false from decide_eq_false λz=>e (aa9 z)];exact kG b.2 h'
theorem va{k:Key}(h:iJ ks ds k=some d)(q:Q d):match iJ ks ds k with
  |some d=>Q d
  |none=>False:=by rw [h];exact q
theorem qT{rest:List Str}(b:lS word rest):(bP zs word rest).length<=8:=by
 have a:=iV b;unfold bP b8;split
 ·exact aas (oY rest) a
 ·split
  ·simp
  ·exact a
abbrev o6:Stmt:=top 33
abbrev zt:FS:=
  (bh (bw [2] 1 (cE (fOp aIx (ab 0) (ab 1))) (ac 0) (au (fOp aIn (ab 0) (ab 3))) (ab 0)))
theorem fzzf{e f:D}:[OV.fz d,OV.fz e,OV.fz f].length=3/\∀(j:Nat) (o:OV),[OV.fz d,OV.fz e,OV.fz f][j]?=some o->j∉([2]:List Nat)->tE o=true:=⟨rfl,λj o e a=>by
 match j,e with
 |0,e=>cases e;rfl
 |1,e=>cases e;rfl
 |2,e=>exact absurd (by simp) a⟩
theorem zu:Lh aV 3 [2]:=λos P h=>by
 unfold aV at h;obtain⟨rows,zs,ls,ds,r,rfl|rfl,_⟩:=h
 ·exact fzzd
 ·exact fzzf
theorem zv:Hh aV zt [2] 3:=by
 intro os P h;unfold aV at h;obtain⟨rows,zs,ls,ds,r,e,c,hr,q⟩:=h;have sz:=bG;have g:=qT (zs:=zs) (c.ok r hr).2;rcases e with rfl|rfl
 ·ext;refine va (kG (f:=dX zs) c.nd hr) ?_;ext;refine aA (λi as ρ=>∃x:Option OV,as=(((bP zs r.2.1 r.2.2).take i).filter λz=>decide (z∈ls)).map .str/\ρ=[x,some (.fz (dY zs rows)),some (.fz (.str r.1)),some (.fd (ls.map Sum.inr) ds)]) ⟨none,by simp,rfl⟩ ?_ ?_
  ·rintro i d as ρ R hd ⟨x,rfl,rfl⟩ k;obtain⟨z,b,rfl⟩:=l8 hd;ext;refine am (z∈ls) bv (λa=>?_) (λa=>?_)
   ·ext;refine⟨?_,k _ _ ⟨some (.fz (.str z)),?_,rfl⟩⟩
    ·rw[abD];have:=aaW (λz=>decide (z∈ls)) ((bP zs r.2.1 r.2.2).take i);rw[aah] at this;nofun
    ·rw[aap,b,aaI,aad];simp[a]
   ·refine k _ _ ⟨some (.fz (.str z)),?_,rfl⟩;rw[aap,b,aaI,aad];simp[a]
  ·rintro as ρ ⟨x,rfl,rfl⟩;rw[abD,aai (aac _)];ext;exact q
 ·ext;refine va (kG (f:=dX zs) c.nd hr) ?_;ext;refine aA (λi as ρ=>∃x:Option OV,as=(((bP zs r.2.1 r.2.2).take i).filter λz=>decide (z∈ls)).map .str/\ρ=[x,some (.fz (dY zs rows)),some (.fz (.str r.1)),some (.fz (.dct (ls.map Sum.inr) ds))]) ⟨none,by simp,rfl⟩ ?_ ?_
  ·rintro i d as ρ R hd ⟨x,rfl,rfl⟩ k;obtain⟨z,b,rfl⟩:=l8 hd;ext;refine am (z∈ls) bv (λa=>?_) (λa=>?_)
   ·ext;refine⟨?_,k _ _ ⟨some (.fz (.str z)),?_,rfl⟩⟩
    ·rw[abD];have:=aaW (λz=>decide (z∈ls)) ((bP zs r.2.1 r.2.2).take i);rw[aah] at this;nofun
    ·rw[aap,b,aaI,aad];simp[a]
   ·refine k _ _ ⟨some (.fz (.str z)),?_,rfl⟩;rw[aap,b,aaI,aad];simp[a]
  ·rintro as ρ ⟨x,rfl,rfl⟩;rw[abD,aai (aac _)];ext;exact q
theorem qU{r:Rw}{P:Pk}(a:BookL rows)(hr:r∈rows)(h:P (.fl ((o5 zs ls r).map .str)) [.fz (dY zs rows),.fz (.str r.1),.fz (.dct (ls.map Sum.inr) ds)]):aV [.fz (dY zs rows),.fz (.str r.1),.fz (.dct (ls.map Sum.inr) ds)] P:=by
 unfold aV;exact⟨rows,zs,ls,ds,r,.inr rfl,a,hr,h⟩
end
structure Left(zs:List Str)(rows:List Rw)(ls:List Str):Prop where
 nd:ls.Nodup
 sub:∀n∈ls,n∈rows.map (·.1)
 ring:JI zs rows ls
 all:∀S,JI zs rows S->∀n∈S,n∈ls
@[irreducible] def aX:Ct:=λos P=>∃(rows:List Rw) (zs:List Str),os=[.fz (dY zs rows)]/\BookL rows/\∀(ls:List Str) (ds:List D),Left zs rows ls->P (.fd (ls.map Sum.inr) ds) os
section
variable {P:Program} {w:World} {K:Frag}  
theorem qV{P:Pk}(a:BookL rows)(h:∀(ls:List Str) (ds:List D),Left zs rows ls->P (.fd (ls.map Sum.inr) ds) [.fz (dY zs rows)]):aX [.fz (dY zs rows)] P:=by
 unfold aX;exact⟨rows,zs,rfl,a,h⟩
inductive l9:Ct
 |mk {rows:List Rw} {P:Pk} (hB:BookL rows) (hN:∀zs:List Str,(∀z,z∈zs↔Emp rows z)->AV zs rows) (h:P (.fz .non) [.fz (.lst (rows.map gY))]):l9 [.fz (.lst (rows.map gY))] P
abbrev AW:Stmt:=top 35
abbrev JJ:FS:=
  (al (bO (ah di (aa (fFz (ab 0)) ae)) (ac 1))
  (al (b7 2 (ah aX (aa (fFz (ab 1)) ae)))
  (al (fIf (au (fOp aEq (fCB et (aa (ab 2) ae)) (fC (.int 0))))
   (bh (fC .non))
   aP)
  (al fw
  (al fw
  (al fw
  fw))))))
theorem JK:Hh l9 JJ [] 5:=by
 intro os P h;obtain@⟨rows,_,b,d,q⟩:=h;ext;refine .mk b λzs c=>?_;ext;refine qV b λls ds L=>?_;ext;refine aB ?_;ext;refine⟨aq,?_⟩;ext;refine am (ls=[]) ?_ (λe=>?_) (λa=>absurd (d zs c ls L.ring) a)
 ·rw[aL,abD];constructor
  ·intro h;exact aaC (by nofun)
  ·intro h;rw[h];rfl
 ·ext;exact q
end
theorem ma:∀ls:List Str,(ls.map Sum.inr:List Key).map xN=ls.map D.str
 |[]=>rfl
 |z::ls=>by rw[abG,abG,abG,ma ls];rfl
structure Away(zs:List Str)(rows:List Rw)(ls:List Str):Prop where
 nd:ls.Nodup
 sub:∀n∈ls,n∈rows.map (·.1)
 all:∀S,JI zs rows S->∀n∈S,n∈ls
theorem Away.len(O:Away zs rows ls):ls.length<=rows.length:=by
 have:=aax O.nd O.sub
 rwa [abD] at this
theorem Away.next(O:Away zs rows ls):Away zs rows (ls.filter λz=>decide (z∉ls.filter (ni zs rows ls))):=by
 refine⟨O.nd.sublist List.filter_sublist,λn a=>O.sub n (abQ.mp a).1,λS c n a=>abQ.mpr ⟨O.all S c n a,decide_eq_true λz=>?_⟩⟩;have g:=gc.mp (abQ.mp z).2;obtain⟨r,hr,e,p,d,b⟩:=c n a;exact g r hr e p d (O.all S c p b)
theorem o7(nd:(rows.map (·.1)).Nodup){r r':Rw}(hr:r∈rows)(a:r'∈rows)(e:r'.1=r.1):r'=r:=by
 obtain⟨f,h1,c⟩:=abn hr;obtain⟨d,h2,b⟩:=abn a;have:=(List.getElem_inj (i:=d) (j:=f) (h₀:=by rw[abD];nofun) (h₁:=by rw[abD];nofun) nd).mp (by rw[List.getElem_map,List.getElem_map,c,b,e]);subst this;rw[← c,← b]
theorem nj{r:Rw}(nd:(rows.map (·.1)).Nodup)(hr:r∈rows):o5 zs ls r=[]↔xQ zs rows ls r.1:=by
 unfold o5;rw[List.filter_eq_nil_iff];constructor
 ·intro h r' b e p a c;rw[o7 nd hr b e] at a;exact h p a (decide_eq_true c)
 ·intro h p a c;exact h r hr rfl p a (of_decide_eq_true c)
theorem md:∀{ls:List Str} {ds:List D} {z:Str},ds.length=ls.length->z∈ls->∃d,iJ (ls.map Sum.inr) ds (.inr z)=some d
 |[],_,_,_,h=>nomatch h
 |a::ls,[],_,h,_=>by simp at h
 | a::ls,d::ds,z,h,b=>by
  unfold iJ;rw[abG,ab1,List.find?_cons];by_cases e:a=z
  ·subst e;exact⟨d,by simp⟩
  ·rw[show decide ((Sum.inr a:Key)=Sum.inr z)=false from decide_eq_false λy=>e (aa9 y)];exact md (by exists h) ((abI.mp b).resolve_left λy=>e y.symm)
theorem o8:∀{ls:List Str} {ds:List D} {z:Str},ds.length=ls.length->∃b,mY (ls.map Sum.inr) ds (.inr z)=((ls.filter λx=>decide (x≠z)).map Sum.inr,b)/\b.length=(ls.filter λx=>decide (x≠z)).length
 |[],[],_,_=>⟨[],rfl,rfl⟩
 |[],d::ds,_,h=>by simp at h
 |a::ls,[],_,h=>by simp at h
 | a::ls,d::ds,z,h=>by
  obtain⟨b,e,f⟩:=o8 (ls:=ls) (ds:=ds) (z:=z) (by exists h);unfold mY at e ⊢;injection e with i g
  by_cases q:a=z
  ·refine⟨b,?_,?_⟩
   ·subst q;simp only[List.map_cons,List.zip_cons_cons,List.filter_cons,ne_eq,not_true_eq_false,decide_false,if_neg Bool.false_ne_true];exact congr (congrArg _ i) g
   ·subst q;simpa using f
  ·have j:decide ((Sum.inr a:Key)≠Sum.inr z)=true:=decide_eq_true λy=>q (aa9 y);have c:decide (a≠z)=true:=decide_eq_true q;refine⟨d::b,?_,?_⟩
   ·simp only[List.map_cons,List.zip_cons_cons,List.filter_cons,j,c,if_pos];rw[i,g]
   ·simp only[List.filter_cons,c,if_pos,List.length_cons,f]
theorem gC :(ls.filter λz=>decide (z∉([]:List Str)))=ls:=List.filter_eq_self.mpr λa _=>by simp
theorem qW(nd:E.Nodup)(h:E[i]?=some z):z∉E.take i:=λb=>by
 obtain⟨hi,e⟩:=List.getElem?_eq_some_iff.mp h;obtain⟨k,c,a⟩:=abn b;rw[List.getElem_take] at a;rw[aah] at c;have:=(List.getElem_inj nd).mp (a.trans e.symm);nofun
theorem iW(h:E[i]?=some z):((ls.filter λz=>decide (z∉E.take i)).filter λx=>decide (x≠z))=ls.filter λz=>decide (z∉E.take (i+1)):=by
 rw[List.filter_filter];refine List.filter_congr λx _=>?_;rw[aap,h];simp only[Option.toList,List.mem_append,List.mem_singleton];by_cases h1:x=z <;> by_cases h2:x∈E.take i <;> simp[h1,h2]
section
variable {P:Program} {w:World} {K:Frag}  
abbrev mf:Stmt:=top 34
abbrev vb:FS:=
  (al (b7 1 (fCB DY (aa (ab 0) ae)))
  (al (bO (fC (.bl true)) (ac 2))
  (al (fT (HU (ab 2))
   (al (bO (t0 [0,1] 1 1 (ac 0) (au (fOp aEq (fCB et (aa (ah aV (aa (fFz (ab 1)) (aa (fFz (ab 0)) (aa (ab 2) ae)))) ae)) (fC (.int 0)))) (ab 0)) (ac 3))
  (al (qq (cE (ab 3)) (ac 4)
   (bN (DU 1 (ab 4))))
  (bO (fOp (gU (λi j=>decide (j<i)) λi j=>aU j i) (fCB et (aa (ab 3) ae)) (fC (.int 0))) (ac 2)))))
  (bh (ab 1)))))
theorem vc:Hh aX vb [] 5:=by
 intro os P h;unfold aX at h;obtain⟨rows,zs,rfl,v,q⟩:=h;have sz:=bG;have few:=v.few;ext
 refine cG (λm ρ=>∃(ls:List Str) (ds:List D) (b:Bool) (w t:Option OV),ρ=[some (.fz (dY zs rows)),some (.fd (ls.map Sum.inr) ds),some (.fz (.bl b)),w,t]/\Away zs rows ls/\ds.length=ls.length/\(b=false->∀n∈ls,¬xQ zs rows ls n)/\m=if b then ls.length+1 else 0)
  _ ⟨rows.map (·.1),rows.map (dX zs),true,none,none,rfl,⟨v.nd,λ_ h=>h,λS K n j=>?_⟩,by rw[abD,abD],(λz=>nomatch z),rfl⟩ ?_
 ·obtain⟨r,hr,e,_⟩:=K n j;exact abJ.mpr ⟨r,hr,e⟩
 ·rintro m ρ R ⟨ls,ds,b,w,t,rfl,O,I,J,rfl⟩ G;have H:=O.len;ext;refine am (b=true) Iff.rfl (λe=>?_) (λe=>?_)
  ·subst e;ext;rw[show Mf (ls.map Sum.inr) ds=ls.map D.str from ma ls];refine aA (λi as ρ=>∃x:Option OV,as=((ls.take i).filter (ni zs rows ls)).map .str/\ρ=[x,some (.fz (dY zs rows)),some (.fz (.dct (ls.map Sum.inr) ds)),some (.fz (.bl true)),fzo w,fzo t]) ⟨none,by simp,rfl⟩ ?_ ?_
   ·rintro k d as ρ V hd ⟨x,rfl,rfl⟩ u;obtain⟨n,j,rfl⟩:=l8 hd;obtain⟨r,hr,rfl⟩:=abJ.mp (O.sub n (List.mem_of_getElem? j));ext;refine qU v hr ?_;ext;refine⟨aq,?_⟩;ext;refine am (xQ zs rows ls r.1) ?_ (λB=>?_) (λB=>?_)
    ·rw[aL,abD,← nj v.nd hr];constructor
     ·intro h;exact aaC (by nofun)
     ·intro h;rw[h];rfl
    ·ext;refine⟨?_,u _ _ ⟨some (.fz (.str r.1)),?_,rfl⟩⟩
     ·rw[abD];have:=aaW (ni zs rows ls) (ls.take k);rw[aah] at this;nofun
     ·rw[aap,j,aaI,aad];simp[gc.mpr B]
    ·refine u _ _ ⟨some (.fz (.str r.1)),?_,rfl⟩;rw[aap,j,aaI,aad];have:ni zs rows ls r.1=false:=abX.mpr λz=>B (gc.mp z);simp[this]
   ·rintro as ρ ⟨x,rfl,rfl⟩;rw[abD,aai (aac _)];refine⟨⟨_,rfl⟩,?_⟩;ext;generalize o:ls.filter (ni zs rows ls)=E;have a:∀z∈E,z∈ls:=λz l=>by rw[← o] at l;exact(abQ.mp l).1
    have s:E.Nodup:=by rw[← o];exact O.nd.sublist List.filter_sublist
    have L:E.length<=ls.length:=by rw[← o];exact aaW ..
    refine bL (λi ρ=>∃(c:List D) (x:Option OV),ρ=[some (.fz (dY zs rows)),some (.fd ((ls.filter λz=>decide (z∉E.take i)).map Sum.inr) c),some (.fz (.bl true)),some (.fz (.lst (E.map .str))),x]/\c.length=(ls.filter λz=>decide (z∉E.take i)).length) ⟨ds,t,?_,?_⟩ ?_ ?_
    ·rw[List.take_zero,gC]
    ·rw[List.take_zero,gC,I]
    ·rintro i d ρ V hd ⟨c,x,rfl,f⟩ u;obtain⟨z,l,rfl⟩:=l8 hd;have A:z∈ls.filter λz=>decide (z∉E.take i):=abQ.mpr ⟨a z (List.mem_of_getElem? l),decide_eq_true (qW s l)⟩;obtain⟨X,T⟩:=md f A;obtain⟨F,Q,C⟩:=o8 (z:=z) f;ext;refine⟨rfl,?_⟩;ext;refine va T ?_;refine u _ ⟨F,some (.fz (.str z)),?_,?_⟩
     ·rw[Q,iW l];rfl
     ·rw[C,iW l]
    ·rintro ρ ⟨c,x,rfl,f⟩;rw[abD,aai (aac _)] at *;have W:Away zs rows (ls.filter λz=>decide (z∉E)):=by rw[← o];exact O.next
     ext;refine G _ _ ?_ ⟨_,c,_,_,_,rfl,W,f,?_,rfl⟩
     ·rw[if_pos rfl];split
      ·rename_i h;have p:(0:Int)<((E.map D.str).length:Nat):=of_decide_eq_true h;rw[abD] at p
       have:(ls.filter λz=>decide (z∉E)).length<ls.length:=by
        cases E with
        |nil=>simp at p
        | cons y E=>
         refine List.length_filter_lt_length_iff_exists.mpr ⟨y,a y (aab ..),?_⟩;simp
       nofun
      ·nofun
     ·intro h n j g;have M:¬(0:Int)<((E.map D.str).length:Nat):=of_decide_eq_false h;rw[abD] at M;have N:E=[]:=aaC (by nofun);subst N;rw[gC] at j g;rw[List.filter_eq_nil_iff] at o;exact o n j (gc.mpr g)
  ·have U:b=false:=by cases b with|true=>exact absurd rfl e|false=>rfl
   subst U;ext;exact q ls ds ⟨O.nd,O.sub,Fd O.sub (J rfl),O.all⟩
end
structure BookR(rows:List Rw):Prop where
 b:BookL rows
 rise:My rows
 free:∀zs:List Str,(∀z,z∈zs↔Emp rows z)->AV zs rows
inductive aY:Ct
 |mk {rows:List Rw} {P:Pk} (B:BookR rows) (h:P (.fz .non) [.fz (kE rows)]):aY [.fz (kE rows)] P
abbrev JL:Stmt:=top 46
abbrev MB:FS:=
  (al (fIf (mE (fW (ah eT (aa (fFz (ab 0)) ae))))
   fw
   aP)
  (fIf (au (fOp tR (ah l9 (aa (fFz (ab 0)) ae)) (fC .non)))
   fw
   aP))
theorem MC:Hh aY MB [] 1:=by
 intro os P h;obtain@⟨rows,_,B,q⟩:=h;have few:=B.b.few;ext;refine aB ?_;ext;refine .mk (by nofun) B.b.ok B.rise ?_;ext;refine dI ?_;ext;refine aB ?_;ext;refine .mk B.b B.free ?_;ext;refine dI ?_;ext;exact q
structure AskR(rows:List Rw)(n z:Str)(k:Nat):Prop where
 b:BookR rows
 n:db n
 t:fL z
 s:z.length<sizeLine
 k:k<=z.length
abbrev Gc(rows:List Rw)(n z:Str)(k:Nat):List OV:=[.fz (kE rows),.fz (.str n),.fz (.str z),.fz (.int k)]
inductive bJ:Ct
 |mk {rows:List Rw} {n z:Str} {k:Nat} {P:Pk} (A:AskR rows n z k) (h:P (.fz .non) (Gc rows n z k)):bJ (Gc rows n z k) P
abbrev Nm:Stmt:=top 47
abbrev f_rw:FS:=
  (al (bN (ah aY (aa (fFz (ab 0)) ae)))
  (al (fIf (mE (fW (ah ck (aa (fFz (ab 1)) ae))))
   fw
   aP)
  (al (fIf (mE (fW (ah dh (aa (fFz (ab 2)) ae))))
   fw
   aP)
  (fIf (mE (fW (ah dg (aa (fFz (ab 2)) (aa (fFz (ab 3)) ae)))))
   fw
   aP))))
theorem h_rw:Hh bJ f_rw [] 4:=by
 intro os P h;obtain@⟨rows,n,z,k,_,A,q⟩:=h;ext;refine .mk A.b ?_;ext;refine aB ?_;ext;refine .mk A.n ?_;ext;refine dI ?_;ext;refine aB ?_;ext;refine .mk A.s A.t ?_;ext;refine dI ?_;ext;refine aB ?_;ext;refine .mk A.k (ab4 A.s) ?_;ext;refine dI ?_;ext;exact q
abbrev rsR(rows:List Rw):List (Str×D):=rows.map λr=>(r.1,av r.2.1 r.2.2)
abbrev ksR(rows:List Rw):List Key:=(rsR rows).map λr=>.inr r.1
abbrev dsR(rows:List Rw):List D:=(rsR rows).map (·.2)
theorem mh:∀rows:List Rw,m3 (rows.map gY)=some (rsR rows)
 |[]=>rfl
 | r::rows=>by
  show (match m3 (rows.map gY) with
   |some q=>some ((r.1,av r.2.1 r.2.2)::q)
   |none=>none)=_
  rw[mh rows];rfl
theorem vd{Q:List (Str×D)->Prop}(h:Q (rsR rows)):match m3 (rows.map gY) with
  |some a=>Q a
  |none=>False:=by rw [mh];exact h
theorem JM(nd:(rows.map (·.1)).Nodup):((rsR rows).map (·.1)).Nodup:=by rw[aat];exact nd
def rlR(w:Str)(p:List Str):Rl:=if w = "none" then .leaf .none else if w = "any" then .leaf .any else if w = "signs" then .leaf (.signs (p.headD "")) else .comp w p
def jn(rows:List Rw):Rls:=λn=>match rows.find? λr=>decide (r.1=n) with
 |none=>.leaf .lack
 |some r=>rlR r.2.1 r.2.2
theorem MD(h:lS w p):av w p=rlD (rlR w p):=by
 obtain⟨zs,_,h⟩:=h;unfold rlR;by_cases h1:w = "none"
 ·rw[if_pos h1];subst h1;rcases h with ⟨_,rfl⟩|⟨y,_⟩|⟨y,_⟩|⟨y,_⟩
  ·rfl
  ·exact absurd y (by decide +kernel)
  ·exact absurd y (by decide +kernel)
  ·exact absurd y (by decide +kernel)
 rw[if_neg h1];by_cases h2:w = "any"
 ·rw[if_pos h2];subst h2;rcases h with ⟨_,rfl⟩|⟨y,_⟩|⟨y,_⟩|⟨y,_⟩
  ·rfl
  ·exact absurd y (by decide +kernel)
  ·exact absurd y (by decide +kernel)
  ·exact absurd y (by decide +kernel)
 rw[if_neg h2];by_cases a:w = "signs"
 ·rw[if_pos a];subst a;rcases h with ⟨y,_⟩|⟨_,z,rfl,_⟩|⟨y,_⟩|⟨y,_⟩
  ·exact absurd y (by decide +kernel)
  ·rfl
  ·exact absurd y (by decide +kernel)
  ·exact absurd y (by decide +kernel)
 rw[if_neg a];rfl
theorem zw{f:Str}{a:List Str}(h:uv zs w p)(e:rlR w p=.comp f a):f ≠ "signs" /\ 1<=a.length/\a.length<=8/\∀x∈a,x∈zs:=by
 unfold rlR at e;split at e
 ·cases e
 ·rename_i h1;split at e
  ·cases e
  ·rename_i h2;split at e
   ·cases e
   ·rename_i c;cases e;rcases h with ⟨y|y,_⟩|⟨y,_⟩|⟨_,d,b⟩|⟨_,d,b,g⟩
    ·exact absurd y h1
    ·exact absurd y h2
    ·exact absurd y c
    ·exact⟨c,by nofun,by nofun,b⟩
    ·exact⟨c,d,b,g⟩
theorem ve(f:Rw->D)(n:Str):∀rows:List Rw,iJ (rows.map λr=>(.inr r.1:Key)) (rows.map f) (.inr n)=(rows.find? λr=>decide (r.1=n)).map f
 |[]=>rfl
 | r::rows=>by
  unfold iJ;rw[abG,abG,ab1,List.find?_cons,List.find?_cons];by_cases e:r.1=n
  ·rw[show decide ((Sum.inr r.1:Key)=Sum.inr n)=true from decide_eq_true (by rw[e]),show decide (r.1=n)=true from decide_eq_true e];rfl
  ·rw[show decide ((Sum.inr r.1:Key)=Sum.inr n)=false from decide_eq_false λy=>e (aa9 y),show decide (r.1=n)=false from decide_eq_false e];exact ve f n rows
theorem o9(B:BookL rows):gK (ksR rows) (dsR rows) (jn rows):=λn=>by
 have e:iJ (ksR rows) (dsR rows) (.inr n)=(rows.find? λr=>decide (r.1=n)).map λr=>av r.2.1 r.2.2:=by
  have:=ve (λr=>av r.2.1 r.2.2) n rows;unfold ksR dsR rsR;rw[aat,aat];exact this
 rw[e];unfold jn
 cases h:rows.find? λr=>decide (r.1=n) with
 |none=>rfl
 |some r=>exact MD (B.ok r (List.mem_of_find?_eq_some h)).2
theorem JN(h:∀r∈rows,EN zs r.2.1 r.2.2)(n:Str):iQ (jn rows) (n::zs):=λm w p e=>by
 unfold jn at e
 cases a:rows.find? λr=>decide (r.1=m) with
 |none=>rw[a] at e;cases e
 | some r=>
  rw[a] at e;obtain⟨h1,h2,d,c⟩:=zw (h r (List.mem_of_find?_eq_some a)).2 e;exact⟨h1,h2,d,λx b=>aae _ (c x b)⟩
theorem ME(A:AskR rows n z k)(b:z.length<=10000)(a:f<sizeLine):∃zs:List Str,zs.length<=46/\MkOk (jn rows) z zs n k f:=by
 obtain⟨zs,h1,h2⟩:=A.b.b.pool;refine⟨n::zs,by rw[abM];nofun,JN h2 n,aab ..,A.k,?_,?_,?_,a⟩
 ·rw[sizeLine_eq];nofun
 ·rw[sizeLine_eq,abM];have:(zs.length+1)*(z.length+1)<=46*10001:=Nat.mul_le_mul (by nofun) (by nofun);nofun
 ·rw[sizeLine_eq,abM];nofun
inductive cp:Ct
 |mk {rows:List Rw} {n z:Str} {k f:Nat} {r:Res} {P:Pk} (A:AskR rows n z k) (hz:z.length<=10000) (hf:f<sizeLine) (hr:rdF (jn rows) z f n k=some r) (h:∀(zs:List Str) (K:Kp),zs.length<=46->MkOk (jn rows) z zs n k f->KpOk (jn rows) z zs K->((n,k),r)∈K->P (ng K) (Gc rows n z k)):cp (Gc rows n z k) P
abbrev vf:Stmt:=top 48
abbrev Fe:FS:=
  (al (bN (ah bJ (aa (fFz (ab 0)) (aa (fFz (ab 1)) (aa (fFz (ab 2)) (aa (fFz (ab 3)) ae))))))
  (al (b7 4 uf)
  (al (bN (ah iT (aa (fFz (fCB oF (aa (ab 0) ae))) (aa (fFz (ab 2)) (aa (ab 4) (aa (fFz (ab 1)) (aa (fFz (ab 3)) ae)))))))
  (bh (ab 4)))))
theorem Ff:Hh cp Fe [] 5:=by
 intro os P h;obtain@⟨rows,n,z,k,f,r,_,A,c,d,hr,q⟩:=h;obtain⟨zs,a,M⟩:=ME A c d;ext;refine .mk A ?_;ext;refine vd ⟨JM A.b.b.nd,?_⟩;ext;refine E2 (K:=[]) (o9 A.b.b) M ⟨abS,(λ_ y=>nomatch y),λ_ y=>nomatch y⟩ hr λg e b=>?_;ext;exact q zs g a M e b
inductive dm:Ct
 |mk {rows:List Rw} {n z:Str} {k f:Nat} {r:Res} {P:Pk} (A:AskR rows n z k) (hz:z.length<=10000) (hf:f<sizeLine) (hr:rdF (jn rows) z f n k=some r) (h:∀a b,P (.ot [.fz (ib r.ln),.fz (.int ((r.far:Int) - (k:Int)+1)),.fl a ((dc [] (kT (jn rows) z f (n,k))).map bt),.fl b ((bC r.ls).map .str)]) (Gc rows n z k)):dm (Gc rows n z k) P
abbrev mj:Stmt:=top 49
abbrev vg:FS:=
  (al (bO (ah cp (aa (fFz (ab 0)) (aa (fFz (ab 1)) (aa (fFz (ab 2)) (aa (fFz (ab 3)) ae))))) (ac 4))
  (al (bO (fOp aIx (ab 4) (c6 (aa (ab 1) (aa (ab 3) ae)))) (qp 3 (da (ac 5) (da (ac 6) (da (ac 7) qo)))))
  (bh (lP (aa (ab 5) (aa (ab 6) (aa (ah b9 (aa (fFz (fCB oF (aa (ab 0) ae))) (aa (fFz (ab 2)) (aa (fFz (ab 4)) (aa (fFz (ab 1)) (aa (fFz (ab 3)) ae)))))) (aa (fCB cF (aa (ab 7) ae)) ae))))))))
theorem vh:Hh dm vg [] 8:=by
 intro os P h;obtain@⟨rows,n,z,k,f,r,_,A,d,e,hr,q⟩:=h;ext;refine .mk A d e hr λzs K c M b a=>?_;have T:=b.res M.r a;have g:r.ls.length<=zs.length:=aax T.nd T.sub;ext;refine⟨(by rw[sizeLine_eq];exact(by decide:(2:Nat)<=16777216)),?_⟩;ext;refine kB (show jl (kU K) (lX K) [.inr n,.inl (k:Int)]=some (yZ k r) from iS b.nd a) ?_;ext;refine⟨rfl,?_⟩;ext;refine vd ⟨JM A.b.b.nd,?_⟩;ext;refine qR (o9 A.b.b) M b hr a ?_;ext;refine lN (zs:=r.ls) (by nofun) ?_;ext;intro as;ext;refine⟨(by rw[sizeLine_eq];exact(by decide:(4:Nat)<=16777216)),?_⟩;ext;exact q _ _
abbrev bj(b0 b1 b2:Int):OV:=.fl [.int b0,.int b1,.int b2]
def WellB(b1 b2 n:Int):Prop:=0<=b1/\b1<2 ^ 200/\0<=b2/\b2<=n
theorem WellB.mono{m n:Int}(h:WellB b1 b2 m)(e:m<=n):WellB b1 b2 n:=⟨h.1,h.2.1,h.2.2.1,Int.le_trans h.2.2.2 e⟩
@[irreducible] def bm:Ct:=λos P=>∃(ns:List Int) (k:Nat),os=[.fz (.lst (ns.map .int)),.fz (.int k)]/\∀z:Int,P (.fz (.int z)) os
abbrev AX:Stmt:=top 51
abbrev JO:FS:=
  (al (fIf (au (fOp (gU (λi j=>decide (i<j)) aU) (ab 1) (fCB et (aa (ab 0) ae))))
   (bh (fOp aIx (ab 0) (ab 1)))
   aP)
  (bh (fC (.int 0))))
theorem JP:Hh bm JO [] 2:=by
 intro os P h;unfold bm at h;obtain⟨ns,k,rfl,q⟩:=h;ext;refine aB ?_;ext;refine am ((k:Int)<(ns.map D.int).length) (by simp) (λb=>?_) (λ_=>?_)
 ·ext;have a:k<ns.length:=by rw[abD] at b;nofun
  have e:atI (ns.map D.int) (k:Int)=some (.int ns[k]):=bf (by simp[a])
  show match atI (ns.map D.int) (k:Int) with
   |some d=>_
   |none=>False
  rw[e];exact q _
 ·ext;exact q _
theorem Fg{ns:List Int}(h:∀z:Int,P (.fz (.int z)) [.fz (.lst (ns.map .int)),.fz (.int k)]):bm [.fz (.lst (ns.map .int)),.fz (.int k)] P:=by
 unfold bm;exact⟨ns,k,rfl,h⟩
inductive cy:Ct
 |mk {a b:Int} {P:Pk} (a0:0<=a) (a1:a<2 ^ 200) (b0:0<=b) (b1:b<2 ^ 41) (h:∀z:Int,0<=z->P (.fz (.int z)) [.fz (.int a),.fz (.int b)]):cy [.fz (.int a),.fz (.int b)] P
abbrev AY:Stmt:=top 52
abbrev JQ:FS:=
  (al (bO (fOp b6 (fOp (aIC qG λi j=>.int (i*j)) (fOp b6 (ab 0) (fC (.int 1))) (fC (.int 50219736400000000000000111))) (fOp (aIC qG λi j=>.int (i*j)) (fOp b6 (ab 1) (fC (.int 1))) (fC (.int 7710038100000000000000040117)))) (ac 2))
  (bh (fOp (aIC (λ_ j=>0<j) λi j=>.int (i % j)) (fOp (aIC um λi j=>.int (i ^ j.toNat)) (ab 2) (fC (.int 5))) (fC (.int 9403300000000000000000000000000000000009043)))))
theorem kH{x:Int}(a:0<=x)(h:x<2 ^ 300):x.natAbs<2 ^ 1000:=by
 have:(2:Nat) ^ 300<2 ^ 1000:=by decide +kernel
 nofun
theorem JR:Hh cy JQ [] 3:=by
 intro os P h;obtain@⟨a,b,_,d,c,b0,b1,q⟩:=h;ext;refine⟨⟨kH (x:=a+1) (by nofun) (by nofun),by decide +kernel⟩,?_⟩;ext;refine⟨⟨kH (x:=b+1) (by nofun) (by nofun),by decide +kernel⟩,?_⟩;ext;refine⟨⟨by decide,by decide,kH (x:=(a+1)*50219736400000000000000111+(b+1)*7710038100000000000000040117) (by nofun) (by nofun)⟩,?_⟩;ext;refine⟨(by decide:(0:Int)<9403300000000000000000000000000000000009043),?_⟩;ext;exact q _ (Int.emod_nonneg _ (by decide))
inductive dq:Ct
 |mk {z:Int} {k:Nat} {P:Pk} (hk:k<=100) (h:∀b0 b1 b2,0<=b0->WellB b1 b2 0->P (bj b0 b1 b2) [.fz (.int z),.fz (.int k)]):dq [.fz (.int z),.fz (.int k)] P
abbrev AZ:Stmt:=top 53
abbrev JS:FS:=
  (al (bO (fOp b6 (fOp (aIC CMul λi j=>.int (i*j)) (fOp (aIC (λ_ j=>0<j) λi j=>.int (i % j)) (ab 0) (fC (.int 9403300000000000000000000000000000000009043))) (fC (.int 128))) (ab 1)) (ac 2))
  (al (fIf (au (fOp (gU (λi j=>decide (j<=i)) λi j=>!aU i j) (ab 0) (fOp (aIC F0 λi j=>.int (i ^ j.toNat)) (fC (.int 10)) (fC (.int 18)))))
   (bh (hV (aa (fOp (aI0 λi j=>.int (i - j)) (ab 0) (fOp (aIC F0 λi j=>.int (i ^ j.toNat)) (fC (.int 10)) (fC (.int 18)))) (aa (ab 2) (aa (fC (.int 0)) ae)))))
   aP)
  (bh (hV (aa (ah cy (aa (fFz (ab 2)) (aa (fC (.int 0)) ae))) (aa (ab 2) (aa (fC (.int 0)) ae)))))))
theorem JT:Hh dq JS [] 3:=by
 intro os P h;obtain@⟨z,k,_,g,q⟩:=h;have f:=Int.emod_nonneg z (show (9403300000000000000000000000000000000009043:Int)≠0 by decide);have e:=Int.emod_lt_of_pos z (show (0:Int)<9403300000000000000000000000000000000009043 by decide);have b:0<=z % 9403300000000000000000000000000000000009043*128+(k:Int):=by nofun
 have a:z % 9403300000000000000000000000000000000009043*128+(k:Int)<2 ^ 200:=by nofun
 ext;refine⟨(by decide:(0:Int)<9403300000000000000000000000000000000009043),?_⟩;ext;refine⟨.inr ⟨by decide,by decide⟩,?_⟩;ext;refine aB ?_;ext;refine⟨⟨by decide,by decide,by decide⟩,?_⟩;ext;refine am ((10:Int) ^ (18:Int).toNat<=z) decide_eq_true_iff (λc=>?_) (λc=>?_)
 ·ext;refine⟨⟨by decide,by decide,by decide⟩,?_⟩;ext;refine⟨by show 3<=sizeLine;decide,?_⟩;ext;exact q _ _ _ (Int.sub_nonneg_of_le c) ⟨b,a,Int.le_refl _,Int.le_refl _⟩
 ·ext;refine .mk b a (Int.le_refl _) (by decide) λy d=>?_;ext;refine⟨by show 3<=sizeLine;decide,?_⟩;ext;exact q _ _ _ d ⟨b,a,Int.le_refl _,Int.le_refl _⟩
@[irreducible] def ag:Ct:=λos P=>∃(b0 b1 b2 m n:Int),os=[bj b0 b1 b2,.fz (.int m)]/\WellB b1 b2 n/\n<2 ^ 40/\0<m/\m<1000000/\∀r c b a,0<=r->r<m->WellB b a (n+1)->P (.fz (.int r)) [bj c b a,.fz (.int m)]
abbrev A6:Stmt:=top 54
abbrev JU:FS:=
  (al (fIf (au (fOp aEq (fOp aIx (ab 0) (fC (.int 0))) (fC (.int 0))))
   (al (oe 0 (fOp b6 (fOp aIx (ab 0) (fC (.int 2))) (fC (.int 1))) (fC (.int 2)))
  (oe 0 (ah cy (aa (fFz (fOp aIx (ab 0) (fC (.int 1)))) (aa (fFz (fOp aIx (ab 0) (fC (.int 2)))) ae))) (fC (.int 0))))
   aP)
  (al (bO (fOp (aIC (λ_ j=>0<j) λi j=>.int (i % j)) (fOp aIx (ab 0) (fC (.int 0))) (ab 1)) (ac 2))
  (al (oe 0 (fOp (aIC BK λi j=>.int (i / j)) (fOp aIx (ab 0) (fC (.int 0))) (ab 1)) (fC (.int 0)))
  (bh (ab 2)))))
theorem JV:Hh ag JU [0] 3:=by
 intro os P h;unfold ag at h;obtain⟨b0,b1,b2,m,n,rfl,⟨h1,a,h2,e⟩,g,b,c,q⟩:=h;ext;refine aB ?_;ext;refine⟨aq,?_⟩;ext;refine am (b0=0) aL (λd=>?_) (λd=>?_)
 ·ext;refine⟨rfl,?_⟩;ext;refine .mk h1 a (show 0<=b2+1 by nofun) (by nofun) λy f=>?_;ext;refine⟨rfl,?_⟩;ext;refine⟨b,?_⟩;ext;refine⟨⟨b,by nofun⟩,?_⟩;ext;refine⟨rfl,?_⟩;ext;exact q _ _ _ _ (Int.emod_nonneg _ (by nofun)) (Int.emod_lt_of_pos _ b) ⟨h1,a,by nofun,by nofun⟩
 ·ext;refine⟨b,?_⟩;ext;refine⟨⟨b,by nofun⟩,?_⟩;ext;refine⟨rfl,?_⟩;ext;exact q _ _ _ _ (Int.emod_nonneg _ (by nofun)) (Int.emod_lt_of_pos _ b) ⟨h1,a,h2,by nofun⟩
theorem aZ{m:Int}(n:Int)(g:WellB b1 b2 n)(e:n<2 ^ 40)(f:0<m)(c:m<1000000)(h:∀r d b a,0<=r->r<m->WellB b a (n+1)->P (.fz (.int r)) [bj d b a,.fz (.int m)]) :
  ag [bj b0 b1 b2,.fz (.int m)] P:=by
 unfold ag;exact⟨b0,b1,b2,m,n,rfl,g,e,f,c,h⟩
def JW(z:Str):Prop:=z.cps.toList.length=1/\∀c∈z.cps.toList,32<=c/\c<=126/\c≠37
inductive cz:Ct
 |mk {b0 b1 b2:Int} (n:Int) {P:Pk} (hb:WellB b1 b2 n) (hn:n<2 ^ 39) (h:∀(c:Nat) (b0' b1' b2':Int),c∈fq.cps.toList->WellB b1' b2' (n+1)->P (.fz (.str ⟨#[c]⟩)) [bj b0' b1' b2']):cz [bj b0 b1 b2] P
abbrev A7:Stmt:=top 56
abbrev JX:FS:=
  (al (bO (fC (.str " !\"#$&'()*+,-./0123456789:;<=>?\x40ABCDEFGHIJKLMNOPQRSTUVWXYZ[\\]^_`abcdefghijklmnopqrstuvwxyz{|}~")) (ac 1))
  (bh (fOp aIx (ab 1) (ah ag (aa (ab 0) (aa (fC (.int 94)) ae))))))
theorem JY:Hh cz JX [0] 2:=by
 intro os P h;obtain@⟨b0,b1,b2,n,_,c,i,q⟩:=h;have g:0<=n:=Int.le_trans c.2.2.1 c.2.2.2;ext;refine aZ n c (by nofun) (by decide) (by decide) λr b0 b1 b2 f e b=>?_;ext;refine⟨by decide +kernel,?_⟩;refine kn f (by rw[show fq.cps.toList.length=94 from iP];exact e) λd a=>?_;ext;exact q d _ _ _ a b
@[irreducible] def bA:Ct:=λos P=>∃(b0 b1 b2 n:Int),os=[bj b0 b1 b2]/\WellB b1 b2 n/\n<2 ^ 38/\∀(z:Str) (c b a:Int),bZ z->WellB b a (n+42)->P (.fz (av "signs" [z])) [bj c b a]
abbrev vi:Stmt:=top 57
abbrev Fh:FS:=
  (al (bO (fOp b6 (fC (.int 1)) (ah ag (aa (ab 0) (aa (fFz (fOp aIx (hV (aa (fC (.int 5)) (aa (fC (.int 40)) ae))) (fOp (aIC BK λi j=>.int (i / j)) (ah ag (aa (ab 0) (aa (fC (.int 8)) ae))) (fC (.int 7))))) ae)))) (ac 1))
  (bh (c6 (aa (fC (.str "signs")) (aa (tO (fC (.str "")) (km (bw [0] 1 (cW (aa (ab 1) ae)) (ac 0) jC (ah cz (aa (ab 1) ae))))) ae)))))
theorem MF{a b:Int}{i:Int}(c:0<=i)(h:i<2)(q:∀m,(m=a∨m=b)->Q (.int m)):match atI [D.int a,D.int b] i with
  |some d=>Q d
  | none=>False:=fH c h fun d hd=>by
 simp only[List.mem_cons,List.not_mem_nil,or_false] at hd;rcases hd with rfl|rfl
 ·exact q a (.inl rfl)
 ·exact q b (.inr rfl)
theorem lez(n:Nat)(h:autoParam (n<=16777216) L2.aD._auto_1):n<=sizeLine:=by rw[sizeLine_eq];exact h
theorem Fi:Hh bA Fh [0] 2:=by
 intro os P h;unfold bA at h;obtain⟨b0,b1,b2,n,rfl,C,L,q⟩:=h;have sz:=bG;have H:0<=n:=Int.le_trans C.2.2.1 C.2.2.2;ext;refine⟨lez 2,?_⟩;ext;refine aZ n C (by nofun) (by decide) (by decide) λr b0 b1 b2 K J B=>?_;ext;refine⟨⟨by decide,by decide⟩,?_⟩;ext;refine MF (by nofun) (by nofun) λm M=>?_;ext;refine aZ (n+1) B (by nofun) (by nofun) (by nofun) λr3 b0 b1 b2 F E A=>?_;ext;refine⟨⟨by nofun,by nofun⟩,?_⟩;ext
 refine aA (λi as ρ=>∃(zs:List Str) (x:Option OV) (b0 b1 b2:Int),as=zs.map .str/\zs.length=i/\(∀z∈zs,JW z)/\WellB b1 b2 (n+2+i) /\
   ρ=[x,some (bj b0 b1 b2),some (.fz (.int (1+r3)))])
  ⟨[],none,b0,b1,b2,rfl,rfl,(λ_ h=>by cases h),A.mono (by nofun),rfl⟩ ?_ ?_
 ·rintro i d as ρ R hd ⟨zs,x,b0,b1,b2,rfl,u,p,b,rfl⟩ k;obtain⟨hi,rfl⟩:=aQ hd;ext;refine c9 ?_;ext;refine .mk _ b (by nofun) λd b0 b1 b2 v w=>?_;ext;refine⟨by rw[abD];nofun,k _ _ ⟨zs++[⟨#[d]⟩],some (.fz (.int (0+i))),b0,b1,b2,by rw[aad];rfl,by simp[u],λz a=>?_,w.mono (by nofun),rfl⟩⟩;rcases abE.mp a with h|h
  ·exact p z h
  ·have:z=⟨#[d]⟩:=(by exists h);rw[this]
   exact⟨rfl,λy G=>by
    have:y=d:=(by exists G);rw[this];exact fX d v⟩
 ·rintro as ρ ⟨zs,x,b0,b1,b2,rfl,u,p,b,rfl⟩;rw[a9] at u b;have e:(mF zs).length<=zs.length:=xU zs;ext;refine iM ⟨⟨by show _<4096;nofun,by nofun⟩,?_⟩;have g:∀z∈mF zs,JW z:=λz a=>p z (kj.mp a)
  have f:1<=(mF zs).length:=by
   have I:1<=zs.length:=by nofun
   cases zs with
   |nil=>simp at I
   |cons z zs=>exact List.length_pos_of_mem (kj.mpr (aab ..))
  have l:=mW zs;have j:=jI zs;generalize mF zs=ss at e g f l j ⊢;obtain⟨cs,rfl⟩:=oG λz a=>(g z a).1;have s:=qM l j;rw[abD] at e f;ext
  have t:((cs.map λc=>(⟨#[c]⟩:Str)).map (·.length)).sum=cs.length:=by
   rw[aat];exact dH cs
  refine iM ⟨by rw[t,abD];show cs.length+cs.length*0<=_;nofun,?_⟩;have o:(Builtin.Str.glued (Str.ofString "") (cs.map λc=>(⟨#[c]⟩:Str))).cps.toList=cs:=(fQ _).trans (jM cs);ext;refine⟨lez 2,?_⟩;ext;refine q _ _ _ _ ⟨by rw[o];nofun,by rw[o];nofun,by rw[o];exact s,λc D=>?_⟩ (b.mono (by nofun));rw[o] at D;exact(g ⟨#[c]⟩ (abJ.mpr ⟨c,D,rfl⟩)).2 c (by simp)
theorem pb{n:Int}(e:WellB b1 b2 n)(d:n<2 ^ 38)(h:∀(z:Str) (c b a:Int),bZ z->WellB b a (n+42)->P (.fz (av "signs" [z])) [bj c b a]) :
  bA [bj b0 b1 b2] P:=by
 unfold bA;exact⟨b0,b1,b2,n,rfl,e,d,h⟩
def JZ(o:OV)(ns:List Str):Prop:=o=.fl (ns.map .str)
inductive bK:Ct
 |mk {b0 b1 b2:Int} (n:Int) {ns:List Str} {o:OV} {P:Pk} (ho:JZ o ns) (hb:WellB b1 b2 n) (hn:n<2 ^ 38) (hns:∀z∈ns,db z) (hl:ns.length<=45) (h:∀(z:Str) (b0' b1' b2':Int),db z->z∉ns->WellB b1' b2' (n+13)->P (.fz (.str z)) [bj b0' b1' b2',o]):bK [bj b0 b1 b2,o] P
abbrev ml:Stmt:=top 55
abbrev vj:FS:=
  (al (bO (fC (.str "abcdefghijklmnopqrstuvwxyz")) (ac 2))
  (al (bO (ah ag (aa (ab 0) (aa (fC (.int 3)) ae))) (ac 3))
  (al (bO (fOp aIx (ab 2) (ah ag (aa (ab 0) (aa (fC (.int 26)) ae)))) (ac 4))
  (al (bO (tO (fC (.str "")) (bw [2,0] 1 (cW (aa (fOp b6 (fC (.int 1)) (ah ag (aa (ab 0) (aa (fC (.int 8)) ae)))) ae)) (ac 0) jC (fOp aIx (ab 3) (ah ag (aa (ab 1) (aa (fC (.int 26)) ae)))))) (ac 5))
  (al (fIf (v7 (au (fOp (gU (λi j=>decide (j<i)) λi j=>aU j i) (ab 3) (fC (.int 0)))) (au (fOp aNe (ab 1) (hV ae))))
   (al (bO (fOp aIx (ab 1) (ah ag (aa (ab 0) (aa (fFz (fCB et (aa (ab 1) ae))) ae)))) (ac 6))
  (al (bO (ah ag (aa (ab 0) (aa (fFz (fOp b6 (fCB et (aa (ab 6) ae)) (fC (.int 1)))) ae))) (ac 7))
  (bO (fSl aSl (fOp b6 (fOp b6 (fSl aSl (ab 6) bM (dJ (ab 7))) (ab 4)) (fSl aSl (ab 6) (dJ (fOp (aI0 λi j=>.int (i - j)) (fOp b6 (ab 7) (ab 3)) (fC (.int 1)))) bM)) bM (dJ (fC (.int 8)))) (ac 5))))
   aP)
  (al (bO (fOp b6 (fOp b6 (hV (aa (ab 5) ae)) (bw [2] 1 (cW (aa (fC (.int 26)) ae)) (ac 0) jC (fOp aIx (ab 3) (ab 0)))) (bw [2] 1 (cW (aa (fC (.int 26)) ae)) (ac 0) jC (fOp b6 (fOp aIx (ab 3) (ab 0)) (fOp aIx (ab 3) (ab 0))))) (ac 8))
  (bh (fOp aIx (bw [1] 1 (cE (ab 8)) (ac 0) (au (fOp jF (ab 0) (ab 2))) (ab 0)) (fC (.int 0))))))))))
theorem mm(zs:List Str):okDs (zs.map D.str)=true:=by
 induction zs with
 |nil=>rfl
 |cons z zs a=>exact a
theorem iX(zs:List Str):deps (toDVs (zs.map D.str))=0:=by
 induction zs with
 |nil=>rfl
 |cons z zs a=>exact(Nat.zero_max _).trans a
theorem zy(zs:List Str):dep (xr (.lst (zs.map D.str)))<=40:=aas (Nat.succ_le_succ (Nat.le_of_eq (iX zs))) (by decide)
theorem zz :Ga (.lst (zs.map D.str)) (.lst []):=⟨mm zs,rfl,zy zs⟩
theorem Fj :(!dEq (.lst (zs.map D.str)) (.lst []))=true↔zs≠[]:=by
 cases zs with
 |nil=>exact⟨λh=>Bool.noConfusion (show false=true from h),λh=>absurd rfl h⟩
 |cons z zs=>exact⟨λ_=>List.cons_ne_nil z zs,λ_=>rfl⟩
abbrev nk:List Str:=abc.cps.toList.map λc=>⟨#[c]⟩
theorem kI:nk.length=26:=by decide +kernel
theorem iY(h:c∈abc.cps.toList):AK [c]:=λd hd=>by
 have:d=c:=(by exists hd);rw[this];exact EM c h
theorem vk(h:z∈nk):db z:=by
 obtain⟨c,a,rfl⟩:=abJ.mp h;exact⟨aac 1,(by decide:(1:Nat)<=8),iY a⟩
abbrev pc:List Str:=abc.cps.toList.map λc=>⟨#[c]⟩++⟨#[c]⟩
theorem pd:pc.length=26:=by decide +kernel
theorem vm(h:z∈pc):db z:=by
 obtain⟨c,a,rfl⟩:=abJ.mp h;exact⟨(by decide:(1:Nat)<=2),(by decide:(2:Nat)<=8),kr (iY a) (iY a)⟩
theorem Fk:(nk++pc).Nodup:=by decide +kernel
theorem zB(h:ns.length<=45):∃z∈nk++pc,z∉ns:=by
 refine Classical.byContradiction λh'=>?_;have hs:∀z∈nk++pc,z∈ns:=λz a=>Classical.byContradiction λe=>h' ⟨z,a,e⟩;have:=aax Fk hs;rw[abH,kI,pd] at this;nofun
theorem A8(h:i<26):∃c,abc.cps.toList[i]?=some c/\c∈abc.cps.toList:=by
 have hi:i<abc.cps.toList.length:=by rw[m8];exact h
 exact⟨_,List.getElem?_eq_getElem hi,aaR hi⟩
theorem vn:Hh bK vj [0,1] 9:=by
 intro os P h;obtain@⟨b0,b1,b2,n,ns,o,_,H,E,I,T,U,q⟩:=h;have sz:=bG;have hn0:0<=n:=Int.le_trans E.2.2.1 E.2.2.2;ext;refine aZ n E (by nofun) (by decide) (by decide) λway b0 b1 b2 w0 w1 hb1=>?_;ext;refine aZ (n+1) hb1 (by nofun) (by decide) (by decide) λr b0 b1 b2 r0 r1 hb2=>?_;ext;refine⟨by decide +kernel,?_⟩;refine kn r0 (by rw[show (Str.ofString "abcdefghijklmnopqrstuvwxyz").cps.toList.length=26 from m8];exact r1) λc hcm=>?_;have cl1:=iY hcm;ext;refine aZ (n+1+1) hb2 (by nofun) (by decide) (by decide) λr3 b0 b1 b2 r30 r31 hb3=>?_;ext;refine⟨⟨by nofun,by nofun⟩,?_⟩;ext
 refine aA (λi as ρ=>∃(zs:List Str) (x:Option OV) (b0 b1 b2:Int),as=zs.map .str/\zs.length=i/\(∀z∈zs,z.cps.toList.length=1/\AK z.cps.toList)/\WellB b1 b2 (n+3+i) /\
   ρ=[x,some (bj b0 b1 b2),some o,some (.fz (.str abc)),some (.fz (.int way)),some (.fz (.str ⟨#[c]⟩)),none,none,none,none])
  ⟨[],none,b0,b1,b2,rfl,rfl,(λ_ h=>by cases h),hb3.mono (by nofun),rfl⟩ ?_ ?_
 ·rintro i d as ρ R hd ⟨zs,x,b0,b1,b2,rfl,X,g,f,rfl⟩ k;obtain⟨hi,rfl⟩:=aQ hd;ext;refine c9 ?_;ext;refine aZ _ f (by nofun) (by decide) (by decide) λr5 b0 b1 b2 N M hb5=>?_;ext;refine⟨by decide +kernel,?_⟩;refine kn N (by rw[show (Str.ofString "abcdefghijklmnopqrstuvwxyz").cps.toList.length=26 from m8];exact M) λe m=>?_;ext;refine⟨by rw[abD];nofun,k _ _ ⟨zs++[⟨#[e]⟩],some (.fz (.int (0+i))),b0,b1,b2,by rw[aad];rfl,by simp[X],λz b=>?_,hb5.mono (by nofun),rfl⟩⟩;rcases abE.mp b with h|h
  ·exact g z h
  ·have:z=⟨#[e]⟩:=(by exists h);rw[this];exact⟨rfl,iY m⟩
 ·rintro as ρ ⟨zs,x,b0,b1,b2,rfl,X,g,f,rfl⟩;rw[a9] at X f
  have B:(zs.map λz=>z.cps.toList).flatten.length=zs.length:=by
   rw[List.length_flatten,aat];have:zs.map ((λl:List Nat=>l.length) ∘ λz:Str=>z.cps.toList)=zs.map λ_=>1:=aay λz b=>(g z b).1;rw[show (List.map (List.length ∘ λz:Str=>z.cps.toList) zs)=zs.map λ_=>1 from this];exact dH zs
  have V:(zs.map (·.length)).sum=zs.length:=by
   have:zs.map (·.length)=zs.map λ_=>1:=aay λz b=>by rw[ao];exact(g z b).1
   rw[this];exact dH zs
  have Y:(Builtin.Str.glued (Str.ofString "") zs).cps.toList=(zs.map λz=>z.cps.toList).flatten:=fQ zs
  have hN:db (Builtin.Str.glued (Str.ofString "") zs):=by
   refine⟨by rw[Y,B];nofun,by rw[Y,B];nofun,?_⟩;rw[Y];intro y a;obtain⟨l,W,O⟩:=List.mem_flatten.mp a;obtain⟨z,b,rfl⟩:=abJ.mp W;exact(g z b).2 y O
  ext;refine iM ⟨by rw[V];show zs.length+zs.length*0<=_;nofun,?_⟩;generalize Builtin.Str.glued (Str.ofString "") zs=nm at hN ⊢;ext;refine eO (λρ=>∃(z:Str) (b0 b1 b2:Int) (s p:Option OV),db z/\WellB b1 b2 (n+13)/\ρ=[some (bj b0 b1 b2),some o,some (.fz (.str abc)),some (.fz (.int way)),some (.fz (.str ⟨#[c]⟩)),some (.fz (.str z)),s,p,none]) ?_ ?_
  ·rintro ρ ⟨z,b0,b1,b2,s,p,g,E,rfl⟩;ext;refine⟨lez 1,?_⟩;ext;refine⟨⟨by decide,by decide⟩,?_⟩;ext;refine aA (λi as ρ=>∃(x:Option OV),as=(nk.take i).map .str/\ρ=[x,some (bj b0 b1 b2),some o,some (.fz (.str abc)),some (.fz (.int way)),some (.fz (.str ⟨#[c]⟩)),some (.fz (.str z)),s,p,none]) ⟨none,rfl,rfl⟩ ?_ ?_
   ·rintro i d as ρ R hd ⟨x,rfl,rfl⟩ k;obtain⟨hi,rfl⟩:=aQ hd;obtain⟨e,C,m⟩:=A8 (i:=i) (by nofun);have J:atI abc.cps.toList ((0:Int)+i)=some e:=by rw[aa3];exact bf C
    ext;refine c9 ?_;ext;refine⟨by decide +kernel,?_⟩;rw[J];ext;refine⟨by rw[abD,aah];nofun,k _ _ ⟨_,?_,rfl⟩⟩;rw[aap,List.getElem?_map,C,aad];rfl
   ·rintro as ρ ⟨x,rfl,rfl⟩;rw[a9,show nk.take (26:Int).toNat=nk from by decide +kernel];ext;refine⟨by show 1+(nk.map D.str).length<=sizeLine;rw[abD,kI];nofun,?_⟩;ext;refine⟨⟨by decide,by decide⟩,?_⟩;ext;refine aA (λi as ρ=>∃(x:Option OV),as=(pc.take i).map .str/\ρ=[x,some (bj b0 b1 b2),some o,some (.fz (.str abc)),some (.fz (.int way)),some (.fz (.str ⟨#[c]⟩)),some (.fz (.str z)),s,p,none]) ⟨none,rfl,rfl⟩ ?_ ?_
    ·rintro i d as ρ R hd ⟨x,rfl,rfl⟩ k;obtain⟨hi,rfl⟩:=aQ hd;obtain⟨e,C,m⟩:=A8 (i:=i) (by nofun);have J:atI abc.cps.toList ((0:Int)+i)=some e:=by rw[aa3];exact bf C
     ext;refine c9 ?_;ext;refine⟨by decide +kernel,?_⟩;rw[J];ext;refine⟨by decide +kernel,?_⟩;rw[J];ext;refine⟨by show 1+1<=sizeLine;nofun,?_⟩;ext;refine⟨by rw[abD,aah];nofun,k _ _ ⟨_,?_,rfl⟩⟩;rw[aap,List.getElem?_map,C,aad];rfl
    ·rintro as ρ ⟨x,rfl,rfl⟩;rw[a9,show pc.take (26:Int).toNat=pc from by decide +kernel];have eL:[D.str z]++nk.map D.str++pc.map D.str=(z::(nk++pc)).map D.str:=by rw[abG,aad];rfl
     have G:∀y∈z::(nk++pc),db y:=λy a=>by
      rcases abI.mp a with rfl|a
      ·exact g
      ·rcases abE.mp a with a|a
       ·exact vk a
       ·exact vm a
     have F:∃y∈z::(nk++pc),y∉ns:=by
      obtain⟨y,a,I⟩:=zB U;exact⟨y,aae _ a,I⟩
     have hL3:(z::(nk++pc)).length<=60:=by rw[abM,abH,kI,pd];nofun
     ext;refine⟨by rw[← abH,eL,abD];nofun,?_⟩;rw[eL];generalize z::(nk++pc)=L at G F hL3;ext;refine aA (λi as ρ=>∃(x:Option OV),as=((L.take i).filter λy=>decide (y∉ns)).map .str/\ρ=[x,some (bj b0 b1 b2),some o,some (.fz (.str abc)),some (.fz (.int way)),some (.fz (.str ⟨#[c]⟩)),some (.fz (.str z)),s,p,some (.fz (.lst (L.map .str)))]) ⟨none,rfl,rfl⟩ ?_ ?_
     ·rintro i d as ρ R hd ⟨x,rfl,rfl⟩ k
      obtain⟨y,a,rfl⟩:∃y,L[i]?=some y/\d=.str y:=by
       rw[List.getElem?_map,aaq] at hd;obtain⟨r,h1,h2⟩:=hd;exact⟨r,h1,h2.symm⟩
      have Z:=aaW (λy=>decide (y∉ns)) (L.take i);rw[aah] at Z;subst H
      all_goals
       ext;refine⟨⟨rfl,oq ns⟩,?_⟩;ext;refine am (y∉ns) (by rw[aaT,abX,Ne,eZ]) (λS=>?_) (λS=>?_)
       ·ext;refine⟨by rw[abD];nofun,k _ _ ⟨_,?_,rfl⟩⟩;rw[aap,a,aaI,aad];simp[S]
       ·refine k _ _ ⟨_,?_,rfl⟩;rw[aap,a,aaI,aad];have Q:=Classical.not_not.mp S;simp[Q]
     ·rintro as ρ ⟨x,rfl,rfl⟩;rw[abD,aai (aac _)]
      obtain⟨y,r,e⟩:∃y r,L.filter (λy=>decide (y∉ns))=y::r:=by
       cases h:L.filter (λy=>decide (y∉ns)) with
       | nil=>
        obtain⟨y,a,I⟩:=F;have:y∈L.filter (λy=>decide (y∉ns)):=abQ.mpr ⟨a,decide_eq_true I⟩;rw[h] at this;cases this
       |cons y r=>exact⟨y,r,rfl⟩
      have hm:y∈L.filter (λy=>decide (y∉ns)):=by rw[e];exact aab ..
      obtain⟨m1,m2⟩:=abQ.mp hm;rw[e,abG];ext;refine eN ?_;ext;exact q _ _ _ _ (G y m1) (of_decide_eq_true m2) E
  ·intro rest;ext;refine am (0<way) decide_eq_true_iff (λhw=>?_) (λhw=>?_)
   ·subst H
    all_goals
     ext;refine⟨aan _,?_⟩;ext;refine⟨zz,?_⟩;ext;refine am (ns≠[]) Fj (λA=>?_) (λA=>rest _ ⟨nm,b0,b1,b2,_,_,hN,f.mono (by nofun),rfl⟩);have hlp:0<ns.length:=List.length_pos_iff.mpr A;have hlm:(ns.map D.str).length=ns.length:=abD ..;ext;refine aZ _ f (by nofun) (by nofun) (by nofun) λr6 b0 b1 b2 K r61 hb6=>?_;ext;refine fH K (by nofun) λd hd=>?_;obtain⟨old,H,rfl⟩:=abJ.mp hd;obtain⟨o1,o2,o3⟩:=T old H;have hol:old.length=old.cps.toList.length:=ao old;ext;refine⟨by nofun,?_⟩;ext;refine aZ _ hb6 (by nofun) (by nofun) (by nofun) λat' b0 b1 b2 a0 a1 hb7=>?_;obtain⟨k,rfl⟩:=aaY a0;ext;refine⟨by nofun,?_⟩;have w:=(iO old none (some (k:Int))).trans (dG old.cps.toList k);have l1:(gv old none (some (k:Int))).length=k:=by rw[j3 w,aah];nofun
     ext;refine⟨by rw[l1];show k+1<=sizeLine;nofun,?_⟩;ext;refine⟨by nofun,?_⟩;obtain⟨j,ej⟩:∃j:Nat,(k:Int)+way - 1=j:=⟨((k:Int)+way - 1).toNat,by nofun⟩;have v:(gv old (some ((k:Int)+way - 1)) none).cps.toList=old.cps.toList.drop j:=(iO ..).trans (by rw[ej];exact lw ..);have l2:(gv old (some ((k:Int)+way - 1)) none).length=old.cps.toList.length - j:=by rw[j3 v,aaB]
     have t:(gv old none (some (k:Int))++(⟨#[c]⟩:Str)).length=k+1:=by rw[ao,cZ,abH,← ao,l1];rfl
     ext;refine⟨by rw[t,l2];nofun,?_⟩;have l3:(gv old none (some (k:Int))++(⟨#[c]⟩:Str)++gv old (some ((k:Int)+way - 1)) none).length=k+1+(old.cps.toList.length - j):=by rw[ao,cZ,abH,← ao,← ao,t,l2]
     have h3:AK (gv old none (some (k:Int))++(⟨#[c]⟩:Str)++gv old (some ((k:Int)+way - 1)) none).cps.toList:=by
      rw[cZ,cZ,w,v];exact kr (kr (λd hd=>o3 d (abg hd)) cl1) λd hd=>o3 d (List.mem_of_mem_drop hd)
     generalize gv old none (some (k:Int))++(⟨#[c]⟩:Str)++gv old (some ((k:Int)+way - 1)) none=y at l3 h3 ⊢;ext;refine⟨by nofun,?_⟩;have u:=(iO y none (some ((8:Nat):Int))).trans (dG y.cps.toList 8);have hyl:=ao y;refine rest _ ⟨gv y none (some 8),b0,b1,b2,_,_,⟨?_,?_,?_⟩,hb7.mono (by nofun),rfl⟩
     ·exact(by rw[u,aah];nofun:1<=(gv y none (some ((8:Nat):Int))).cps.toList.length)
     ·exact(by rw[u,aah];nofun:(gv y none (some ((8:Nat):Int))).cps.toList.length<=8)
     ·exact λd hd=>h3 d (nS (by rw[← iO];exact hd))
   ·ext;exact dI (rest _ ⟨nm,b0,b1,b2,_,_,hN,f.mono (by nofun),rfl⟩)
abbrev bS(rows:List Rw):OV:=.fd ((rows.map (·.1)).map Sum.inr) (rows.map λr=>av r.2.1 r.2.2)
def gZ(rows:List Rw)(n:Str):Option Rw:=rows.find? λr=>decide (r.1=n)
theorem du(h:n∈rows.map (·.1)):∃r∈rows,r.1=n/\gZ rows n=some r:=by
 obtain⟨r,hr,e⟩:=abJ.mp h
 cases q:gZ rows n with
 | none=>
  have:=List.find?_eq_none.mp q r hr;simp[e] at this
 | some r'=>
  have h1:=List.find?_some q;exact⟨r',List.mem_of_find?_eq_some q,of_decide_eq_true h1,rfl⟩
def a7(rows:List Rw):List Rw:=(bC (rows.map (·.1))).filterMap (gZ rows)
inductive bT:Ct
 |mk {rows:List Rw} {P:Pk} (nd:(rows.map (·.1)).Nodup) (hl:rows.length<=30) (h:P (.fl ((a7 rows).map gY)) [bS rows]):bT [bS rows] P
abbrev pf:Stmt:=top 58
abbrev zE:FS:=
  (bh (bw [0] 1 (cE (fCB cF (aa (ab 0) ae))) (ac 0) jC (c6 (aa (ab 0) (aa (fOp aIx (ab 1) (ab 0)) ae)))))
theorem qX{r:Rw}(h:gZ rows n=some r):iJ ((rows.map (·.1)).map Sum.inr) (rows.map λr=>av r.2.1 r.2.2) (.inr n)=some (av r.2.1 r.2.2):=by
 unfold gZ at h
 induction rows with
 |nil=>cases h
 | cons a rows b=>
  unfold iJ at b ⊢;rw[abG,abG,abG,ab1,List.find?_cons];rw[List.find?_cons] at h;by_cases e:a.1=n
  ·rw[decide_eq_true e] at h;cases h;rw[decide_eq_true (congrArg Sum.inr e)];rfl
  ·rw[decide_eq_false e] at h;rw[show decide ((Sum.inr a.1:Key)=Sum.inr n)=false from decide_eq_false λz=>e (aa9 z)];exact b h
theorem Fl{f:α->Option β}{l:List α}{a:α}{b:β}(h:l[i]?=some a)(c:f a=some b):(l.take (i+1)).filterMap f=(l.take i).filterMap f++[b]:=by
 rw[aap,h,List.filterMap_append];simp[c]
theorem zF:Hh bT zE [0] 1:=by
 intro os P h;obtain@⟨rows,_,nd,g,q⟩:=h;have sz:=bG;ext;refine lN (by rw[abD];nofun) ?_;have c:(bC (rows.map (·.1))).length=rows.length:=by rw[(aK _).length_eq,abD]
 have a:∀z∈bC (rows.map (·.1)),z∈rows.map (·.1):=λz b=>(aK _).mem_iff.mp b;unfold a7 at q;generalize bC (rows.map (·.1))=ss at c a q ⊢;ext;refine aA (λi as ρ=>∃(x:Option OV),as=((ss.take i).filterMap (gZ rows)).map gY/\ρ=[x,some (bS rows)]) ⟨none,rfl,rfl⟩ ?_ ?_
 ·rintro i d as ρ R hd ⟨x,rfl,rfl⟩ k
  obtain⟨z,b,rfl⟩:∃y,ss[i]?=some y/\d=.str y:=by
   rw[List.getElem?_map,aaq] at hd;obtain⟨r,h1,h2⟩:=hd;exact⟨r,h1,h2.symm⟩
  obtain⟨r,hr,rfl,e⟩:=du (a z (List.mem_of_getElem? b));have f:=List.length_filterMap_le (gZ rows) (ss.take i);rw[aah] at f;ext;refine c9 ?_;ext;rw[qX e];ext;refine⟨lez 2,?_⟩;ext;refine⟨by rw[abD];nofun,k _ _ ⟨_,?_,rfl⟩⟩;rw[Fl b e,aad];rfl
 ·rintro as ρ ⟨x,rfl,rfl⟩;rw[abD,aai (aac _)];ext;exact q
theorem gL :(a7 rows).map (·.1)=bC (rows.map (·.1)):=by
 unfold a7;have a:∀z∈bC (rows.map (·.1)),z∈rows.map (·.1):=λz c=>(aK _).mem_iff.mp c;generalize bC (rows.map (·.1))=ss at a ⊢
 induction ss with
 |nil=>rfl
 | cons z ss b=>
  obtain⟨r,hr,f,e⟩:=du (a z (aab ..));rw[abo,e];show r.1::_=_;rw[b λy d=>a y (aae _ d),f]
theorem cA{r:Rw}(h:r∈a7 rows):r∈rows:=by
 unfold a7 at h;obtain⟨n,_,e⟩:=List.mem_filterMap.mp h;exact List.mem_of_find?_eq_some e
theorem zG{a b:Str}(h:cU a b=true)(ne:a≠b):aU a b=true:=by
 cases e:aU a b with
 |true=>rfl
 |false=>exact absurd (gu h (by show (!aU a b)=true;rw[e];rfl)) ne
structure RulesG(rows:List Rw)(pool:List Str)(rank:Str->Nat):Prop where
 nd:(rows.map (·.1)).Nodup
 ok:∀r∈rows,db r.1/\uv pool r.2.1 r.2.2
 few:rows.length<=30
 pn:∀z∈pool,db z
 pl:pool.length<=45
 dw:∀r∈rows,∀p∈b8 r.2.1 r.2.2,rank p<rank r.1
theorem ph:∀{ps zs:List Str} {x:Str},x∈kF zs ps->x∈ps
 |[],_,_,h=>nomatch h
 | p::ps,zs,x,h=>by
  unfold kF at h;split at h
  ·rcases abI.mp h with y|y
   ·rw[y];exact aab ..
   ·exact aae _ (ph y)
  ·rw[abF.mp h];exact aab ..
theorem cB{rest:List Str}{x:Str}(h:x∈bP zs w rest):x∈b8 w rest:=by
 unfold bP at h;split at h
 ·rename_i h1;unfold b8;rw[if_neg (by rw[h1];decide +kernel)];exact ph h
 ·exact h
structure RulesB(rows:List Rw)(pool:List Str)(rank:Str->Nat):Prop where
 nd:(rows.map (·.1)).Nodup
 ok:∀r∈rows,db r.1/\uv pool r.2.1 r.2.2
 few:rows.length<=30
 pn:∀z∈pool,db z
 pl:pool.length<=45
 dw:∀zs:List Str,(∀z,z∈zs↔Emp (a7 rows) z)->∀r∈rows,∀p∈bP zs r.2.1 r.2.2,rank p<rank r.1
theorem gM(R:RulesB rows pool rank):BookR (a7 rows):=by
 have f:=gL (rows:=rows);have b:((a7 rows).map (·.1)).Nodup:=by rw[f];exact(aK _).nodup_iff.mpr R.nd
 have o:(a7 rows).length=rows.length:=by
  have:=congrArg List.length f;rw[abD,(aK _).length_eq,abD] at this;exact this
 refine⟨⟨b,λr hr=>?_,by rw[o];have:=R.few;nofun,⟨pool,R.pl,λr hr=>⟨R.pn,(R.ok r (cA hr)).2⟩⟩⟩,λi r s hr hs=>?_,λzs j S q=>?_⟩
 ·have:=R.ok r (cA hr);exact⟨this.1,pool,R.pn,this.2⟩
 ·have h1:((a7 rows).map (·.1))[i]?=some r.1:=by rw[List.getElem?_map,hr];rfl
  have h2:((a7 rows).map (·.1))[i+1]?=some s.1:=by rw[List.getElem?_map,hs];rfl
  have hs:=bR (rows.map (·.1));rw[← f] at hs;obtain⟨g1,u⟩:=List.getElem?_eq_some_iff.mp h1;obtain⟨g2,t⟩:=List.getElem?_eq_some_iff.mp h2;have c:=abZ.mp hs i (i+1) g1 g2 (aaz i);have a:=abZ.mp b i (i+1) g1 g2 (aaz i);rw[u,t] at c a;exact zG c a
 ·cases S with
  |nil=>rfl
  | cons n S=>
   have go:∀(m:Nat) (x:Str),x∈n::S->rank x<m->False:=by
    intro m
    induction m with
    |zero=>intro x _ h;nofun
    | succ m g=>
     intro x k h;obtain⟨r,hr,e,p,l,d⟩:=q x k;have:=R.dw zs j r (cA hr) p l;rw[e] at this;exact g p d (by nofun)
   exact(go (rank n+1) n (aab ..) (aaz _)).elim
theorem cL(R:RulesG rows pool rank):BookR (a7 rows):=gM ⟨R.nd,R.ok,R.few,R.pn,R.pl,λ_ _ r hr p a=>R.dw r hr p (cB a)⟩
theorem mo(nd:(rows.map (·.1)).Nodup):gZ (a7 rows) n=gZ rows n:=by
 by_cases h:n∈rows.map (·.1)
 ·obtain⟨r,hr,d,e⟩:=du h;obtain⟨r',b,c,f⟩:=du (rows:=a7 rows) (n:=n) (by rw[gL];exact(aK _).mem_iff.mpr h);rw[e,f,o7 nd hr (cA b) (c.trans d.symm)]
 ·have g:∀a:List Rw,(∀r∈a,r∈rows)->gZ a n=none:=λa hs=>List.find?_eq_none.mpr λr hr=>by
   have:r.1≠n:=λe=>h (abJ.mpr ⟨r,hs r hr,e⟩);simpa using this
  rw[g _ λr hr=>cA hr,g _ λr hr=>hr]
theorem nq(nd:(rows.map (·.1)).Nodup):jn (a7 rows) n=match gZ rows n with
  |none=>.leaf .lack
  | some r=>rlR r.2.1 r.2.2:=by
 show (match gZ (a7 rows) n with
  |none=>Rl.leaf .lack
  |some r=>rlR r.2.1 r.2.2)=_
 rw[mo nd]
theorem Fm(h:R n=.leaf l):rdF R z (f+1) n k=some ⟨eA l z k,k,[n]⟩:=by
 show goF R z (f+1) (e8 R z n k) k [n]=_;rw[show e8 R z n k=⟨.leaf l,n,k,k,0,[],true,eA l z k⟩ by unfold e8;rw[h]];exact qO rfl
theorem pi(h:y∉zs):gH (zs.map Sum.inr) ds (.inr y) d=(zs.map Sum.inr++[.inr y],ds++[d]):=by
 unfold gH;rw[if_neg];intro e;obtain⟨x,b,a⟩:=List.any_eq_true.mp e;obtain⟨v,c,rfl⟩:=abJ.mp b;exact h (aa9 (of_decide_eq_true a) ▸ c)
theorem b5{rest:List Str}(h:y∉rows.map (·.1)):bS (rows++[(y,w,rest)])=.fd (gH ((rows.map (·.1)).map Sum.inr) (rows.map λr=>av r.2.1 r.2.2) (.inr y) (av w rest)).1 (gH ((rows.map (·.1)).map Sum.inr) (rows.map λr=>av r.2.1 r.2.2) (.inr y) (av w rest)).2:=by
 rw[pi h];unfold bS;rw[aad,aad,aad];rfl
abbrev cq(ln:Option Nat)(m:Int)(st:List Sp2)(ls:List Str):D:=.tup [ib ln,.int m,.lst (st.map bt),.lst (ls.map .str)]
inductive ca:Ct
 |mk {ln:Option Nat} {m:Int} {st:List Sp2} {ls:List Str} {P:Pk} (hs:st.length<=1000) (h:P (.fz (.bl true)) [.fz (cq ln m st ls),.fz (cq ln m st ls)]):ca [.fz (cq ln m st ls),.fz (cq ln m st ls)] P
abbrev A9:Stmt:=top 59
abbrev J0:FS:=
  (al (fIf (fOr (mE (fW (fCB cIs (aa (ab 0) (aa (fC (.ty "tuple")) ae))))) (fOr (au (fOp aNe (fCB et (aa (ab 0) ae)) (fC (.int 4)))) (au (fOp aNe (ab 0) (ab 1)))))
   (bh (fC (.bl false)))
   aP)
  (al (b7 2 (fOp b6 (hV (aa (fOp aIx (ab 0) (fC (.int 1))) ae)) (bw [] 2 (cE (fOp aIx (ab 0) (fC (.int 2)))) (qp 2 (da (ac 0) (da (ac 1) qo))) jC (ab 1))))
  (al (fIf (au (fOp tR (fOp aIx (ab 0) (fC (.int 0))) (fC .non)))
   (bN (v9 2 (fOp aIx (ab 0) (fC (.int 0)))))
   aP)
  (bh (Dj (fCB K8 (aa (bw [] 1 (cE (ab 2)) (ac 0) jC (fCB cIs (aa (ab 0) (aa (fC (.ty "bool")) ae)))) ae)))))))
theorem jP:∀st:List Sp2,okDs (st.map bt)=true
 |[]=>rfl
 |_::st=>abU.mpr ⟨rfl,jP st⟩
theorem jQ:∀st:List Sp2,deps (toDVs (st.map bt))<=1
 |[]=>aan _
 |_::st=>Nat.max_le.mpr ⟨aac 1,jQ st⟩
theorem Fn(ln:Option Nat)(m:Int)(st:List Sp2)(ls:List Str):Ga (cq ln m st ls) (cq ln m st ls):=by
 have a:okD (ib ln)=true:=by cases ln <;> rfl
 have ok:okD (cq ln m st ls)=true:=by
  show okDs [ib ln,.int m,.lst (st.map bt),.lst (ls.map .str)]=true;exact abU.mpr ⟨a,abU.mpr ⟨rfl,abU.mpr ⟨jP st,abU.mpr ⟨mm ls,rfl⟩⟩⟩⟩
 have b:dep (xr (ib ln))=0:=by cases ln <;> rfl
 have h1:=jQ st;have h2:=iX ls;refine⟨ok,ok,?_⟩;show max (dep (xr (ib ln))) (max 0 (max (deps (toDVs (st.map bt))+1) (max (deps (toDVs (ls.map D.str))+1) 0)))+1<=_;rw[b,h2];refine aas (Nat.succ_le_succ (Nat.max_le.mpr ⟨aan _,Nat.max_le.mpr ⟨aan _,Nat.max_le.mpr ⟨Nat.succ_le_succ h1,Nat.max_le.mpr ⟨(by decide:0+1<=2),aan _⟩⟩⟩⟩)) ?_;exact Nat.le_of_ble_eq_true rfl
theorem zH(d:D):dEq d d=true:=nQ _
theorem J1:Hh ca J0 [] 3:=by
 intro os P h;obtain@⟨ln,m,st,ls,_,o,q⟩:=h;ext;refine aB ?_;ext;refine⟨⟨rfl,rfl⟩,?_⟩;ext;refine dI ?_;ext;refine⟨aq,?_⟩;ext;refine dI ?_;ext;refine⟨Fn ln m st ls,?_⟩;ext;refine am False ⟨λh=>(by rw[zH] at h;exact Bool.noConfusion h),False.elim⟩ False.elim (λ_=>?_);ext;refine⟨lez 1,?_⟩;ext;refine aA (λi as ρ=>∃f c:Option OV,as=(st.take i).map (λs=>D.int s.2)/\ρ=[f,c,some (.fz (cq ln m st ls)),some (.fz (cq ln m st ls)),none]) ⟨none,none,rfl,rfl⟩ ?_ ?_
 ·rintro i d as ρ R hd ⟨f,c,rfl,rfl⟩ n;rw[List.getElem?_map] at hd
  cases b:st[i]? with
  |none=>rw [b] at hd;cases hd
  | some e=>
   rw[b] at hd;cases hd;have hi:=(List.getElem?_eq_some_iff.mp b).1;ext;refine⟨rfl,?_⟩;ext;refine c9 ?_;ext;refine⟨by rw[abD,aah];exact aao (by nofun:min i st.length<1001) (lez 1001),n _ _ ⟨_,_,?_,rfl⟩⟩;rw[aap,b,aad];rfl
 rintro as ρ ⟨f,c,rfl,rfl⟩;rw[abD,aai (aac _)];ext;have l:([D.int m]++st.map λs=>D.int s.2)=((m::st.map λs=>(s.2:Int)).map D.int):=by rw[abG,aat];rfl
 refine⟨by rw[abD];exact aas (by show 1+st.length<=1001;nofun) (lez 1001),?_⟩;rw[l];have g:(m::st.map λs=>(s.2:Int)).length<=1001:=by rw[abM,abD];nofun
 generalize (m::st.map λs=>(s.2:Int))=a at g;ext;refine eO (λρ=>∃is:List Int,is.length<=1002/\ρ=[some (.fz (cq ln m st ls)),some (.fz (cq ln m st ls)),some (.fl (is.map .int))]) ?_ ?_
 ·rintro ρ ⟨is,l,rfl⟩;ext;refine aA (λi as ρ=>∃(x:Option OV),as=(List.replicate i false).map .bl/\ρ=[x,some (.fz (cq ln m st ls)),some (.fz (cq ln m st ls)),some (.fz (.lst (is.map .int)))]) ⟨none,rfl,rfl⟩ ?_ ?_
  ·rintro i d as ρ R hd ⟨x,rfl,rfl⟩ k
   obtain⟨j,p,rfl⟩:∃j,is[i]?=some j/\d=.int j:=by
    rw[List.getElem?_map,aaq] at hd;obtain⟨r,h1,h2⟩:=hd;exact⟨r,h1,h2.symm⟩
   have hi:=(List.getElem?_eq_some_iff.mp p).1;ext;refine c9 ?_;ext;refine⟨⟨rfl,rfl⟩,?_⟩;ext;refine⟨by rw[abD,aaV];exact aao (by nofun:i<1003) (lez 1003),k _ _ ⟨_,?_,rfl⟩⟩;rw[List.replicate_succ',aad];rfl
  ·rintro as ρ ⟨x,rfl,rfl⟩;ext;refine ou ?_;ext;rw[show ((List.replicate (is.map D.int).length false).any id)=false from by simp];exact q
 ·intro rest
  cases ln with
  | none=>
   ext;refine dI ?_;exact rest _ ⟨a,by nofun,rfl⟩
  | some i=>
   ext;refine c9 ?_;ext;refine⟨rfl,?_⟩;ext;refine⟨by rw[abD];exact aao (by nofun:a.length<1002) (lez 1002),?_⟩;exact rest _ ⟨a++[(i:Int)],by rw[abH];show a.length+1<=_;nofun,by rw[aad];rfl⟩
def fj(t s:Str)(p:Nat):Nat:=((t.cps.toList.drop p).takeWhile λc=>decide (c∈s.cps.toList)).length
theorem ge{p:Nat}(h:t.length<=p):fj t s p=0:=by
 unfold fj;rw[List.drop_eq_nil_of_le (by have:=ao t;nofun)];rfl
theorem kJ{p:Nat}(h:t.cps.toList[p]?=some c):fj t s p=if c∈s.cps.toList then fj t s (p+1)+1 else 0:=by
 unfold fj;have b:=(List.getElem?_eq_some_iff.mp h).1;rw[aaD b,show t.cps.toList[p]=c from (List.getElem?_eq_some_iff.mp h).2,List.takeWhile_cons];by_cases a:c∈s.cps.toList
 ·rw[if_pos (decide_eq_true a),if_pos a,abM]
 ·rw[if_neg (by rw[decide_eq_false a];decide),if_neg a];rfl
theorem nr{p:Nat}:fj t s p<=t.length - p:=by
 unfold fj;have h1:=(List.takeWhile_sublist (l:=t.cps.toList.drop p) (λc=>decide (c∈s.cps.toList))).length_le;rw[aaB] at h1;have:=ao t;nofun
inductive cO:Ct
 |mk {t s:Str} {p:Nat} {P:Pk} (h1:t.length<=1000) (h2:p<=t.length) (h:P (.fz (.int (fj t s p))) [.fz (.str t),.fz (.int p),.fz (.str s)]):cO [.fz (.str t),.fz (.int p),.fz (.str s)] P
abbrev J2:Stmt:=top 60
abbrev MG:FS:=
  (al (bO (fC (.int 0)) (ac 3))
  (al (fT (v7 (au (fOp (gU (λi j=>decide (i<j)) aU) (fOp b6 (ab 1) (ab 3)) (fCB et (aa (ab 0) ae)))) (au (fOp aIn (fOp aIx (ab 0) (fOp b6 (ab 1) (ab 3))) (ab 2))))
   (bO (fOp b6 (ab 3) (fC (.int 1))) (ac 3)))
  (bh (ab 3))))
theorem MH:Hh cO MG [] 4:=by
 intro os P h;obtain@⟨t,s,p,_,f,i,q⟩:=h;have sz:=bG;have k:=ao t;ext;refine cG (λj ρ=>∃m:Nat,j=t.length - (p+m)/\p+m<=t.length/\fj t s p=m+fj t s (p+m)/\ρ=[some (.fz (.str t)),some (.fz (.int p)),some (.fz (.str s)),some (.fz (.int m))]) (t.length - p) ⟨0,rfl,i,by rw[Nat.zero_add];rfl,rfl⟩ ?_;rintro j ρ R ⟨m,n,g,hr,rfl⟩ e;ext;refine⟨by nofun,?_⟩;ext;refine am ((p:Int)+m<t.length) decide_eq_true_iff (λh1=>?_) (λh1=>?_)
 ·have a:p+m<t.cps.toList.length:=by nofun
  obtain⟨c,d⟩:∃c,t.cps.toList[p+m]?=some c:=⟨_,List.getElem?_eq_getElem a⟩;have l:atI t.cps.toList ((p:Int)+(m:Int))=some c:=bf (j:=p+m) d;rw[kJ d] at hr;ext;refine⟨by nofun,?_⟩;rw[l];ext;refine am (c∈s.cps.toList) decide_eq_true_iff (λb=>?_) (λb=>?_)
  ·rw[if_pos b] at hr;ext;refine e (t.length - (p+(m+1))) _ (by nofun) ⟨m+1,rfl,by nofun,by rw[hr,← Nat.add_assoc p m 1];nofun,rfl⟩
  ·rw[if_neg b] at hr;ext;rw[hr,Nat.add_zero] at q;exact q
 ·rw[ge (t:=t) (s:=s) (p:=p+m) (by nofun),Nat.add_zero] at hr;rw[hr] at q;ext;refine dI ?_;ext;exact q
inductive cb:Ct
 |mk {b0 b1 b2:Int} (n:Int) {m:Nat} {P:Pk} (hb:WellB b1 b2 n) (hn:n<2 ^ 37) (hm:m<=30) (h:∀(ns:List Str) (b0' b1' b2':Int),ns.length=m->ns.Nodup->(∀z∈ns,db z)->WellB b1' b2' (n+13*m)->P (.fl (ns.map .str)) [bj b0' b1' b2',.fz (.int m)]):cb [bj b0 b1 b2,.fz (.int m)] P
abbrev vo:Stmt:=top 68
abbrev Fo:FS:=
  (al (b7 2 (hV ae))
  (al (qq (cW (aa (ab 1) ae)) (ac 3)
   (bN (v9 2 (ah bK (aa (ab 0) (aa (ab 2) ae))))))
  (bh (ab 2))))
theorem Fp:Hh cb Fo [0] 4:=by
 intro os P h;obtain@⟨b0,b1,b2,n,m,_,r,s,t,q⟩:=h;have sz:=bG;ext;refine⟨aan _,?_⟩;ext;refine⟨⟨by nofun,by nofun⟩,?_⟩;ext
 refine bL (λi ρ=>∃(ns:List Str) (e:Option OV) (b0 b1 b2:Int),ns.length=i/\i<=m/\ns.Nodup/\(∀z∈ns,db z)/\WellB b1 b2 (n+13*i)/\ρ=[some (bj b0 b1 b2),some (.fz (.int m)),some (.fl (ns.map .str)),e])
  ⟨[],none,b0,b1,b2,rfl,aan _,abS,(λ_ h=>nomatch h),r.mono (by nofun),rfl⟩ ?_ ?_
 ·rintro i d ρ R hd ⟨ns,e,b0,b1,b2,g,j,c,a,b,rfl⟩ l;obtain⟨hi,rfl⟩:=aQ hd;ext;refine⟨rfl,?_⟩;ext;refine .mk _ rfl b (by nofun) a (by nofun) λy b0 b1 b2 o f k=>?_;ext;refine⟨by rw[abD];nofun,?_⟩;refine l _ ⟨ns++[y],some (.fz (.int (0+(i:Int)))),b0,b1,b2,by rw[abH,g];rfl,by nofun,KS.nodup_snoc c f,λv p=>?_,k.mono (by nofun),by rw[show (ns++[y]).map D.str=ns.map D.str++[D.str y] from aad];rfl⟩;rcases abE.mp p with h|h
  ·exact a v h
  ·rw[abF.mp h];exact o
 ·rintro ρ ⟨ns,e,b0,b1,b2,g,j,c,a,b,rfl⟩;rw[a9] at g b;ext;exact q ns b0 b1 b2 (by nofun) c a (b.mono (by nofun))
theorem pj:∀{st ls:List Sp2},(ls++st).Nodup->dc ls st=ls++st
 |[],ls,_=>by show ls=ls++[];rw[aam]
 | q::st,ls,h=>by
  show dc (if q∈ls then ls else ls++[q]) st=_;have a:q∉ls:=λb=>(abP.mp h).2.2 q b q (aab ..) rfl;have e:ls++q::st=(ls++[q])++st:=by rw[aar];rfl
  rw[if_neg a,e];exact pj (by rw[← e];exact h)
theorem qY{xs ys:List Str}(hx:xs.Nodup)(a:ys.Nodup)(h:∀v,v∈xs↔v∈ys):bC xs=bC ys:=
 (fG (zs:=ys) ((aK _).nodup_iff.mpr hx) (λv=>by rw[(aK _).mem_iff,h]) (bR _)).trans (fG ((aK _).nodup_iff.mpr a) (λv=>(aK _).mem_iff) (bR _)).symm
theorem J3{R:Rls}{z:Str}:∀(f:Nat) (s:As) (far:Nat) (ls:List Str) (r:Res),goF R z f s far ls=some r->ls.Nodup->r.ls.Nodup
 |0,s,far,ls,r,h,_=>by cases h
 | f+1,s,far,ls,r,h,nd=>by
  cases hd:s.dn with
  |true=>rw [qO hd] at h;cases h;exact nd
  | false=>
   obtain⟨w,p,t,_,_,h2⟩:=nb hd h;exact J3 f _ _ _ r h2 (ky nd)
abbrev Rt:=Option Nat×Nat×List Str
def Run(R:Rls)(t:Str)(c:Nat)(s:As)(far:Nat)(r:Rt)(st:List Sp2):Prop:=∀f ls,∃a,goF R t (c+f) s far ls=some ⟨r.1,r.2.1,a⟩/\(fZ R t (c+f) s).st=st/\∀v,v∈a↔v∈ls∨v∈r.2.2
def PtAt(R:Rls)(t:Str)(c:Nat)(x:Str)(k:Nat)(r:Rt):Prop:=∀f,∃a,rdF R t (c+f) x k=some ⟨r.1,r.2.1,a⟩/\∀v,v∈a↔v=x∨v∈r.2.2
def PtG(R:Rls)(t:Str)(c:Nat)(g:Nat->Rt)(pt:Str):Prop:=∀b,b<=t.length->PtAt R t c pt b (g b)
abbrev bgA(w:Str)(ps:List Str)(y:Str)(k:Nat):As:=⟨.comp w ps,y,k,k,0,[],false,none⟩
def vp(R:Rls)(t n0:Str)(p:Nat)(a:D):Prop:=∃(f:Nat) (r:Res),f<sizeLine/\rdF R t f n0 p=some r/\(dc [] (kT R t f (n0,p))).length<=1000/\a=cq r.ln ((r.far:Int) - (p:Int)+1) (dc [] (kT R t f (n0,p))) (bC r.ls)
section
variable   {l p:Nat} {a b x pt root:Str}  {r ra rb q:Rt} {s s':As}   {g ga gb:Nat->Rt}
theorem Run.fin(i:1<=c)(h:s.dn=true)(e:s.ln=ra.1)(g:far=ra.2.1)(b:ra.2.2=[])(a:s.st=st):Run R t c s far ra st:=λf ls=>by
 obtain⟨d,hd⟩:∃d,c+f=d+1:=⟨c+f - 1,by nofun⟩;exact⟨ls,by rw[hd,qO h,e,g],by rw[lV h,a],λv=>by rw[b];simp⟩
theorem Run.go(d:s.dn=false)(h1:s.fm=.comp w ps)(h2:ak ps s=(x,k))(hx:PtAt R t c x k r)(e:bU w ps s r.1=s')(H:Run R t c s' (max far r.2.1) q st):Run R t (c+1) s far (q.1,q.2.1,x::r.2.2++q.2.2) st:=λf ls=>by
 obtain⟨a,g1,g2⟩:=hx f;obtain⟨g,l,j,i⟩:=H f (m9 ls a);have b:rdF R t (c+f) (ak ps s).1 (ak ps s).2=some ⟨r.1,r.2.1,a⟩:=by rw[h2];exact g1
 refine⟨g,?_,?_,λv=>?_⟩
 ·rw[Nat.add_right_comm,kZ d h1 b,e];exact l
 ·rw[Nat.add_right_comm,lW d h1 b,e];exact j
 ·rw[i,ic,g2,abE,abI,or_assoc]
theorem gN(b:R y=.comp w ps)(H:Run R t c (bgA w ps y k) k r st):PtAt R t c y k r/\∀f,kT R t (c+f) (y,k)=st:=by
 have a:e8 R t y k=bgA w ps y k:=by unfold e8;rw[b]
 refine⟨λf=>?_,λf=>?_⟩
 ·obtain⟨l,h1,_,d⟩:=H f [y];exact⟨l,by show goF R t (c+f) (e8 R t y k) k [y]=_;rw[a];exact h1,λv=>by rw[d,abF]⟩
 ·obtain⟨l,_,h2,_⟩:=H f [];show (fZ R t (c+f) (e8 R t y k)).st=_;rw[a,h2]
theorem PtAt.mono(h:PtAt R t c a k ra)(b:c<=c'):PtAt R t c' a k ra:=λf=>by
 obtain⟨ls,h1,h2⟩:=h (c' - c+f);exact⟨ls,by rw[show c'+f=c+(c' - c+f) by nofun];exact h1,h2⟩
theorem PtG.mono(h:PtG R t c ga a)(d:c<=c'):PtG R t c' ga a:=λb e=>(h b e).mono d
theorem PtAt.same{L:List Str}(h:PtAt R t c a k r)(b:∀v,(v=a∨v∈r.2.2)↔(v=a∨v∈L)):PtAt R t c a k (r.1,r.2.1,L):=λf=>by
 obtain⟨ls,h1,h2⟩:=h f;exact⟨ls,h1,λv=>by rw[h2,b]⟩
theorem pp(i:c<sizeLine)(P:PtAt R t c y p r)(A:∀f,kT R t (c+f) (y,p)=st)(hs:st.Nodup)(g:st.length<=1000)(d:zs.Nodup)(e:∀v,v∈zs↔v=y∨v∈r.2.2):vp R t y p (cq r.1 ((r.2.1:Int) - (p:Int)+1) st (bC zs)):=by
 obtain⟨ls,g1,g2⟩:=P 0;have a:ls.Nodup:=J3 _ _ _ _ _ g1 (by simp);have b:dc [] (kT R t c (y,p))=st:=by rw[show kT R t c (y,p)=st from A 0];exact pj (ls:=[]) hs
 exact⟨c,_,i,g1,by rw[b];exact g,by rw[b,qY d a λv=>by rw[g2,e]]⟩
theorem gf(h:w = "row"){x:Option Nat}:bU w ps s x=yR ps { s with st:=s.st++[ak ps s] } x:=if_pos h
theorem cP(h:w = "first"){x:Option Nat}:bU w ps s x=eP ps { s with st:=s.st++[ak ps s] } x:=(if_neg (by rw[h];decide +kernel)).trans (if_pos h)
theorem iZ(h:w = "again"){x:Option Nat}:bU w ps s x=fA { s with st:=s.st++[ak ps s] } x:=(if_neg (by rw[h];decide +kernel)).trans ((if_neg (by rw[h];decide +kernel)).trans (if_pos h))
theorem vq(h:w = "not"){x:Option Nat}:bU w ps s x=kS { s with st:=s.st++[ak ps s] } (if x=none then some 0 else none):=(if_neg (by rw[h];decide +kernel)).trans ((if_neg (by rw[h];decide +kernel)).trans ((if_neg (by rw[h];decide +kernel)).trans (if_neg (by rw[h];decide +kernel))))
theorem kK{l:Leaf}(h:R a=.leaf l):PtAt R t 1 a k (eA l t k,k,[]):=λf=>⟨[a],by rw[Nat.add_comm];exact Fm h,λv=>by simp⟩
theorem dQ{l:Leaf}(h:R a=.leaf l):PtG R t 1 (λb=>(eA l t b,b,[])) a:=λ_ _=>kK h
theorem gE(b:R y=.comp "row" [a])(d:PtAt R t c a k ra):PtAt R t (c+2) y k (ra.1,max k ra.2.1,a::ra.2.2)/\∀f,kT R t (c+2+f) (y,k)=[(a,k)]:=by
 have:=gN b (.go rfl rfl rfl (d.mono (aaG c)) (gf rfl) (.fin (ra:=(ra.1,max k ra.2.1,[])) (st:=[(a,k)]) (by nofun) (by cases ra.1 <;> rfl) (by cases ra.1 with
  |none=>rfl
  |some l=>exact congrArg some (abt k l)) rfl rfl (by cases ra.1 <;> rfl)))
 rwa [aam] at this
theorem pq(d:R y=.comp "row" [a,b])(g:PtAt R t c a k ra)(e:ra.1=none):PtAt R t (c+2) y k (none,max k ra.2.1,a::ra.2.2)/\∀f,kT R t (c+2+f) (y,k)=[(a,k)]:=by
 have:=gN d (.go rfl rfl rfl (g.mono (aaG c)) ((gf rfl).trans (by rw[e])) (.fin (ra:=(none,max k ra.2.1,[])) (st:=[(a,k)]) (by nofun) rfl rfl rfl rfl rfl))
 rwa [aam] at this
theorem kL(d:R y=.comp "row" [a,b])(i:PtAt R t c a k ra)(e:ra.1=some l)(g:PtAt R t c b (k+l) rb):PtAt R t (c+3) y k (rb.1.map (l+·),max (max k ra.2.1) rb.2.1,a::ra.2.2++b::rb.2.2)/\∀f,kT R t (c+3+f) (y,k)=[(a,k),(b,k+l)]:=by
 have:=gN d (.go rfl rfl rfl (i.mono (c':=c+2) (by nofun)) ((gf rfl).trans (by rw[e];rfl)) (.go (s:=⟨.comp "row" [a,b],y,k,k+l,1,[(a,k)],false,none⟩) rfl rfl rfl (g.mono (aaG c)) (gf rfl) (.fin (ra:=(rb.1.map (l+·),max (max k ra.2.1) rb.2.1,[])) (st:=[(a,k),(b,k+l)]) (by nofun) (by cases rb.1 <;> rfl) (by cases rb.1 with
  |none=>rfl
  |some l2=>exact congrArg some (by show k+l+l2 - k=l+l2;nofun)) rfl rfl (by cases rb.1 <;> rfl))))
 rwa [aam] at this
theorem zI(d:R y=.comp "first" [a,b])(f:PtAt R t c a k ra)(e:ra.1=some l):PtAt R t (c+2) y k (some l,max k ra.2.1,a::ra.2.2):=by
 have:=(gN d (.go rfl rfl rfl (f.mono (aaG c)) ((cP rfl).trans ((congrArg (eP [a,b] _) e).trans (if_pos (.inl λz=>nomatch z)))) (.fin (ra:=(some l,max k ra.2.1,[])) (by nofun) rfl rfl rfl rfl rfl))).1
 rwa [aam] at this
theorem zJ(d:R y=.comp "first" [a,b])(g:PtAt R t c a k ra)(e:ra.1=none)(f:PtAt R t c b k rb):PtAt R t (c+3) y k (rb.1,max (max k ra.2.1) rb.2.1,a::ra.2.2++b::rb.2.2):=by
 have:=(gN d (.go rfl rfl rfl (g.mono (c':=c+2) (by nofun)) ((cP rfl).trans (by rw[e];exact if_neg λz=>z.elim (λh=>h rfl) λh=>nomatch h)) (.go (s:=⟨.comp "first" [a,b],y,k,k,1,[(a,k)],false,none⟩) rfl rfl rfl (f.mono (aaG c)) ((cP rfl).trans (if_pos (.inr rfl))) (.fin (ra:=(rb.1,max (max k ra.2.1) rb.2.1,[])) (by nofun) rfl rfl rfl rfl rfl)))).1
 rwa [aam] at this
def Gd(a:Str)(ga:Nat->Rt):Nat->Rt:=λk=>(if (ga k).1=none then some 0 else none,max k (ga k).2.1,a::(ga k).2.2)
theorem Fq(b:R y=.comp "not" [a])(e:PtG R t c ga a):PtG R t (c+2) (Gd a ga) y:=λk d=>by
 have:=(gN b (.go rfl rfl rfl ((e k d).mono (aaG c)) (vq rfl) (.fin (ra:=(if (ga k).1=none then some 0 else none,max k (ga k).2.1,[])) (by nofun) rfl rfl rfl rfl rfl))).1
 rwa [aam] at this
def jo(a b:Str)(ga gb:Nat->Rt):Nat->Rt:=λk=>match (ga k).1 with
 |none=>(none,max k (ga k).2.1,a::(ga k).2.2)
 |some l=>((gb (k+l)).1.map (λe=>l+e),max (max k (ga k).2.1) (gb (k+l)).2.1,a::(ga k).2.2++b::(gb (k+l)).2.2)
theorem vt(g:R y=.comp "row" [a,b])(i:PtG R t c ga a)(j:PtG R t c gb b)(d:∀k l,(ga k).1=some l->k<=t.length->k+l<=t.length):PtG R t (c+3) (jo a b ga gb) y:=λk f=>by
 unfold jo
 cases e:(ga k).1 with
 |none=>exact(pq g (i k f) e).1.mono (aaG _)
 |some l=>exact(kL g (i k f) e (j (k+l) (d k l e f))).1
def gg(G:Str->Nat->Rt):List Str->Nat->Rt
 |[],k=>(none,k,[])
 |[x],k=>((G x k).1,(G x k).2.1,x::(G x k).2.2)
 |x::y::r,k=>if (G x k).1≠none then ((G x k).1,(G x k).2.1,x::(G x k).2.2) else ((gg G (y::r) k).1,max (G x k).2.1 (gg G (y::r) k).2.1,x::(G x k).2.2++(gg G (y::r) k).2.2)
theorem mq{G:Str->Nat->Rt}:∀(xs dn:List Str) (far:Nat) (st:List Sp2),ps=dn++xs->xs≠[]->(∀x∈xs,PtAt R t c x k (G x k))->∃a,Run R t (c+xs.length+1) ⟨.comp "first" ps,y,k,k,dn.length,st,false,none⟩ far ((gg G xs k).1,max far (gg G xs k).2.1,(gg G xs k).2.2) a
 |[],dn,far,st,_,h,_=>absurd rfl h
 | x::xs,dn,far,st,b,_,i=>by
  have d:ak ps ⟨.comp "first" ps,y,k,k,dn.length,st,false,none⟩=(x,k):=by
   show (ps.getD dn.length "", k)=_;rw[b,List.getD_eq_getElem?_getD,List.getElem?_append_right (aac _),Nat.sub_self];rfl
  have g:ps.length=dn.length+(xs.length+1):=by rw[b,abH,abM]
  have f:=(i x (aab ..)).mono (c':=c+xs.length+1) (by nofun);by_cases hd:(G x k).1≠none∨dn.length+1=ps.length
  ·have m:gg G (x::xs) k=((G x k).1,(G x k).2.1,x::(G x k).2.2):=by
    cases xs with
    |nil=>rfl
    |cons z r=>exact if_pos (hd.resolve_right (by rw[g,abM];nofun))
   have:=Run.go (far:=far) rfl rfl d f ((cP rfl).trans (if_pos hd)) (.fin (ra:=((G x k).1,max far (G x k).2.1,[])) (by nofun) rfl rfl rfl rfl rfl);rw[aam] at this;rw[m];exact⟨_,this⟩
  ·have l:¬(G x k).1≠none:=λz=>hd (.inl z)
   cases xs with
   |nil=>exact absurd (.inr (by rw[g];rfl)) hd
   | cons z r=>
    obtain⟨a,e⟩:=mq (z::r) (dn++[x]) (max far (G x k).2.1) (st++[(x,k)]) (by rw[b,aar];rfl) (λq=>nomatch q) λv j=>i v (aae _ j);rw[show (dn++[x]).length=dn.length+1 by rw[abH];rfl] at e;have:=Run.go (far:=far) rfl rfl d f ((cP rfl).trans ((if_neg hd).trans (by rw[d]))) e;rw[show gg G (x::z::r) k=((gg G (z::r) k).1,max (G x k).2.1 (gg G (z::r) k).2.1,x::(G x k).2.2++(gg G (z::r) k).2.2) from if_neg l,← Nat.max_assoc];exact⟨a,this⟩
theorem gh{G:Str->Nat->Rt}(b:R y=.comp "first" ps)(a:ps≠[])(f:∀x∈ps,PtG R t c (G x) x):PtG R t (c+ps.length+1) (λk=>((gg G ps k).1,max k (gg G ps k).2.1,(gg G ps k).2.2)) y:=λk e=>
 (mq ps [] k [] rfl a λx d=>f x d k e).elim λ_ h=>(gN b h).1
theorem vv{s:Nat}(o:PtG R t c g pt)(hs:0<s):∀(m a far:Nat) (st:List Sp2),(∀i,i<m->(g (a+s*i)).1=some s)->((g (a+s*m)).1=none∨(g (a+s*m)).1=some 0)->a+s*m<=t.length->far<=(g (a+s*m)).2.1->(∀i,i<m->(g (a+s*i)).2.1<=(g (a+s*m)).2.1) ->
  ∃L,Run R t (c+m+2) ⟨.comp "again" [pt],root,p,a,0,st,false,none⟩ far (some (a+s*m - p),(g (a+s*m)).2.1,L) (st++(List.range (m+1)).map (λi=>(pt,a+s*i)))/\∀v,v∈L↔v=pt∨∃i,i<=m/\v∈(g (a+s*i)).2.2:=by
 intro m
 induction m with
 | zero=>
  intro a far st _ d f b _;have:=Run.go (s:=⟨.comp "again" [pt],root,p,a,0,st,false,none⟩) (far:=far) rfl rfl rfl ((o a f).mono (aaG c)) ((iZ rfl).trans (if_pos d)) (.fin (ra:=(some (a - p),(g a).2.1,[])) (st:=st++[(pt,a)]) (by nofun) rfl rfl (Nat.max_eq_right b) rfl rfl);refine⟨_,this,λv=>?_⟩;rw[aam,abI];exact or_congr_right ⟨λh=>⟨0,aac _,h⟩,fun⟨i,hi,h⟩=>by cases Nat.le_zero.mp hi;exact h⟩
 | succ m r=>
  intro a far st l d f b k;have q:=l 0 (Nat.succ_pos _);have j:=k 0 (Nat.succ_pos _);rw[Nat.mul_zero,Nat.add_zero] at q j;have e:∀i,a+s+s*i=a+s*(i+1):=λi=>by rw[Nat.mul_succ];nofun
  obtain⟨L,w,u⟩:=r (a+s) (max far (g a).2.1) (st++[(pt,a)]) (λi hi=>by rw[e];exact l (i+1) (by nofun)) (by rw[e];exact d) (by rw[e];exact f) (by rw[e];exact Nat.max_le.mpr ⟨b,j⟩) (λi hi=>by rw[e,e];exact k (i+1) (by nofun));have:=Run.go (s:=⟨.comp "again" [pt],root,p,a,0,st,false,none⟩) (far:=far) rfl rfl rfl ((o a (aas (Nat.le_add_right _ _) f)).mono (c':=c+m+2) (by nofun)) ((iZ rfl).trans (by rw[q];exact if_neg λz=>z.elim (λy=>nomatch y) λy=>by cases y;nofun)) w
  rw[e,aar,show [(pt,a)]++(List.range (m+1)).map (λi=>((pt,a+s+s*i):Sp2))=(List.range (m+1+1)).map (λi=>(pt,a+s*i)) by
   rw[List.range_succ_eq_map (n:=m+1),abG,aat];exact congrArg ((pt,a)::·) (aay λi _=>by show (pt,a+s+s*i)=(pt,a+s*(i+1));rw[e])] at this
  refine⟨_,this,λv=>?_⟩;rw[abE,abI,u];constructor
  ·rintro ((h|h)|h|⟨i,hi,h⟩)
   ·exact .inl h
   ·exact .inr ⟨0,aan _,h⟩
   ·exact .inl h
   ·exact .inr ⟨i+1,by nofun,by rw[← e];exact h⟩
  ·rintro (h|⟨i,hi,h⟩)
   ·exact .inl (.inl h)
   ·cases i with
    |zero=>exact .inl (.inr h)
    |succ i=>exact .inr (.inr ⟨i,by nofun,by rw[e];exact h⟩)
theorem zK{s:Nat}(hs:0<s):((List.range m).map λi=>((pt,p+s*i):Sp2)).Nodup:=by
 refine List.pairwise_map.mpr (List.Pairwise.imp (fun {a b} (h:a<b) e=>?_) List.pairwise_lt_range);have h1:=(Prod.mk.inj e).2;have h2:s*a<s*b:=Nat.mul_lt_mul_of_pos_left h hs;nofun
theorem gi{s:Nat}(l:R root=.comp "again" [pt])(n:PtG R t c g pt)(hs:0<s)(q:c<=1000)(o:m<=900)(j:∀i,i<m->(g (p+s*i)).1=some s)(b:(g (p+s*m)).1=none∨(g (p+s*m)).1=some 0)(f:p+s*m<=t.length)(a:p<=(g (p+s*m)).2.1)(e:∀i,i<m->(g (p+s*i)).2.1<=(g (p+s*m)).2.1)(k:zs.Nodup)(d:∀v,v∈zs↔v=root∨v=pt∨∃i,i<=m/\v∈(g (p+s*i)).2.2) :
  vp R t root p (cq (some (s*m)) (((g (p+s*m)).2.1:Int) - (p:Int)+1) ((List.range (m+1)).map λi=>(pt,p+s*i)) (bC zs)):=by
 have sz:=bG;obtain⟨L,h1,h2⟩:=vv (root:=root) (p:=p) n hs m p p [] j b f a e;rw[abt] at h1;obtain⟨P,A⟩:=gN l h1;exact pp (by nofun) P A (zK hs) (by show (List.map _ _).length<=_;rw[abD,abT];nofun) k λv=>by rw[d,h2]
end
def Ka(d:D)(cs:List Nat):Prop:=d=.str ⟨cs.toArray⟩∨d=.lst ((cs.map λc=>(⟨#[c]⟩:Str)).map .str)
inductive dA:Ct
 |mk {b0 b1 b2:Int} (n:Int) {m:Nat} {d:D} {cs:List Nat} {P:Pk} (h1:Ka d cs) (h2:cs≠[]) (h3:cs.length<=1000) (hb:WellB b1 b2 n) (hn:n<2 ^ 37) (hm:m<=1000) (h:∀(t:Str) (b0' b1' b2':Int),t.length=m->(∀c∈t.cps.toList,c∈cs)->WellB b1' b2' (n+m)->P (.fz (.str t)) [bj b0' b1' b2',.fz d,.fz (.int m)]):dA [bj b0 b1 b2,.fz d,.fz (.int m)] P
abbrev Kb:Stmt:=top 61
abbrev MI:FS:=
  (bh (tO (fC (.str "")) (bw [1,0] 1 (cW (aa (ab 2) ae)) (ac 0) jC (fOp aIx (ab 2) (ah ag (aa (ab 1) (aa (fFz (fCB et (aa (ab 2) ae))) ae)))))))
theorem MJ:Hh dA MI [0] 3:=by
 intro os P h;obtain@⟨b0,b1,b2,n,m,d,k,_,hd,w,L,G,N,O,q⟩:=h;have sz:=bG;have M:0<k.length:=List.length_pos_iff.mpr w;have K:0<=n:=Int.le_trans G.2.2.1 G.2.2.2;ext;refine⟨⟨by nofun,by nofun⟩,?_⟩;ext
 refine aA (λi as ρ=>∃(zs:List Str) (x:Option OV) (b0 b1 b2:Int),as=zs.map .str/\zs.length=i/\(∀z∈zs,∃c∈k,z=⟨#[c]⟩)/\WellB b1 b2 (n+i)/\ρ=[x,some (bj b0 b1 b2),some (.fz d),some (.fz (.int m))])
  ⟨[],none,b0,b1,b2,rfl,rfl,(λ_ h=>nomatch h),G.mono (by nofun),rfl⟩ ?_ ?_
 ·rintro i e as ρ R F ⟨zs,x,b0,b1,b2,rfl,E,o,f,rfl⟩ J;obtain⟨hi,rfl⟩:=aQ F;ext;refine c9 ?_
  have done:∀(c:Nat) (b0 b1 b2:Int),c∈k->WellB b1 b2 (n+i+1)->zs.length<sizeLine/\R (zs.map D.str++[D.str ⟨#[c]⟩]) [some (.fz (.int (0+(i:Int)))),some (bj b0 b1 b2),some (.fz d),some (.fz (.int m))]:=λc b0 b1 b2 j b=>⟨by nofun,J _ _ ⟨zs++[⟨#[c]⟩],_,b0,b1,b2,by rw[aad];rfl,by rw[abH,E];rfl,λz a=>by
   rcases abE.mp a with h|h
   ·exact o z h
   ·exact⟨c,j,abF.mp h⟩,b.mono (by nofun),rfl⟩⟩
  rcases hd with rfl|rfl
  ·ext;have g:(⟨k.toArray⟩:Str).length=k.length:=ao _;refine⟨by rw[g];nofun,?_⟩;ext;rw[g];refine aZ _ f (by nofun) (by nofun) (by nofun) λr b0 b1 b2 s p b=>?_;ext;refine⟨by rw[g];nofun,?_⟩;refine kn s p λc j=>?_;have:=done c b0 b1 b2 j b;ext;rw[abD];exact this
  ·ext;rw[abD,abD];refine aZ _ f (by nofun) (by nofun) (by nofun) λr b0 b1 b2 s p b=>?_;ext;refine fH s (by rw[abD,abD];exact p) λe F=>?_;obtain⟨z,a,rfl⟩:=abJ.mp F;obtain⟨c,j,rfl⟩:=abJ.mp a;have:=done c b0 b1 b2 j b;ext;rw[abD];exact this
 ·rintro as ρ ⟨zs,x,b0,b1,b2,rfl,E,o,f,rfl⟩;rw[a9] at E f
  have A:(zs.map λz=>z.cps.toList).flatten.length=zs.length:=by
   rw[List.length_flatten,aat];have:zs.map ((λl:List Nat=>l.length) ∘ λz:Str=>z.cps.toList)=zs.map λ_=>1:=aay λz a=>by obtain⟨c,_,rfl⟩:=o z a;rfl
   rw[show (List.map (List.length ∘ λz:Str=>z.cps.toList) zs)=zs.map λ_=>1 from this];exact dH zs
  have B:(zs.map (·.length)).sum=zs.length:=by
   have:zs.map (·.length)=zs.map λ_=>1:=aay λz a=>by obtain⟨c,_,rfl⟩:=o z a;rfl
   rw[this];exact dH zs
  have I:(Builtin.Str.glued (Str.ofString "") zs).cps.toList=(zs.map λz=>z.cps.toList).flatten:=fQ zs;have v:(Builtin.Str.glued (Str.ofString "") zs).length=m:=by rw[ao,I,A];nofun
  have u:∀c∈(Builtin.Str.glued (Str.ofString "") zs).cps.toList,c∈k:=λy H=>by
   rw[I] at H;obtain⟨l,C,t⟩:=List.mem_flatten.mp H;obtain⟨z,a,rfl⟩:=abJ.mp C;obtain⟨c,j,rfl⟩:=o z a;rw[abF.mp (show y∈[c] from t)];exact j
  ext;refine iM ⟨by rw[B];show zs.length+zs.length*0<=_;nofun,?_⟩;ext;exact q _ b0 b1 b2 v u (f.mono (by nofun))
abbrev fM(c:Nat):Str:=⟨#[c]⟩
inductive ce:Ct
 |mk {b0 b1 b2:Int} (n:Int) {ws:List Nat} {P:Pk} (h1:ws.Nodup) (h2:∀c∈ws,c∈fq.cps.toList) (h3:ws.length<=30) (hb:WellB b1 b2 n) (hn:n<2 ^ 37) (h:∀(c:Nat) (b0' b1' b2':Int),c∈fq.cps.toList->c∉ws->WellB b1' b2' (n+1)->P (.fz (.str (fM c))) [bj b0' b1' b2',.fl ((ws.map fM).map .str)]):ce [bj b0 b1 b2,.fl ((ws.map fM).map .str)] P
abbrev vx:Stmt:=top 67
abbrev Fs:FS:=
  (al (bO (fC (.str " !\"#$&'()*+,-./0123456789:;<=>?\x40ABCDEFGHIJKLMNOPQRSTUVWXYZ[\\]^_`abcdefghijklmnopqrstuvwxyz{|}~")) (ac 2))
  (bh (fOp aIx (bw [1] 1 (xy (ab 2)) (ac 0) (au (fOp jF (ab 0) (ab 2))) (ab 0)) (ah ag (aa (ab 0) (aa (fFz (fOp (aI0 λi j=>.int (i - j)) (fC (.int 94)) (fCB et (aa (ab 1) ae)))) ae))))))
theorem zL:fq.cps.toList.Nodup:=by decide +kernel
theorem qZ{a L:List Nat}(d:a.Nodup)(e:L.Nodup)(hs:∀c∈a,c∈L):(L.filter λc=>decide (c∉a)).length=L.length - a.length:=by
 have h1:(L.filter λc=>decide (c∈a)).length=a.length:=by
  refine Nat.le_antisymm (aax (e.filter _) λc b=>of_decide_eq_true (abQ.mp b).2) (aax d λc b=>abQ.mpr ⟨hs c b,decide_eq_true b⟩)
 have h2:=List.length_eq_countP_add_countP (λc=>decide (c∈a)) (l:=L);rw[List.countP_eq_length_filter,List.countP_eq_length_filter,h1] at h2;have f:(L.filter λc=>decide (¬decide (c∈a)=true))=L.filter λc=>decide (c∉a):=List.filter_congr λc _=>by by_cases h:c∈a <;> simp[h]
 rw[f] at h2;nofun
theorem Ft:Hh ce Fs [0,1] 3:=by
 intro os P h;obtain@⟨b0,b1,b2,n,a,_,p,b,G,B,F,q⟩:=h;have sz:=bG
 have f:∀c,fM c∈a.map fM↔c∈a:=λc=>by
  rw[abJ];exact⟨fun⟨d,hd,e⟩=>by cases e;exact hd,λh=>⟨c,h,rfl⟩⟩
 have g:=qZ p zL b;rw[iP] at g;ext;refine aA (λi as ρ=>∃(x:Option OV),as=(((fq.cps.toList.take i).filter λc=>decide (c∉a)).map fM).map .str/\ρ=[x,some (bj b0 b1 b2),some (.fl ((a.map fM).map .str)),some (.fz (.str fq))]) ⟨none,rfl,rfl⟩ ?_ ?_
 ·rintro i d as ρ R hd ⟨x,rfl,rfl⟩ u
  obtain⟨c,k,rfl⟩:∃c,fq.cps.toList[i]?=some c/\d=.str (fM c):=by
   have j:(fq.cps.toList.map λc=>D.str ⟨#[c]⟩)[i]?=some d:=hd;rw[List.getElem?_map,aaq] at j;obtain⟨r,h1,h2⟩:=j;exact⟨r,h1,h2.symm⟩
  have s:=aaW (λc=>decide (c∉a)) (fq.cps.toList.take i);rw[aah,iP] at s;ext;refine⟨⟨rfl,oq _⟩,?_⟩;ext;refine am (c∉a) (by rw[aaT,abX,Ne,eZ,f]) (λo=>?_) (λo=>?_)
  ·ext;refine⟨by rw[abD,abD];nofun,u _ _ ⟨_,?_,rfl⟩⟩;rw[aap,k,aaI,aad,aad];simp[o]
  ·refine u _ _ ⟨_,?_,rfl⟩;rw[aap,k,aaI,aad,aad];have m:=Classical.not_not.mp o;simp[m]
 ·rintro as ρ ⟨x,rfl,rfl⟩;rw[show (fR (Str.ofString " !\"#$&'()*+,-./0123456789:;<=>?\x40ABCDEFGHIJKLMNOPQRSTUVWXYZ[\\]^_`abcdefghijklmnopqrstuvwxyz{|}~")).length=fq.cps.toList.length from abD ..,aai (aac _)];generalize C:(fq.cps.toList.filter λc=>decide (c∉a))=L at g;ext;rw[abD,abD];refine aZ _ B (by nofun) (by nofun) (by nofun) λr b0 b1 b2 v E t=>?_;ext;refine fH v (by rw[abD,abD];nofun) λe A=>?_;obtain⟨z,l,rfl⟩:=abJ.mp A;obtain⟨c,k,rfl⟩:=abJ.mp l;rw[← C] at k;obtain⟨y,w⟩:=abQ.mp k;ext;exact q c b0 b1 b2 y (of_decide_eq_true w) t
theorem jR:∀{more rows:List Rw},((rows++more).map (·.1)).Nodup->cY ((rows.map (·.1)).map Sum.inr,rows.map λr=>av r.2.1 r.2.2) (more.map λr=>(Sum.inr r.1,av r.2.1 r.2.2))=(((rows++more).map (·.1)).map Sum.inr,(rows++more).map λr=>av r.2.1 r.2.2)
 |[],rows,_=>by rw[aam];rfl
 | r::more,rows,nd=>by
  have e:rows++r::more=(rows++[r])++more:=by rw[aar];rfl
  have a:r.1∉rows.map (·.1):=λh=>by
   rw[aad,abG] at nd;exact(abP.mp nd).2.2 _ h _ (aab ..) rfl
  rw[e] at nd ⊢;rw[← jR nd];show cY (gH ((rows.map (·.1)).map Sum.inr) (rows.map λr=>av r.2.1 r.2.2) (.inr r.1) (av r.2.1 r.2.2)) _=_;rw[pi a,aad,aad,aad];rfl
theorem cQ{more:List Rw}(nd:(more.map (·.1)).Nodup):cY ([],[]) (more.map λr=>(Sum.inr r.1,av r.2.1 r.2.2))=((more.map (·.1)).map Sum.inr,more.map λr=>av r.2.1 r.2.2):=jR (rows:=[]) nd
structure MakeOk(rows:List Rw)(t n0:Str)(p:Nat)(due:D):Prop where
 nd:(rows.map (·.1)).Nodup
 few:rows.length<=30
 bk:BookR (a7 rows)
 rd:vp (jn (a7 rows)) t n0 p due
theorem cw(nd:(rows.map (·.1)).Nodup){r:Rw}(hr:r∈rows):jn (a7 rows) r.1=rlR r.2.1 r.2.2:=by
 rw[nq nd];obtain⟨r',a,b,e⟩:=du (rows:=rows) (n:=r.1) (abJ.mpr ⟨r,hr,rfl⟩);rw[e,o7 nd hr a b]
theorem ie :eA .any z k=if k<z.length then some 1 else none:=by
 simp only[eA,mG];by_cases h:k<z.length
 ·rw[if_pos h,if_pos h];rfl
 ·rw[if_neg h,if_neg h]
abbrev fB(ns:List Str)(t:Str)(p:Nat):List OV:=[.fz (.lst (ns.map .str)),.fz (.str t),.fz (.int p)]
structure NamesOk(ns:List Str)(m:Nat)(t:Str)(p:Nat):Prop where
 len:ns.length=m
 nd:ns.Nodup
 nm:∀z∈ns,db z
 tl:t.length<=401
 p:p<=t.length
abbrev vy(a:Addr)(rows:List Rw)(b:D):OV:=.ot [.fd a ((rows.map (·.1)).map Sum.inr) (rows.map λr=>av r.2.1 r.2.2),.fz b]
inductive eU:Ct
 |mk {ns:List Str} {t:Str} {p:Nat} {P:Pk} (N:NamesOk ns 6 t p) (h:∀(rows:List Rw) (due:D) (a:Addr),MakeOk rows t (ns.headD "") p due->P (vy a rows due) (fB ns t p)):eU (fB ns t p) P
abbrev Kc:Stmt:=top 63
abbrev MK:FS:=
  (al (b7 3 (jL (cI (fOp aIx (ab 0) (fC (.int 0))) (c6 (aa (fC (.str "again")) (aa (fOp aIx (ab 0) (fC (.int 1))) ae))) (cI (fOp aIx (ab 0) (fC (.int 1))) (c6 (aa (fC (.str "any")) ae)) qJ))))
  (al (bO (fOp (aI0 λi j=>.int (i - j)) (fCB et (aa (ab 1) ae)) (ab 2)) (ac 4))
  (bh (lP (aa (ab 3) (aa (c6 (aa (ab 4) (aa (fOp b6 (ab 4) (fC (.int 1))) (aa (bw [0] 1 (nY (aa (ab 2) (aa (fOp b6 (fCB et (aa (ab 1) ae)) (fC (.int 1))) ae))) (ac 0) jC (c6 (aa (fOp aIx (ab 1) (fC (.int 1))) (aa (ab 0) ae)))) (aa (fCB cF (aa (fSl aSl (ab 0) bM (dJ (fC (.int 2)))) ae)) ae))))) ae))))))
theorem ML:Hh eU MK [] 5:=by
 intro os P h;obtain@⟨ns,t,p,_,N,q⟩:=h;have sz:=bG;have C:=N.tl;have K:=N.p
 obtain⟨n0,n1,n2,n3,n4,n5,rfl⟩:∃n0 n1 n2 n3 n4 n5,ns=[n0,n1,n2,n3,n4,n5]:=by
  match ns,N.len with
  |[a,b,c,d,e,f],_=>exact ⟨a,b,c,d,e,f,rfl⟩
 have j:n0≠n1:=λe=>by have:=N.nd;rw[e] at this;simp at this
 have g:([n0,n1]:List Str).Nodup:=(by exists j);have y:=cQ (more:=[(n0, "again", [n1]),(n1, "any", [])]) g;ext;refine⟨lez 2,?_⟩;ext;refine⟨lez 1,?_⟩;ext;refine⟨(by decide:(2:Nat)<=15),?_⟩;ext;refine⟨by nofun,?_⟩;ext;refine⟨by nofun,?_⟩;ext;refine⟨⟨by nofun,by nofun,by nofun,by nofun⟩,?_⟩;ext;refine aA (λi as ρ=>∃x:Option OV,as=((List.range i).map λk=>((n1,p+k):Sp2)).map bt/\ρ=[x,some (.fz (.lst ([n0,n1,n2,n3,n4,n5].map .str))),some (.fz (.str t)),some (.fz (.int p)),some (bS [(n0, "again", [n1]),(n1, "any", [])]),some (.fz (.int ((t.length:Int) - (p:Int))))]) ⟨none,rfl,?_⟩ ?_ ?_
 ·have n:cY ([],[]) [(Sum.inr n0,D.tup [D.str "again", D.str n1]),(Sum.inr n1,D.tup [D.str "any"])]=_:=y;rw[n]
 ·rintro i d as ρ R hd ⟨x,rfl,rfl⟩ B;obtain⟨hi,rfl⟩:=aQ hd;ext;refine c9 ?_;ext;refine⟨lez 2,?_⟩;ext;refine⟨by rw[abD,abD,abT];nofun,B _ _ ⟨_,?_,rfl⟩⟩;rw[aba,aad,aad];rfl
 ·rintro as ρ ⟨x,rfl,rfl⟩;rw[a9];ext;rw[show eC ([n0,n1,n2,n3,n4,n5].map D.str) none (some 2)=[n0,n1].map D.str from (dG _ 2)];refine cH (zs:=[n0,n1]) (by show 2<64;decide) ?_;ext;refine⟨lez 4,?_⟩;ext;intro as;ext;refine⟨lez 2,?_⟩;ext;refine q [(n0, "again", [n1]),(n1, "any", [])] _ (as 0) ⟨g,by show 2<=30;decide,?_,?_⟩
  ·refine cL (pool:=[n1]) (rank:=λx=>if x=n0 then 1 else 0) ⟨g,λr hr=>?_,by show 2<=30;decide,λz l=>by rw[abF.mp l];exact N.nm n1 (by simp),by show 1<=45;decide,λr hr x w=>?_⟩
   ·simp only[List.mem_cons,List.not_mem_nil,or_false] at hr;rcases hr with rfl|rfl
    ·exact⟨N.nm n0 (by simp),.inr (.inr (.inl ⟨.inl rfl,rfl,λz l=>l⟩))⟩
    ·exact⟨N.nm n1 (by simp),.inl ⟨.inr rfl,rfl⟩⟩
   ·simp only[List.mem_cons,List.not_mem_nil,or_false] at hr;rcases hr with rfl|rfl
    ·rw[abF.mp (show x∈[n1] from w)];show (if n1=n0 then 1 else 0)<(if n0=n0 then 1 else 0);rw[if_pos rfl,if_neg (Ne.symm j)];decide
    ·exact nomatch (show x∈[] from w)
  ·have u:=cw (rows:=[(n0, "again", [n1]),(n1, "any", [])]) g (aab ..);have o:=cw (rows:=[(n0, "again", [n1]),(n1, "any", [])]) g (aae _ (aab ..));generalize jn (a7 [(n0, "again", [n1]),(n1, "any", [])])=R at *;obtain⟨m,y⟩:∃m,t.length=p+m:=⟨t.length - p,by nofun⟩;have E:PtG R t 1 (λb=>(eA .any t b,b,[])) n1:=dQ o;have J:=gi (s:=1) (m:=m) (p:=p) (zs:=[n0,n1]) u E (by decide) (by decide) (by nofun) (λi hi=>by rw[ie,if_pos (by nofun)]) (.inl (by rw[ie,if_neg (by nofun)])) (by nofun) (Nat.le_add_right _ _) (λi hi=>by show p+1*i<=p+1*m;nofun) g (λv=>by simp);have I:((t.length:Int)+1 - (p:Int)).toNat=m+1:=by nofun
   have H:((t.length:Int) - (p:Int))=((m:Nat):Int):=by nofun
   have G:(((p+1*m:Nat):Int) - (p:Int)+1)=(m:Int)+1:=by nofun
   have F:((List.range (m+1)).map λi=>((n1,p+1*i):Sp2))=(List.range (m+1)).map λi=>((n1,p+i):Sp2):=aay λi _=>by rw[aaN]
   have A:vp R t n0 p (cq (some (1*m)) (((p+1*m:Nat):Int) - (p:Int)+1) ((List.range (m+1)).map λi=>((n1,p+1*i):Sp2)) (bC [n0,n1])):=J;rw[G,F,aaN] at A;show vp R t n0 p (.tup [.int ((t.length:Int) - (p:Int)),.int ((t.length:Int) - (p:Int)+1),.lst (((List.range ((t.length:Int)+1 - (p:Int)).toNat).map λk=>((n1,p+k):Sp2)).map bt),.lst ((bC [n0,n1]).map .str)]);rw[I,H];exact A
theorem eV(h:z.cps.toList[k]?=some c):eA (.signs s) z k=if c∈s.cps.toList then some 1 else none:=by
 unfold eA;rw[uy h];by_cases a:c∈s.cps.toList
 ·rw[if_pos a,if_pos a];rfl
 ·rw[if_neg a,if_neg a]
theorem gj(h:z.length<=k):eA (.signs s) z k=none:=by
 unfold eA;rw[oH (List.getElem?_eq_none (by have:=ao z;nofun))]
abbrev upG(n2 n3 n4 s t:Str):Nat->Option Nat×Nat×List Str:=jo n2 n3 (Gd n4 λb=>(eA (.signs s) t b,b,[])) λb=>(eA .any t b,b,[])
theorem Kd(h:t.cps.toList[k]?=some c)(b:c∉s.cps.toList):upG n2 n3 n4 s t k=(some 1,k,[n2,n4,n3]):=by
 have a:k<t.length:=by have:=(List.getElem?_eq_some_iff.mp h).1;rwa [ao]
 simp only[upG,jo,Gd,eV h,if_neg b,if_true,Nat.add_zero,ie,if_pos a,Nat.max_self];rfl
theorem pr(h:t.cps.toList[k]?=some c)(a:c∈s.cps.toList):upG n2 n3 n4 s t k=(none,k,[n2,n4]):=by
 simp[upG,jo,Gd,eV h,a]
theorem i6(h:t.length<=k):upG n2 n3 n4 s t k=(none,k,[n2,n4,n3]):=by
 simp[upG,jo,Gd,gj h,ie,Nat.not_lt.mpr h]
abbrev upR(n0 n1 n2 n3 n4 s:Str):List Rw:=[(n0, "again", [n1]),(n1, "row", [n2,n3]),(n2, "not", [n4]),(n3, "any", []),(n4, "signs", [s])]
abbrev upL(n0 n1 n2 n3 n4:Str)(b:Prop)[Decidable b]:List Str:=[n0,n1,n2,n4]++if b then [n3] else []
theorem vz{p:Nat}(N:NamesOk [n0,n1,n2,n3,n4,n5] 6 t p)(hs:bZ s)(Q:p+m<=t.length)(hr:∀i,i<m->∃c,t.cps.toList[p+i]?=some c/\c∉s.cps.toList)(G:p+m=t.length∨∃c,t.cps.toList[p+m]?=some c/\c∈s.cps.toList) :
  MakeOk (upR n0 n1 n2 n3 n4 s) t n0 p (cq (some m) ((m:Int)+1) ((List.range (m+1)).map λi=>((n1,p+i):Sp2)) (bC (upL n0 n1 n2 n3 n4 (0<m∨p=t.length)))):=by
 have hd:=N.nd;simp only[List.nodup_cons,List.mem_cons,List.not_mem_nil,or_false,not_or,List.nodup_nil,and_true,not_false_eq_true] at hd;obtain⟨⟨d,n,D,y,_⟩,⟨j,C,w,_⟩,⟨B,u,_⟩,⟨A,_⟩,_⟩:=hd;have nd:((upR n0 n1 n2 n3 n4 s).map (·.1)).Nodup:=by simp[d,n,D,y,j,C,w,B,u,A]
 have P:=N.tl;refine⟨nd,by show 5<=30;decide,cL (pool:=[n1,n2,n3,n4]) (rank:=λx=>if x=n0 then 3 else if x=n1 then 2 else if x=n2 then 1 else 0) ⟨nd,λr hr=>?_,by show 5<=30;decide,λz o=>N.nm z (by simp only[List.mem_cons,List.not_mem_nil,or_false] at o ⊢;rcases o with h|h|h|h <;> simp[h]),by show 4<=45;decide,λr hr x F=>?_⟩,?_⟩
 ·simp only[List.mem_cons,List.not_mem_nil,or_false] at hr;rcases hr with rfl|rfl|rfl|rfl|rfl
  ·exact⟨N.nm n0 (by simp),.inr (.inr (.inl ⟨.inl rfl,rfl,λz o=>by rw[List.mem_singleton.mp o];simp⟩))⟩
  ·exact⟨N.nm n1 (by simp),.inr (.inr (.inr ⟨.inl rfl,(by decide:(1:Nat)<=2),(by decide:(2:Nat)<=8),λz o=>by simp only[List.mem_cons,List.not_mem_nil,or_false] at o ⊢;rcases o with h|h <;> simp[h]⟩))⟩
  ·exact⟨N.nm n2 (by simp),.inr (.inr (.inl ⟨.inr (.inr rfl),rfl,λz o=>by rw[List.mem_singleton.mp o];simp⟩))⟩
  ·exact⟨N.nm n3 (by simp),.inl ⟨.inr rfl,rfl⟩⟩
  ·exact⟨N.nm n4 (by simp),.inr (.inl ⟨rfl,s,rfl,hs⟩)⟩
 ·simp only[List.mem_cons,List.not_mem_nil,or_false] at hr;rcases hr with rfl|rfl|rfl|rfl|rfl
  ·rw[abF.mp (show x∈[n1] from F)];simp[Ne.symm d]
  ·have H:x=n2∨x=n3:=by simpa using (show x∈[n2,n3] from F)
   rcases H with rfl|rfl
   ·simp[Ne.symm d,Ne.symm n,Ne.symm j]
   ·simp[Ne.symm d,Ne.symm D,Ne.symm C,Ne.symm B]
  ·rw[abF.mp (show x∈[n4] from F)];simp[Ne.symm n,Ne.symm j,Ne.symm y,Ne.symm w,Ne.symm u]
  ·exact nomatch (show x∈[] from F)
  ·exact nomatch (show x∈[] from F)
 ·have M:=cw nd (r:=(n0, "again", [n1])) (by simp);have L:=cw nd (r:=(n1, "row", [n2,n3])) (by simp);have K:=cw nd (r:=(n2, "not", [n4])) (by simp);have J:=cw nd (r:=(n3, "any", [])) (by simp);have I:=cw nd (r:=(n4, "signs", [s])) (by simp);generalize jn (a7 (upR n0 n1 n2 n3 n4 s))=R at *;have V:PtG R t 1 (λb=>(eA (.signs s) t b,b,[])) n4:=dQ I;have P3:PtG R t 1 (λb=>(eA .any t b,b,[])) n3:=dQ J;have W:=Fq K V
  have X:PtG R t 6 (upG n2 n3 n4 s t) n1:=vt L W (P3.mono (by decide)) (λk l h Y=>by
   have:l=0:=by
    unfold Gd at h;split at h
    ·exact(aaj h).symm
    ·cases h
   nofun)
  have a:(upG n2 n3 n4 s t (p+m)).1=none/\(upG n2 n3 n4 s t (p+m)).2.1=p+m:=by
   rcases G with h|⟨c,h1,h2⟩
   ·rw[i6 (by nofun)];exact⟨rfl,rfl⟩
   ·rw[pr h1 h2];exact⟨rfl,rfl⟩
  have q:∀i,i<m->upG n2 n3 n4 s t (p+i)=(some 1,p+i,[n2,n4,n3]):=λi hi=>by
   obtain⟨c,h1,h2⟩:=hr i hi;exact Kd h1 h2
  have O:=gi (s:=1) (m:=m) (p:=p) (zs:=upL n0 n1 n2 n3 n4 (0<m∨p=t.length)) M X (by decide) (by decide) (by nofun) (λi hi=>by rw[aaN,q i hi]) (.inl (by rw[aaN];exact a.1)) (by nofun) (by rw[aaN,a.2];exact Nat.le_add_right _ _) (λi hi=>by rw[aaN,aaN,q i hi,a.2];show p+i<=p+m;nofun) (by
   unfold upL;split
   ·simp[d,n,D,y,j,C,w,B,u,A,Ne.symm A]
   ·simp[d,n,y,j,w,u]) (λv=>by
   have U:∀i,i<=m->v∈(upG n2 n3 n4 s t (p+i)).2.2->v=n2∨v=n4∨((0<m∨p=t.length)/\v=n3):=λi hi f=>by
    by_cases e:i=m
    ·rw[e] at f;rcases G with h|⟨c,h1,h2⟩
     ·rw[i6 (by nofun)] at f;have g:v=n2∨v=n4∨v=n3:=(by exists f);exact g.imp_right λh'=>h'.imp_right λE=>⟨by nofun,E⟩
     ·rw[pr h1 h2] at f;have g:v=n2∨v=n4:=(by exists f);exact g.imp_right .inl
    ·rw[q i (by nofun)] at f;have g:v=n2∨v=n4∨v=n3:=(by exists f);exact g.imp_right λh'=>h'.imp_right λE=>⟨by nofun,E⟩
   have T:v=n2∨v=n4∨((0<m∨p=t.length)/\v=n3)->∃i,i<=m/\v∈(upG n2 n3 n4 s t (p+i)).2.2:=λh=>by
    rcases h with h|h|⟨Z,h⟩
    ·refine⟨m,aac _,?_⟩;rcases G with h'|⟨c,h1,h2⟩
     ·rw[i6 (by nofun)];simp[h]
     ·rw[pr h1 h2];simp[h]
    ·refine⟨m,aac _,?_⟩;rcases G with h'|⟨c,h1,h2⟩
     ·rw[i6 (by nofun)];simp[h]
     ·rw[pr h1 h2];simp[h]
    ·by_cases e:0<m
     ·exact⟨0,aan _,by rw[q 0 e];simp[h]⟩
     ·exact⟨m,aac _,by rw[i6 (by nofun)];simp[h]⟩
   have S:v∈upL n0 n1 n2 n3 n4 (0<m∨p=t.length)↔v=n0∨v=n1∨(v=n2∨v=n4∨((0<m∨p=t.length)/\v=n3)):=by
    unfold upL;by_cases h:0<m∨p=t.length
    ·rw[if_pos h];simp[h]
    ·rw[if_neg h];simp[h]
   rw[S];refine or_congr Iff.rfl (or_congr Iff.rfl ⟨λh=>?_,fun⟨i,hi,f⟩=>U i hi (by rw[aaN] at f;exact f)⟩);obtain⟨i,hi,f⟩:=T h;exact⟨i,hi,by rw[aaN];exact f⟩)
  rw[aaN,a.2,show (((p+m:Nat):Int) - (p:Int)+1)=(m:Int)+1 by nofun,show ((List.range (m+1)).map λi=>((n1,p+1*i):Sp2))=(List.range (m+1)).map λi=>((n1,p+i):Sp2) from aay λi _=>by rw[aaN]] at O;exact O
inductive cR:Ct
 |mk {ns:List Str} {t s:Str} {p:Nat} {P:Pk} (hs:bZ s) (N:NamesOk ns 6 t p) (h:∀(rows:List Rw) (due:D) (a:Addr),MakeOk rows t (ns.headD "") p due->P (vy a rows due) (fB ns t p++[.fz (av "signs" [s])])):cR (fB ns t p++[.fz (av "signs" [s])]) P
abbrev Ba:Stmt:=top 65
abbrev Ke:FS:=
  (al (b7 4 (jL (cI (fOp aIx (ab 0) (fC (.int 0))) (c6 (aa (fC (.str "again")) (aa (fOp aIx (ab 0) (fC (.int 1))) ae))) (cI (fOp aIx (ab 0) (fC (.int 1))) (c6 (aa (fC (.str "row")) (aa (fOp aIx (ab 0) (fC (.int 2))) (aa (fOp aIx (ab 0) (fC (.int 3))) ae)))) (cI (fOp aIx (ab 0) (fC (.int 2))) (c6 (aa (fC (.str "not")) (aa (fOp aIx (ab 0) (fC (.int 4))) ae))) qJ)))))
  (al (gT 4 (c6 (aa (fC (.str "any")) ae)) (fOp aIx (ab 0) (fC (.int 3))))
  (al (gT 4 (ab 3) (fOp aIx (ab 0) (fC (.int 4))))
  (al (bO (fC (.int 0)) (ac 5))
  (al (fT (v7 (au (fOp (gU (λi j=>decide (i<j)) aU) (fOp b6 (ab 2) (ab 5)) (fCB et (aa (ab 1) ae)))) (au (fOp jF (fOp aIx (ab 1) (fOp b6 (ab 2) (ab 5))) (fOp aIx (ab 3) (fC (.int 1))))))
   (bO (fOp b6 (ab 5) (fC (.int 1))) (ac 5)))
  (al (bO (bw [0,2] 1 (cW (aa (fOp b6 (ab 5) (fC (.int 1))) ae)) (ac 0) jC (c6 (aa (fOp aIx (ab 1) (fC (.int 1))) (aa (fOp b6 (ab 3) (ab 0)) ae)))) (ac 6))
  (al (b7 7 (hV (aa (fOp aIx (ab 0) (fC (.int 0))) (aa (fOp aIx (ab 0) (fC (.int 1))) (aa (fOp aIx (ab 0) (fC (.int 2))) (aa (fOp aIx (ab 0) (fC (.int 4))) ae))))))
  (al (fIf (fOr (au (fOp (gU (λi j=>decide (j<i)) λi j=>aU j i) (ab 5) (fC (.int 0)))) (au (fOp aEq (ab 2) (fCB et (aa (ab 1) ae)))))
   (bN (v9 7 (fOp aIx (ab 0) (fC (.int 3)))))
   aP)
  (bh (lP (aa (ab 4) (aa (c6 (aa (ab 5) (aa (fOp b6 (ab 5) (fC (.int 1))) (aa (ab 6) (aa (fCB cF (aa (ab 7) ae)) ae))))) ae))))))))))))
theorem Kf:Hh cR Ke [] 8:=by
 intro os P h;obtain@⟨ns,t,s,p,_,hs,N,q⟩:=h;have sz:=bG;have Q:=N.tl;have S:=N.p;have T:=ao t
 obtain⟨n0,n1,n2,n3,n4,n5,rfl⟩:∃n0 n1 n2 n3 n4 n5,ns=[n0,n1,n2,n3,n4,n5]:=by
  match ns,N.len with
  |[a,b,c,d,e,f],_=>exact ⟨a,b,c,d,e,f,rfl⟩
 have hd:=N.nd;simp only[List.nodup_cons,List.mem_cons,List.not_mem_nil,or_false,not_or,List.nodup_nil,and_true,not_false_eq_true] at hd;obtain⟨⟨O,L,K,J,_⟩,⟨I,H,G,_⟩,⟨F,E,_⟩,⟨D,_⟩,_⟩:=hd;have u:([n0,n1,n2]:List Str).Nodup:=by simp[O,L,I]
 have g:=cQ (more:=[(n0, "again", [n1]),(n1, "row", [n2,n3]),(n2, "not", [n4])]) u;have o:=b5 (rows:=[(n0, "again", [n1]),(n1, "row", [n2,n3]),(n2, "not", [n4])]) (y:=n3) (w := "any") (rest:=[]) (by simp[Ne.symm K,Ne.symm H,Ne.symm F]);have n:=b5 (rows:=[(n0, "again", [n1]),(n1, "row", [n2,n3]),(n2, "not", [n4]),(n3, "any", [])]) (y:=n4) (w := "signs") (rest:=[s]) (by simp[Ne.symm J,Ne.symm G,Ne.symm E,Ne.symm D]);ext;refine⟨lez 2,?_⟩;ext;refine⟨lez 3,?_⟩;ext;refine⟨lez 2,?_⟩;ext;refine⟨(by decide:(3:Nat)<=15),?_⟩
 erw [show cY ([],[]) _=_ from g]
 ext;refine⟨lez 1,?_⟩;ext;refine⟨rfl,?_⟩;ext;refine⟨by show 3<sizeLine;nofun,?_⟩
 erw [← o]
 ext;refine⟨rfl,?_⟩;ext;refine⟨by show 4<sizeLine;nofun,?_⟩
 erw [← n]
 clear o n g;generalize z:([(n0, "again", [n1]),(n1, "row", [n2,n3]),(n2, "not", [n4]),(n3, "any", [])]:List Rw)++[(n4,("signs" : Str),[s])]=rows;ext;refine cG (λj ρ=>∃m:Nat,j=t.length - (p+m)/\p+m<=t.length/\(∀i,i<m->∃c,t.cps.toList[p+i]?=some c/\c∉s.cps.toList)/\ρ=[some (.fz (.lst ([n0,n1,n2,n3,n4,n5].map .str))),some (.fz (.str t)),some (.fz (.int p)),some (.fz (av "signs" [s])),some (bS rows),some (.fz (.int m)),none,none]) (t.length - p) ⟨0,rfl,S,(λi hi=>absurd hi (abr _)),rfl⟩ ?_;rintro j ρ X ⟨m,W,l,hr,rfl⟩ v;have C:¬(p:Int)+m<t.length->p+m=t.length:=λh=>by nofun
 ext;refine⟨by nofun,?_⟩;ext;refine am ((p:Int)+m<t.length) decide_eq_true_iff (λh1=>?_) (λh1=>?_)
 rotate_left
 focus
  have M:=vz N hs l hr (.inl (C h1));ext;refine dI ?_;ext
 rotate_left
 focus
  have A:p+m<t.cps.toList.length:=by nofun
  obtain⟨c,B⟩:∃c,t.cps.toList[p+m]?=some c:=⟨_,List.getElem?_eq_getElem A⟩;have V:atI t.cps.toList ((p:Int)+(m:Int))=some c:=bf (j:=p+m) B;ext;refine⟨by nofun,?_⟩;rw[V];ext;refine am (c∉s.cps.toList) (by rw[aaT,decide_eq_false_iff_not]) (λg=>?_) (λg=>?_)
 focus
  ext;refine v (t.length - (p+(m+1))) _ (by nofun) ⟨m+1,rfl,by nofun,λi hi=>?_,rfl⟩;by_cases e:i=m
  ·rw[e];exact⟨c,B,g⟩
  ·exact hr i (by nofun)
 focus
  have M:=vz N hs l hr (.inr ⟨c,B,Classical.not_not.mp g⟩);ext
 all_goals
  refine⟨⟨by nofun,by nofun⟩,?_⟩;ext;refine aA (λi as ρ=>∃x:Option OV,as=((List.range i).map λk=>((n1,p+k):Sp2)).map bt/\ρ=[x,some (.fz (.lst ([n0,n1,n2,n3,n4,n5].map .str))),some (.fz (.str t)),some (.fz (.int p)),some (.fz (av "signs" [s])),some (bS rows),some (.fz (.int m)),none,none]) ⟨none,rfl,rfl⟩ ?_ ?_
  ·rintro i d as ρ R hd ⟨x,rfl,rfl⟩ v;obtain⟨hi,rfl⟩:=aQ hd;ext;refine c9 ?_;ext;refine⟨lez 2,?_⟩;ext;refine⟨by rw[abD,abD,abT];nofun,v _ _ ⟨_,?_,rfl⟩⟩;rw[aba,aad,aad,aa3];rfl
  rintro as ρ ⟨x,rfl,rfl⟩;rw[a9,show ((m:Int)+1).toNat=m+1 by nofun];ext;refine⟨lez 4,?_⟩;ext;refine eO (λρ=>ρ=[some (.fz (.lst ([n0,n1,n2,n3,n4,n5].map .str))),some (.fz (.str t)),some (.fz (.int p)),some (.fz (av "signs" [s])),some (bS rows),some (.fz (.int m)),some (.fz (.lst (((List.range (m+1)).map λk=>((n1,p+k):Sp2)).map bt))),some (.fl ((upL n0 n1 n2 n3 n4 (0<m∨p=t.length)).map .str))]) ?_ ?_
  ·rintro ρ rfl;ext;refine cH (zs:=upL n0 n1 n2 n3 n4 (0<m∨p=t.length)) (by unfold upL;split;show 5<64;decide;show 4<64;decide) ?_;ext;refine⟨lez 4,?_⟩;ext;intro as;ext;refine⟨lez 2,?_⟩;ext;subst z;exact q _ _ (as 0) M
  ·intro rest;have app:(0<m∨p=t.length)->(upL n0 n1 n2 n3 n4 (0<m∨p=t.length))=[n0,n1,n2,n4]++[n3]:=λh=>by unfold upL;rw[if_pos h]
   have r:¬(0<m∨p=t.length)->(upL n0 n1 n2 n3 n4 (0<m∨p=t.length))=[n0,n1,n2,n4]:=λh=>by unfold upL;rw[if_neg h,aam]
   ext;refine am ((0:Int)<m) decide_eq_true_iff (λU=>?_) (λU=>?_)
   ·ext;refine c9 ?_;ext;refine⟨rfl,?_⟩;ext;refine⟨by show 4<sizeLine;nofun,?_⟩;refine rest _ ?_;rw[app (.inl (by nofun))];rfl
   ·ext;refine⟨by nofun,?_⟩;ext;refine⟨aq,?_⟩;ext;refine am ((p:Int)=t.length) aL (λh2=>?_) (λh2=>?_)
    ·ext;refine⟨rfl,?_⟩;ext;refine⟨by show 4<sizeLine;nofun,?_⟩;refine rest _ ?_;rw[app (.inr (by nofun))];rfl
    ·refine rest _ ?_;rw[r (by nofun)];rfl
abbrev prG(n2 n3 s u t:Str):Nat->Option Nat×Nat×List Str:=jo n2 n3 (λb=>(eA (.signs s) t b,b,[])) λb=>(eA (.signs u) t b,b,[])
def atS(t s:Str)(k:Nat):Prop:=∃c,t.cps.toList[k]?=some c/\c∈s.cps.toList
theorem kM(h:atS t s k):eA (.signs s) t k=some 1:=by
 obtain⟨c,h1,h2⟩:=h;rw[eV h1,if_pos h2]
theorem vA(h:¬atS t s k):eA (.signs s) t k=none:=by
 cases e:t.cps.toList[k]? with
 |none=>exact gj (by have:=ao t;have:=List.getElem?_eq_none_iff.mp e;nofun)
 |some c=>rw[eV e,if_neg λz=>h ⟨c,e,z⟩]
theorem Fu(h1:atS t s k)(h2:atS t u (k+1)):prG n2 n3 s u t k=(some 2,k+1,[n2,n3]):=by
 simp only[prG,jo,kM h1,kM h2];simp
theorem Fv(h1:atS t s k)(h2:¬atS t u (k+1)):prG n2 n3 s u t k=(none,k+1,[n2,n3]):=by
 simp only[prG,jo,kM h1,vA h2];simp
theorem Kg(h1:¬atS t s k):prG n2 n3 s u t k=(none,k,[n2]):=by
 simp only[prG,jo,vA h1];simp
abbrev prR(n0 n1 n2 n3 s u:Str):List Rw:=[(n0, "again", [n1]),(n1, "row", [n2,n3]),(n2, "signs", [s]),(n3, "signs", [u])]
abbrev prL(n0 n1 n2 n3:Str)(b:Prop)[Decidable b]:List Str:=[n0,n1,n2]++if b then [n3] else []
theorem zM{p:Nat}(N:NamesOk [n0,n1,n2,n3,n4,n5] 6 t p)(hs:bZ s)(H:bZ u)(J:p+2*m<=t.length)(hr:∀i,i<m->atS t s (p+2*i)/\atS t u (p+2*i+1))(P:¬(atS t s (p+2*m)/\atS t u (p+2*m+1)))(M:(atS t s (p+2*m)/\far=p+2*m+1)∨(¬atS t s (p+2*m)/\far=p+2*m)) :
  MakeOk (prR n0 n1 n2 n3 s u) t n0 p (cq (some (2*m)) ((far:Int) - (p:Int)+1) ((List.range (m+1)).map λi=>((n1,p+2*i):Sp2)) (bC (prL n0 n1 n2 n3 (p<far)))):=by
 have hd:=N.nd;simp only[List.nodup_cons,List.mem_cons,List.not_mem_nil,or_false,not_or,List.nodup_nil,and_true,not_false_eq_true] at hd;obtain⟨⟨c,g,q,_⟩,⟨f,o,_⟩,⟨w,_⟩,_⟩:=hd;have nd:((prR n0 n1 n2 n3 s u).map (·.1)).Nodup:=by simp[c,g,q,f,o,w]
 have I:=N.tl;refine⟨nd,by show 4<=30;decide,cL (pool:=[n1,n2,n3]) (rank:=λx=>if x=n0 then 2 else if x=n1 then 1 else 0) ⟨nd,λr hr=>?_,by show 4<=30;decide,λz j=>N.nm z (by simp only[List.mem_cons,List.not_mem_nil,or_false] at j ⊢;rcases j with h|h|h <;> simp[h]),by show 3<=45;decide,λr hr x y=>?_⟩,?_⟩
 ·simp only[List.mem_cons,List.not_mem_nil,or_false] at hr;rcases hr with rfl|rfl|rfl|rfl
  ·exact⟨N.nm n0 (by simp),.inr (.inr (.inl ⟨.inl rfl,rfl,λz j=>by rw[List.mem_singleton.mp j];simp⟩))⟩
  ·exact⟨N.nm n1 (by simp),.inr (.inr (.inr ⟨.inl rfl,(by decide:(1:Nat)<=2),(by decide:(2:Nat)<=8),λz j=>by simp only[List.mem_cons,List.not_mem_nil,or_false] at j ⊢;rcases j with h|h <;> simp[h]⟩))⟩
  ·exact⟨N.nm n2 (by simp),.inr (.inl ⟨rfl,s,rfl,hs⟩)⟩
  ·exact⟨N.nm n3 (by simp),.inr (.inl ⟨rfl,u,rfl,H⟩)⟩
 ·simp only[List.mem_cons,List.not_mem_nil,or_false] at hr;rcases hr with rfl|rfl|rfl|rfl
  ·rw[abF.mp (show x∈[n1] from y)];simp[Ne.symm c]
  ·have B:x=n2∨x=n3:=by simpa using (show x∈[n2,n3] from y)
   rcases B with rfl|rfl
   ·simp[Ne.symm c,Ne.symm g,Ne.symm f]
   ·simp[Ne.symm c,Ne.symm q,Ne.symm o]
  ·exact nomatch (show x∈[] from y)
  ·exact nomatch (show x∈[] from y)
 ·have F:=cw nd (r:=(n0, "again", [n1])) (by simp);have E:=cw nd (r:=(n1, "row", [n2,n3])) (by simp);have D:=cw nd (r:=(n2, "signs", [s])) (by simp);have C:=cw nd (r:=(n3, "signs", [u])) (by simp);generalize jn (a7 (prR n0 n1 n2 n3 s u))=R at *;have Q:PtG R t 1 (λb=>(eA (.signs s) t b,b,[])) n2:=dQ D;have P3:PtG R t 1 (λb=>(eA (.signs u) t b,b,[])) n3:=dQ C;have S:PtG R t 4 (prG n2 n3 s u t) n1:=vt E Q P3 (λk l h L=>uD L h);have d:∀i,i<m->prG n2 n3 s u t (p+2*i)=(some 2,p+2*i+1,[n2,n3]):=λi hi=>Fu (hr i hi).1 (hr i hi).2
  have a:prG n2 n3 s u t (p+2*m)=(none,far,if far=p+2*m then [n2] else [n2,n3]):=by
   rcases M with ⟨h1,h2⟩|⟨h1,h2⟩
   ·rw[Fv h1 λz=>P ⟨h1,z⟩,if_neg (by nofun),h2]
   ·rw[Kg h1,if_pos h2,h2]
  have K:p+2*m<=far:=by nofun
  have G:=gi (s:=2) (m:=m) (p:=p) (zs:=prL n0 n1 n2 n3 (p<far)) F S (by decide) (by decide) (by nofun) (λi hi=>by rw[d i hi]) (.inl (by rw[a])) (by nofun) (by rw[a];show p<=far;nofun) (λi hi=>by rw[d i hi,a];show p+2*i+1<=far;nofun) (by
   unfold prL;split
   ·simp[c,g,q,f,o,w]
   ·simp[c,g,f]) (λv=>by
   have O:v∈prL n0 n1 n2 n3 (p<far)↔v=n0∨v=n1∨(v=n2∨(p<far/\v=n3)):=by
    unfold prL;by_cases h:p<far
    ·rw[if_pos h];simp[h]
    ·rw[if_neg h];simp[h]
   rw[O];refine or_congr Iff.rfl (or_congr Iff.rfl ⟨λh=>?_,fun⟨i,hi,A⟩=>?_⟩)
   ·rcases h with h|⟨T,h⟩
    ·refine⟨m,aac _,?_⟩;rw[a];show v∈(if far=p+2*m then [n2] else [n2,n3]);split <;> simp[h]
    ·by_cases e:0<m
     ·exact⟨0,aan _,by rw[d 0 e];simp[h]⟩
     ·refine⟨m,aac _,?_⟩;rw[a];show v∈(if far=p+2*m then [n2] else [n2,n3]);rw[if_neg (by nofun)];simp[h]
   ·by_cases e:i=m
    ·rw[e,a] at A;have n:v∈(if far=p+2*m then [n2] else [n2,n3]):=A;split at n
     ·exact .inl (abF.mp n)
     ·have:v=n2∨v=n3:=(by exists n);exact this.imp_right λh=>⟨by nofun,h⟩
    ·rw[d i (by nofun)] at A;have:v=n2∨v=n3:=(by exists A);exact this.imp_right λh=>⟨by nofun,h⟩)
  rw[a] at G;exact G
inductive cS:Ct
 |mk {ns:List Str} {t s u:Str} {p:Nat} {P:Pk} (hs:bZ s) (hu:bZ u) (N:NamesOk ns 6 t p) (h:∀(rows:List Rw) (due:D) (a:Addr),MakeOk rows t (ns.headD "") p due->P (vy a rows due) (fB ns t p++[.fz (av "signs" [s]),.fz (av "signs" [u])])):cS (fB ns t p++[.fz (av "signs" [s]),.fz (av "signs" [u])]) P
abbrev vB:Stmt:=top 64
abbrev Fx:FS:=
  (al (b7 5 (jL (cI (fOp aIx (ab 0) (fC (.int 0))) (c6 (aa (fC (.str "again")) (aa (fOp aIx (ab 0) (fC (.int 1))) ae))) (cI (fOp aIx (ab 0) (fC (.int 1))) (c6 (aa (fC (.str "row")) (aa (fOp aIx (ab 0) (fC (.int 2))) (aa (fOp aIx (ab 0) (fC (.int 3))) ae)))) (cI (fOp aIx (ab 0) (fC (.int 2))) (ab 3) (cI (fOp aIx (ab 0) (fC (.int 3))) (ab 4) qJ))))))
  (al (bO (ab 2) (ac 6))
  (al (b7 7 (hV (aa (c6 (aa (fOp aIx (ab 0) (fC (.int 1))) (aa (ab 2) ae))) ae)))
  (al (fT (v7 (au (fOp (gU (λi j=>decide (i<j)) aU) (fOp b6 (ab 6) (fC (.int 1))) (fCB et (aa (ab 1) ae)))) (v7 (au (fOp aIn (fOp aIx (ab 1) (ab 6)) (fOp aIx (ab 3) (fC (.int 1))))) (au (fOp aIn (fOp aIx (ab 1) (fOp b6 (ab 6) (fC (.int 1)))) (fOp aIx (ab 4) (fC (.int 1)))))))
   (al (bO (fOp b6 (ab 6) (fC (.int 2))) (ac 6))
  (bN (v9 7 (c6 (aa (fOp aIx (ab 0) (fC (.int 1))) (aa (ab 6) ae)))))))
  (al (bO (ab 6) (ac 8))
  (al (fIf (v7 (au (fOp (gU (λi j=>decide (i<j)) aU) (ab 6) (fCB et (aa (ab 1) ae)))) (au (fOp aIn (fOp aIx (ab 1) (ab 6)) (fOp aIx (ab 3) (fC (.int 1))))))
   (bO (fOp b6 (ab 6) (fC (.int 1))) (ac 8))
   aP)
  (al (b7 9 (hV (aa (fOp aIx (ab 0) (fC (.int 0))) (aa (fOp aIx (ab 0) (fC (.int 1))) (aa (fOp aIx (ab 0) (fC (.int 2))) ae)))))
  (al (fIf (au (fOp (gU (λi j=>decide (j<i)) λi j=>aU j i) (ab 8) (ab 2)))
   (bN (v9 9 (fOp aIx (ab 0) (fC (.int 3)))))
   aP)
  (bh (lP (aa (ab 5) (aa (c6 (aa (fOp (aI0 λi j=>.int (i - j)) (ab 6) (ab 2)) (aa (fOp b6 (fOp (aI0 λi j=>.int (i - j)) (ab 8) (ab 2)) (fC (.int 1))) (aa (ab 7) (aa (fCB cF (aa (ab 9) ae)) ae))))) ae))))))))))))
theorem Fy:Hh cS Fx [] 10:=by
 intro os P h;obtain@⟨ns,t,s,u,p,_,hs,I,N,q⟩:=h;have sz:=bG;have J:=N.tl;have K:=N.p;have L:=ao t
 obtain⟨n0,n1,n2,n3,n4,n5,rfl⟩:∃n0 n1 n2 n3 n4 n5,ns=[n0,n1,n2,n3,n4,n5]:=by
  match ns,N.len with
  |[a,b,c,d,e,f],_=>exact ⟨a,b,c,d,e,f,rfl⟩
 have hd:=N.nd;simp only[List.nodup_cons,List.mem_cons,List.not_mem_nil,or_false,not_or,List.nodup_nil,and_true,not_false_eq_true] at hd;obtain⟨⟨F,E,D,_⟩,⟨C,B,_⟩,⟨A,_⟩,_⟩:=hd;have l:=cQ (more:=prR n0 n1 n2 n3 s u) (by simp[F,E,D,C,B,A]);ext;refine⟨lez 2,?_⟩;ext;refine⟨lez 3,?_⟩;ext;refine⟨(by decide:(4:Nat)<=15),?_⟩
 erw [show cY ([],[]) _=_ from l]
 clear l;ext;refine⟨lez 2,?_⟩;ext;refine⟨lez 1,?_⟩;ext;refine cG (λj ρ=>∃m:Nat,j=t.length - (p+2*m)/\p+2*m<=t.length/\(∀i,i<m->atS t s (p+2*i)/\atS t u (p+2*i+1))/\ρ=[some (.fz (.lst ([n0,n1,n2,n3,n4,n5].map .str))),some (.fz (.str t)),some (.fz (.int p)),some (.fz (av "signs" [s])),some (.fz (av "signs" [u])),some (bS (prR n0 n1 n2 n3 s u)),some (.fz (.int ((p+2*m:Nat):Int))),some (.fl (((List.range (m+1)).map λk=>((n1,p+2*k):Sp2)).map bt)),none,none]) (t.length - p) ⟨0,rfl,K,(λi hi=>absurd hi (abr _)),rfl⟩ ?_;rintro j ρ U ⟨m,T,v,hr,rfl⟩ H;have g:∀{k c:Nat} {w:Str},t.cps.toList[k]?=some c->(atS t w k↔c∈w.cps.toList):=fun {k c w} h=>⟨fun⟨d,h1,h2⟩=>by rw[h] at h1;cases h1;exact h2,λh2=>⟨c,h,h2⟩⟩;have o:∀{k:Nat} {w:Str},t.length<=k->¬atS t w k:=fun {k w} h ⟨d,h1,_⟩=>by have:=(List.getElem?_eq_some_iff.mp h1).1;nofun
 ext;refine⟨by nofun,?_⟩;ext;refine am (((p+2*m:Nat):Int)+1<t.length) decide_eq_true_iff (λh1=>?_) (λh1=>?_)
 rotate_left
 focus
  have y:¬(atS t s (p+2*m)/\atS t u (p+2*m+1)):=λz=>o (by nofun) z.2;ext;refine dI ?_;ext
 rotate_left
 focus
  obtain⟨c,r⟩:∃c,t.cps.toList[p+2*m]?=some c:=⟨_,List.getElem?_eq_getElem (by nofun)⟩;obtain⟨d,hd⟩:∃d,t.cps.toList[p+2*m+1]?=some d:=⟨_,List.getElem?_eq_getElem (by nofun)⟩;have G:atI t.cps.toList ((p+2*m:Nat):Int)=some c:=bf r;have R:atI t.cps.toList (((p+2*m:Nat):Int)+1)=some d:=bf (j:=p+2*m+1) hd;ext;refine⟨by nofun,?_⟩;rw[G];ext;refine am (c∈s.cps.toList) decide_eq_true_iff (λl=>?_) (λl=>?_)
 focus
  ext;refine⟨by nofun,?_⟩;rw[R];ext;refine am (d∈u.cps.toList) decide_eq_true_iff (λx=>?_) (λx=>?_)
 focus
  ext;refine⟨rfl,?_⟩;ext;refine⟨lez 2,?_⟩;ext;refine⟨by rw[abD,abD,abT];nofun,?_⟩;refine H (t.length - (p+2*(m+1))) _ (by nofun) ⟨m+1,rfl,by nofun,λi hi=>?_,?_⟩
  ·by_cases e:i=m
   ·rw[e];exact⟨(g r).mpr l,(g hd).mpr x⟩
   ·exact hr i (by nofun)
  ·rw[aba (n:=m+1),aad,aad];rfl
 focus
  have y:¬(atS t s (p+2*m)/\atS t u (p+2*m+1)):=λz=>x ((g hd).mp z.2);ext
 rotate_left
 focus
  have y:¬(atS t s (p+2*m)/\atS t u (p+2*m+1)):=λz=>l ((g r).mp z.1);ext;refine dI ?_;ext
 all_goals
  refine eO (λρ=>∃far:Nat,((atS t s (p+2*m)/\far=p+2*m+1)∨(¬atS t s (p+2*m)/\far=p+2*m))/\ρ=[some (.fz (.lst ([n0,n1,n2,n3,n4,n5].map .str))),some (.fz (.str t)),some (.fz (.int p)),some (.fz (av "signs" [s])),some (.fz (av "signs" [u])),some (bS (prR n0 n1 n2 n3 s u)),some (.fz (.int ((p+2*m:Nat):Int))),some (.fl (((List.range (m+1)).map λk=>((n1,p+2*k):Sp2)).map bt)),some (.fz (.int far)),none]) ?_ ?_
  ·rintro ρ ⟨far,O,rfl⟩;have M:=zM N hs I v hr y O;have S:((p+2*m:Nat):Int) - (p:Int)=((2*m:Nat):Int):=by nofun
   ext;refine⟨lez 3,?_⟩;ext;refine eO (λρ=>ρ=[some (.fz (.lst ([n0,n1,n2,n3,n4,n5].map .str))),some (.fz (.str t)),some (.fz (.int p)),some (.fz (av "signs" [s])),some (.fz (av "signs" [u])),some (bS (prR n0 n1 n2 n3 s u)),some (.fz (.int ((p+2*m:Nat):Int))),some (.fl (((List.range (m+1)).map λk=>((n1,p+2*k):Sp2)).map bt)),some (.fz (.int far)),some (.fl ((prL n0 n1 n2 n3 (p<far)).map .str))]) ?_ ?_
   ·rintro ρ rfl;ext;refine cH (zs:=prL n0 n1 n2 n3 (p<far)) (by unfold prL;split;show 4<64;decide;show 3<64;decide) ?_;ext;refine⟨lez 4,?_⟩;ext;intro as;ext;refine⟨lez 2,?_⟩;ext;rw[show cq (some (2*m)) ((far:Int) - (p:Int)+1) ((List.range (m+1)).map λi=>((n1,p+2*i):Sp2)) (bC (prL n0 n1 n2 n3 (p<far)))=.tup [.int (((p+2*m:Nat):Int) - (p:Int)),.int ((far:Int) - (p:Int)+1),.lst (((List.range (m+1)).map λi=>((n1,p+2*i):Sp2)).map bt),.lst ((bC (prL n0 n1 n2 n3 (p<far))).map .str)] by rw[S];rfl] at M;exact q _ _ (as 0) M
   ·intro rest;ext;refine am ((p:Int)<far) decide_eq_true_iff (λQ=>?_) (λQ=>?_)
    ·ext;refine⟨rfl,?_⟩;ext;refine⟨by show 3<sizeLine;nofun,?_⟩;refine rest _ ?_;unfold prL;rw[if_pos (by nofun)];rfl
    ·refine rest _ ?_;unfold prL;rw[if_neg (by nofun)];rfl
  ·intro rest;ext;refine⟨by nofun,?_⟩;ext;refine am (((p+2*m:Nat):Int)<t.length) decide_eq_true_iff (λh2=>?_) (λh2=>?_)
   ·obtain⟨c,r⟩:∃c,t.cps.toList[p+2*m]?=some c:=⟨_,List.getElem?_eq_getElem (by nofun)⟩;have G:atI t.cps.toList ((p+2*m:Nat):Int)=some c:=bf r;ext;refine⟨by nofun,?_⟩;rw[G];ext;refine am (c∈s.cps.toList) decide_eq_true_iff (λl=>?_) (λl=>?_)
    ·ext;exact rest _ ⟨p+2*m+1,.inl ⟨(g r).mpr l,rfl⟩,rfl⟩
    ·exact rest _ ⟨p+2*m,.inr ⟨λz=>l ((g r).mp z),rfl⟩,rfl⟩
   ·ext;refine dI ?_;exact rest _ ⟨p+2*m,.inr ⟨o (by nofun),rfl⟩,rfl⟩
def aT(s:Str):List Str->List Rw
 |[]=>[]
 |[x]=>[(x, "signs", [s])]
 |x::y::r=>(x, "row", [y])::aT s (y::r)
theorem bB{s:Str}:∀l:List Str,(aT s l).map (·.1)=l
 |[]=>rfl
 |[_]=>rfl
 |x::y::r=>by rw[aT,abG,bB (y::r)]
def kN:List Str->Str->Nat
 |[],_=>0
 |y::r,x=>if x=y then r.length+1 else kN r x
theorem gO{s:Str}:∀(l:List Str),l.Nodup->∀r∈aT s l,∀p∈b8 r.2.1 r.2.2,p∈l/\kN l p<kN l r.1
 |[],_,r,hr,_,_=>nomatch hr
 | [x],_,r,hr,p,b=>by
  rw[abF.mp hr] at b;exact nomatch (show p∈[] from b)
 | x::y::l,nd,r,hr,p,b=>by
  obtain⟨f,c⟩:=abL.mp nd;rw[aT] at hr;rcases abI.mp hr with rfl|a
  ·have i:p=y:=abF.mp (show p∈[y] from b);have d:y≠x:=λe=>f (by rw[← e];exact aab ..);rw[i];refine⟨by simp,?_⟩;show kN (x::y::l) y<kN (x::y::l) x;simp[kN,d]
  ·obtain⟨h1,h2⟩:=gO (y::l) c r a p b;have g:r.1∈y::l:=by rw[← bB (s:=s) (y::l)];exact abJ.mpr ⟨r,a,rfl⟩
   refine⟨aae _ h1,?_⟩;show (if p=x then _ else kN (y::l) p)<(if r.1=x then _ else kN (y::l) r.1);rw[if_neg (show ¬p=x from λe=>f (e ▸ h1)),if_neg (show ¬r.1=x from λe=>f (e ▸ g))];exact h2
theorem i7{s:Str}(hs:bZ s):∀(l:List Str) (ns:List Str),(∀x∈l,x∈ns)->∀r∈aT s l,uv ns r.2.1 r.2.2
 |[],_,_,r,hr=>nomatch hr
 |[x],_,_,r,hr=>by rw[abF.mp hr];exact .inr (.inl ⟨rfl,s,rfl,hs⟩)
 | x::y::l,ns,c,r,hr=>by
  rw[aT] at hr;rcases abI.mp hr with rfl|b
  ·exact .inr (.inr (.inr ⟨.inl rfl,(by decide:(1:Nat)<=1),(by decide:(1:Nat)<=8),λz a=>by rw[abF.mp a];exact c y (by simp)⟩))
  ·exact i7 hs (y::l) ns (λz a=>c z (aae _ a)) r b
theorem g0{R:Rls}{t s:Str}:∀(l:List Str) (x:Str),(∀r∈aT s (x::l),R r.1=rlR r.2.1 r.2.2)->PtG R t (2*l.length+1) (λb=>(eA (.signs s) t b,b,l)) x
 |[],x,h=>dQ (h (x, "signs", [s]) (aab ..))
 | y::l,x,h=>by
  have a:=g0 (t:=t) l y λr hr=>h r (by rw[aT];exact aae _ hr);intro b c;have h1:=(gE (y:=x) (h (x, "row", [y]) (by rw[aT];exact aab ..)) (a b c)).1;rw[show max b ((λb=>((eA (.signs s) t b,b,l):Rt)) b).2.1=b from Nat.max_self b] at h1;exact h1.mono (by rw[abM];nofun)
theorem zN{p:Nat}(N:NamesOk ns 30 t p)(hs:bZ s):MakeOk (aT s ns) t (ns.headD "") p (cq (eA (.signs s) t p) 1 [(ns.getD 1 "", p)] (bC ns)):=by
 have sz:=bG;have nd:((aT s ns).map (·.1)).Nodup:=by rw[bB];exact N.nd
 have d:(aT s ns).length=30:=by have:=congrArg List.length (bB (s:=s) ns);rwa [abD,N.len] at this
 refine⟨nd,by nofun,cL (pool:=ns) (rank:=kN ns) ⟨nd,λr hr=>⟨N.nm _ (by rw[← bB (s:=s) ns];exact abJ.mpr ⟨r,hr,rfl⟩),i7 hs ns ns (λ_ h=>h) r hr⟩,by nofun,N.nm,by rw[N.len];decide,λr hr x a=>(gO ns N.nd r hr x a).2⟩,?_⟩
 obtain⟨x,y,l,rfl⟩:∃x y l,ns=x::y::l:=by
  match ns,N.len with
  |x::y::l,_=>exact ⟨x,y,l,rfl⟩
 have c:l.length=28:=by have:=N.len;simp only[List.length_cons] at this;nofun
 have b:∀r∈aT s (x::y::l),jn (a7 (aT s (x::y::l))) r.1=rlR r.2.1 r.2.2:=λr hr=>cw nd hr;generalize jn (a7 (aT s (x::y::l)))=R at *;have a:=b (x, "row", [y]) (by rw[aT];exact aab ..);obtain⟨P,A⟩:=gE (y:=x) a (g0 (t:=t) l y (λr hr=>b r (by rw[aT];exact aae _ hr)) p N.p);have D:=pp (zs:=x::y::l) (by nofun) P A (by simp) (by show 1<=1000;decide) N.nd λv=>by simp
 rwa [show ((((eA (.signs s) t p,max p p,y::l):Rt).2.1:Int) - (p:Int)+1)=1 by show ((max p p:Nat):Int) - p+1=1;nofun] at D
abbrev rwT(y w:Str)(ps:List Str):Rw:=(y,w,ps)
theorem mr{s:Str}:∀(l:List Str) (i:Nat) (a b:Str),l[i]?=some a->l[i+1]?=some b->(aT s l)[i]?=some (rwT a "row" [b])
 |x::y::l,0,a,b,h1,h2=>by cases h1;cases h2;rfl
 |x::y::l,i+1,a,b,h1,h2=>mr (y::l) i a b h1 h2
 |[],i,a,b,h1,_=>by cases h1
 |[x],i,a,b,_,h2=>by cases i <;> cases h2
theorem i8{s:Str}:∀(l:List Str) (z:Str),(aT s (l++[z]))[l.length]?=some (rwT z "signs" [s])
 |[],z=>rfl
 |[x],z=>rfl
 |x::y::l,z=>i8 (y::l) z
theorem i9 :((aT s ns).take i).map (·.1)=ns.take i:=by rw[List.map_take,bB]
theorem Fz{p:Nat}(f:p<=t.length)(b:u.cps.toList=t.cps.toList.take (p+1)):p<=u.length/\u.length<=p+1/\ib (eA (.signs s) t p)=if fj u s p=1 then .int 1 else .non:=by
 have h1:=ao t;have h2:=ao u;rw[b,aah] at h2;refine⟨by nofun,by nofun,?_⟩
 cases e:t.cps.toList[p]? with
 | none=>
  have:=List.getElem?_eq_none_iff.mp e;rw[gj (by nofun),ge (by nofun)];rfl
 | some c=>
  have d:u.cps.toList[p]?=some c:=by rw[b,List.getElem?_take_of_lt (aaz p)];exact e
  rw[eV e,kJ d,ge (t:=u) (s:=s) (p:=p+1) (by nofun)];by_cases a:c∈s.cps.toList
  ·rw[if_pos a,if_pos a];rfl
  ·rw[if_neg a,if_neg a];rfl
inductive cT:Ct
 |mk {ns:List Str} {t s:Str} {p:Nat} {P:Pk} (hs:bZ s) (N:NamesOk ns 30 t p) (h:∀(rows:List Rw) (due:D) (a:Addr),MakeOk rows t (ns.headD "") p due->P (vy a rows due) (fB ns t p++[.fz (av "signs" [s])])):cT (fB ns t p++[.fz (av "signs" [s])]) P
abbrev vC:Stmt:=top 66
abbrev FB:FS:=
  (al (b7 4 xv)
  (al (qq (cW (aa (fOp (aI0 λi j=>.int (i - j)) (fCB et (aa (ab 0) ae)) (fC (.int 1))) ae)) (ac 5)
   (gT 4 (c6 (aa (fC (.str "row")) (aa (fOp aIx (ab 0) (fOp b6 (ab 5) (fC (.int 1)))) ae))) (fOp aIx (ab 0) (ab 5))))
  (al (gT 4 (ab 3) (fOp aIx (ab 0) (K9 (fC (.int 1)))))
  (al (bO (fC .non) (ac 6))
  (al (fIf (au (fOp aEq (ah cO (aa (fFz (fSl aSl (ab 1) bM (dJ (fOp b6 (ab 2) (fC (.int 1)))))) (aa (fFz (ab 2)) (aa (fFz (fOp aIx (ab 3) (fC (.int 1)))) ae)))) (fC (.int 1))))
   (bO (fC (.int 1)) (ac 6))
   aP)
  (bh (lP (aa (ab 4) (aa (c6 (aa (ab 6) (aa (fC (.int 1)) (aa (hV (aa (c6 (aa (fOp aIx (ab 0) (fC (.int 1))) (aa (ab 2) ae))) ae)) (aa (fCB cF (aa (ab 0) ae)) ae))))) ae)))))))))
theorem FC:Hh cT FB [] 7:=by
 intro os P h;obtain@⟨ns,t,s,p,_,hs,N,q⟩:=h;have sz:=bG;have E:=N.tl;have F:=N.p;have m:=N.len;have M:=zN N hs;ext;rw[abD];refine⟨⟨by nofun,by nofun⟩,?_⟩;ext;refine bL (λi ρ=>∃(g:Option OV),ρ=[some (.fz (.lst (ns.map .str))),some (.fz (.str t)),some (.fz (.int p)),some (.fz (av "signs" [s])),some (bS ((aT s ns).take i)),g,none]) ⟨none,rfl⟩ ?_ ?_
 ·rintro i d ρ R hd ⟨g,rfl⟩ C;obtain⟨hi,rfl⟩:=aQ hd;have r:i+1<ns.length:=by nofun
  obtain⟨a,u⟩:∃a,ns[i]?=some a:=⟨_,List.getElem?_eq_getElem (by nofun)⟩;obtain⟨b,v⟩:∃b,ns[i+1]?=some b:=⟨_,List.getElem?_eq_getElem r⟩;have K:atI (ns.map D.str) (0+(i:Int))=some (.str a):=by rw[aa3];exact bf (by rw[List.getElem?_map,u];rfl)
  have J:atI (ns.map D.str) (0+(i:Int)+1)=some (.str b):=by rw[aa3];exact bf (j:=i+1) (by rw[List.getElem?_map,v];rfl)
  have c:=mr (s:=s) ns i a b u v
  have f:a∉((aT s ns).take i).map (·.1):=by
   rw[i9];intro h;obtain⟨j,G,e⟩:=List.mem_iff_getElem.mp h;rw[aah] at G;rw[List.getElem_take] at e;have:=(List.getElem?_eq_some_iff.mp u).2;exact abZ.mp N.nd j i (by nofun) (by nofun) (by nofun) (e.trans this.symm)
  ext;rw[J];ext;refine⟨lez 2,?_⟩;ext;refine⟨rfl,?_⟩;ext;rw[K];ext;refine⟨by rw[abD,abD,aah];nofun,?_⟩;refine C _ ⟨some (.fz (.int (0+(i:Int)))),?_⟩;rw[aap,c];show _=[_,_,_,_,some (bS ((aT s ns).take i++[rwT a "row" [b]])),_,_];rw[b5 f];rfl
 ·rintro ρ ⟨g,rfl⟩;rw[a9,show ((ns.length:Int) - 1).toNat=29 by nofun];obtain⟨l,z,rfl⟩:∃l z,ns=l++[z]:=⟨ns.dropLast,ns.getLast (λe=>by rw[e] at m;cases m),(List.dropLast_concat_getLast _).symm⟩;have k:l.length=29:=by rw[abH] at m;exact Nat.succ.inj m
  have I:atI ((l++[z]).map D.str) (-1)=some (.str z):=by rw[aad];exact jV _ _
  have c:=i8 (s:=s) l z;rw[k] at c
  have f:z∉((aT s (l++[z])).take 29).map (·.1):=by
   rw[i9,← k,List.take_left];intro h;exact(abP.mp N.nd).2.2 z h z (by simp) rfl
  have o:(aT s (l++[z])).take 29++[rwT z "signs" [s]]=aT s (l++[z]):=by
   have H:(aT s (l++[z])).length=30:=by have:=congrArg List.length (bB (s:=s) (l++[z]));rwa [abD,m] at this
   have:=aap (l:=aT s (l++[z])) (i:=29);rw[c,aai (by nofun)] at this;exact this.symm
  have x:=b5 (w := "signs") (rest:=[s]) f;rw[show ((aT s (l++[z])).take 29++[rwT z "signs" [s]])=aT s (l++[z]) from o] at x;ext;refine⟨rfl,?_⟩;ext;rw[I];ext;refine⟨by rw[abD,abD,aah];nofun,?_⟩;rw[← x];ext;have n:=(iO t none (some ((p+1:Nat):Int))).trans (dG t.cps.toList (p+1));obtain⟨B,A,y⟩:=Fz (s:=s) F n
  have L:atI ((l++[z]).map D.str) 1=some (.str ((l++[z]).getD 1 "")):=bf (j:=1) (by
   rw[List.getElem?_map,List.getD_eq_getElem?_getD,List.getElem?_eq_getElem (show 1<(l++[z]).length by nofun)];rfl)
  refine eO (λρ=>ρ=[some (.fz (.lst ((l++[z]).map .str))),some (.fz (.str t)),some (.fz (.int p)),some (.fz (av "signs" [s])),some (bS (aT s (l++[z]))),g,some (.fz (ib (eA (.signs s) t p)))]) ?_ ?_
  ·rintro ρ rfl;ext;rw[L];ext;refine⟨lez 2,?_⟩;ext;refine⟨lez 1,?_⟩;ext;refine cH (zs:=l++[z]) (by nofun) ?_;ext;refine⟨lez 4,?_⟩;ext;intro as;ext;refine⟨lez 2,?_⟩;ext;exact q _ _ (as 0) M
  ·intro rest;rw[y] at rest;ext;refine⟨by nofun,?_⟩;ext;refine .mk (aas A (by nofun)) B ?_;ext;refine⟨aq,?_⟩;ext;refine am (fj (gv t none (some ((p+1:Nat):Int))) s p=1) (by rw[aL];exact⟨λh=>Int.ofNat.inj h,λh=>congrArg Int.ofNat h⟩) (λh=>?_) (λh=>?_)
   ·refine rest ([some (.fz (.lst ((l++[z]).map .str))),some (.fz (.str t)),some (.fz (.int p)),some (.fz (av "signs" [s])),some (bS (aT s (l++[z]))),g,some (.fz (.int 1))]) ?_;rw[if_pos h]
   ·refine rest _ ?_;rw[if_neg h];rfl
theorem vD(a:R n0=.comp "row" [n1,n2])(j:R n1=.leaf (.signs s))(i:R n2=.comp "first" [n4,n3])(o:R n3=.leaf .none)(g:R n4=.comp "row" [n5])(b:R n5=.comp "row" [n0]):∀d k,t.length=k+d ->
  (fj t s k=0->PtAt R t (12*d+12) n0 k (none,k,[n1])/\∀f,kT R t (12*d+12+f) (n0,k)=[(n1,k)]) /\
  (0<fj t s k->PtAt R t (12*d+12) n0 k (some (fj t s k),k+fj t s k,[n1,n2,n3,n4,n5])/\∀f,kT R t (12*d+12+f) (n0,k)=[(n1,k),(n2,k+1)]):=by
 have no:∀d k,eA (.signs s) t k=none->PtAt R t (12*d+12) n0 k (none,k,[n1])/\∀f,kT R t (12*d+12+f) (n0,k)=[(n1,k)]:=λd k e=>by
  obtain⟨h1,h2⟩:=pq a (kK (k:=k) j) e;rw[show max k (eA (.signs s) t k,k,([]:List Str)).2.1=k from Nat.max_self k] at h1;exact⟨h1.mono (by nofun),λf=>by have:=h2 (12*d+9+f);rwa [show 1+2+(12*d+9+f)=12*d+12+f by nofun] at this⟩
 intro d
 induction d with
 | zero=>
  intro k I;have e:=gj (s:=s) (z:=t) (k:=k) (by nofun);exact⟨λ_=>no 0 k e,λh=>by rw[ge (by nofun)] at h;exact absurd h (aaO _)⟩
 | succ d F=>
  intro k I;obtain⟨c,n⟩:∃c,t.cps.toList[k]?=some c:=⟨_,List.getElem?_eq_getElem (by have:=ao t;nofun)⟩;rw[kJ n];by_cases m:c∈s.cps.toList
  ·rw[if_pos m];refine⟨λh=>by nofun,λ_=>?_⟩;have D:eA (.signs s) t k=some 1:=by rw[eV n,if_pos m]
   have E:=kK (t:=t) (k:=k) j;obtain⟨H,G⟩:=F (k+1) (by nofun);by_cases hr:fj t s (k+1)=0
   ·have C:=(H hr).1;have y:=(gE b C).1;have A:=(gE g y).1;have P3:=kK (t:=t) (k:=k+1) o;have B:=zJ i A rfl (P3.mono (c':=12*d+12+2+2) (by nofun));obtain⟨x,w⟩:=kL a (E.mono (c':=12*d+12+2+2+3) (by nofun)) D B;have u:=x.same (L:=[n1,n2,n3,n4,n5]) λv=>by simp only[List.mem_cons,List.mem_append,List.not_mem_nil,or_false];grind
    refine⟨?_,λf=>?_⟩
    ·have q:=u.mono (c':=12*(d+1)+12) (by nofun);rw[hr];have p:(max (max k k) (max (max (k+1) (max (k+1) (max (k+1) (k+1)))) (k+1)))=k+(0+1):=by nofun
     have l:PtAt R t (12*(d+1)+12) n0 k (some (1+0),(max (max k k) (max (max (k+1) (max (k+1) (max (k+1) (k+1)))) (k+1))),[n1,n2,n3,n4,n5]):=q;rw[p] at l;exact l
    ·have:=w (12*(d+1)+12 - (12*d+12+2+2+3+3)+f)
     rwa [show 12*d+12+2+2+3+3+(12*(d+1)+12 - (12*d+12+2+2+3+3)+f)=12*(d+1)+12+f by nofun] at this
   ·have C:=(G (by nofun)).1;have y:=(gE b C).1;have A:=(gE g y).1;have B:=zI i A rfl;obtain⟨x,w⟩:=kL a (E.mono (c':=12*d+12+2+2+2) (by nofun)) D B;have u:=x.same (L:=[n1,n2,n3,n4,n5]) λv=>by simp only[List.mem_cons,List.mem_append,List.not_mem_nil,or_false];grind
    refine⟨?_,λf=>?_⟩
    ·have q:=u.mono (c':=12*(d+1)+12) (by nofun);generalize fj t s (k+1)=r at *;have p:(max (max k k) (max (k+1) (max (k+1) (max (k+1) (k+1+r)))))=k+(r+1):=by nofun
     have l:PtAt R t (12*(d+1)+12) n0 k (some (1+r),(max (max k k) (max (k+1) (max (k+1) (max (k+1) (k+1+r))))),[n1,n2,n3,n4,n5]):=q;rw[p,Nat.add_comm 1 r] at l;exact l
    ·have:=w (12*(d+1)+12 - (12*d+12+2+2+2+3)+f)
     rwa [show 12*d+12+2+2+2+3+(12*(d+1)+12 - (12*d+12+2+2+2+3)+f)=12*(d+1)+12+f by nofun] at this
  ·rw[if_neg m];exact⟨λ_=>no (d+1) k (by rw[eV n,if_neg m]),λh=>absurd h (aaO _)⟩
theorem q0(nd:(rows.map (·.1)).Nodup){x:Str}{rest:List Str}(hr:(x,("signs" : Str),rest)∈rows):¬Emp (a7 rows) x:=λh=>by
 have key:∀r∈a7 rows,r.1=x->r.2.1 = "signs" := λr h1 h2=>by
  rw[o7 nd hr (cA h1) h2]
 generalize a:x=y at h
 cases h with
 | base h1 h2=>
  have:=key _ h1 a.symm;rw[this] at h2;unfold JE at h2
  revert h2
  decide +kernel
 |row h1 h2 _=>rw[key _ h1 a.symm] at h2;exact absurd h2 (by decide +kernel)
 |first h1 h2 _ _=>rw[key _ h1 a.symm] at h2;exact absurd h2 (by decide +kernel)
abbrev tlR(n0 n1 n2 n3 n4 n5 s:Str):List Rw:=[(n0, "row", [n1,n2]),(n1, "signs", [s]),(n2, "first", [n4,n3]),(n3, "none", []),(n4, "row", [n5]),(n5, "row", [n0])]
def tlD(n0 n1 n2 n3 n4 n5:Str)(p r:Nat):D:=if r=0 then cq none 1 [(n1,p)] (bC [n0,n1]) else cq (some r) ((r:Int)+1) [(n1,p),(n2,p+1)] (bC [n0,n1,n2,n3,n4,n5])
theorem vE{p:Nat}(N:NamesOk [n0,n1,n2,n3,n4,n5] 6 t p)(hs:bZ s):MakeOk (tlR n0 n1 n2 n3 n4 n5 s) t n0 p (tlD n0 n1 n2 n3 n4 n5 p (fj t s p)):=by
 have sz:=bG;have hd:=N.nd;simp only[List.nodup_cons,List.mem_cons,List.not_mem_nil,or_false,not_or,List.nodup_nil,and_true,not_false_eq_true] at hd;obtain⟨⟨l,k,G,j,i⟩,⟨g,M,F,E⟩,⟨C,f,e⟩,⟨B,A⟩,d⟩:=hd;have nd:((tlR n0 n1 n2 n3 n4 n5 s).map (·.1)).Nodup:=N.nd;have L:=N.tl;have O:=N.p;have P:∀z∈[n0,n1,n2,n3,n4,n5],z∈[n0,n1,n2,n3,n4,n5]:=λ_ h=>h;refine⟨nd,by show 6<=30;decide,gM (pool:=[n0,n1,n2,n3,n4,n5]) (rank:=λx=>if x=n0 then 1 else if x=n5 then 2 else if x=n4 then 3 else if x=n2 then 4 else 0) ⟨nd,λr hr=>?_,by show 6<=30;decide,N.nm,by show 6<=45;decide,λzs a r hr x c=>?_⟩,?_⟩
 ·simp only[List.mem_cons,List.not_mem_nil,or_false] at hr;rcases hr with rfl|rfl|rfl|rfl|rfl|rfl
  ·exact⟨N.nm _ (by simp),.inr (.inr (.inr ⟨.inl rfl,(by decide:(1:Nat)<=2),(by decide:(2:Nat)<=8),λz a=>by simp only[List.mem_cons,List.not_mem_nil,or_false] at a ⊢;grind⟩))⟩
  ·exact⟨N.nm _ (by simp),.inr (.inl ⟨rfl,s,rfl,hs⟩)⟩
  ·exact⟨N.nm _ (by simp),.inr (.inr (.inr ⟨.inr rfl,(by decide:(1:Nat)<=2),(by decide:(2:Nat)<=8),λz a=>by simp only[List.mem_cons,List.not_mem_nil,or_false] at a ⊢;grind⟩))⟩
  ·exact⟨N.nm _ (by simp),.inl ⟨.inl rfl,rfl⟩⟩
  ·exact⟨N.nm _ (by simp),.inr (.inr (.inr ⟨.inl rfl,(by decide:(1:Nat)<=1),(by decide:(1:Nat)<=8),λz a=>by rw[List.mem_singleton.mp a];simp⟩))⟩
  ·exact⟨N.nm _ (by simp),.inr (.inr (.inr ⟨.inl rfl,(by decide:(1:Nat)<=1),(by decide:(1:Nat)<=8),λz a=>by rw[List.mem_singleton.mp a];simp⟩))⟩
 ·have m:n1∉zs:=λh=>q0 nd (x:=n1) (rest:=[s]) (by simp) ((a n1).mp h);simp only[List.mem_cons,List.not_mem_nil,or_false] at hr;rcases hr with rfl|rfl|rfl|rfl|rfl|rfl
  ·have b:x∈kF zs [n1,n2]:=c;rw[kF,if_neg m] at b;rw[abF.mp b];simp[Ne.symm l,E,F,g]
  ·exact nomatch (show x∈[] from cB c)
  ·have b:x=n4∨x=n3:=by simpa using (show x∈[n4,n3] from cB c)
   rcases b with rfl|rfl
   ·simp[Ne.symm j,d,Ne.symm k,e,f]
   ·simp[Ne.symm G,A,B,Ne.symm C,Ne.symm k,e,f]
  ·exact nomatch (show x∈[] from cB c)
  ·rw[abF.mp (show x∈[n5] from cB c)];simp[Ne.symm i,Ne.symm j,d]
  ·rw[abF.mp (show x∈[n0] from cB c)];simp[Ne.symm i]
 ·have y:=cw nd (r:=(n0, "row", [n1,n2])) (by simp);have w:=cw nd (r:=(n1, "signs", [s])) (by simp);have u:=cw nd (r:=(n2, "first", [n4,n3])) (by simp);have q:=cw nd (r:=(n3, "none", [])) (by simp);have o:=cw nd (r:=(n4, "row", [n5])) (by simp);have n:=cw nd (r:=(n5, "row", [n0])) (by simp);generalize jn (a7 (tlR n0 n1 n2 n3 n4 n5 s))=R at *;obtain⟨K,J⟩:=vD (t:=t) (s:=s) y w u q o n (t.length - p) p (by nofun);unfold tlD;by_cases hr:fj t s p=0
  ·rw[if_pos hr];obtain⟨H,I⟩:=K hr;have D:=pp (zs:=[n0,n1]) (by nofun) H I (by simp) (by show 1<=1000;decide) (by simp[l]) λv=>by simp
   rwa [show ((((none,p,[n1]):Rt).2.1:Int) - (p:Int)+1)=1 by show (p:Int) - p+1=1;nofun] at D
  ·rw[if_neg hr];obtain⟨H,I⟩:=J (by nofun);have D:=pp (zs:=[n0,n1,n2,n3,n4,n5]) (by nofun) H I (by simp[g]) (by show 2<=1000;decide) N.nd λv=>by simp
   rwa [show ((((some (fj t s p),p+fj t s p,[n1,n2,n3,n4,n5]):Rt).2.1:Int) - (p:Int)+1)=(fj t s p:Int)+1 by show ((p+fj t s p:Nat):Int) - p+1=_;nofun] at D
inductive cr:Ct
 |mk {ns:List Str} {t s:Str} {p:Nat} {P:Pk} (hs:bZ s) (N:NamesOk ns 6 t p) (h:∀(rows:List Rw) (due:D) (a:Addr),MakeOk rows t (ns.headD "") p due->P (vy a rows due) (fB ns t p++[.fz (av "signs" [s])])):cr (fB ns t p++[.fz (av "signs" [s])]) P
abbrev pv:Stmt:=top 62
abbrev zO:FS:=
  (al (b7 4 (jL (cI (fOp aIx (ab 0) (fC (.int 0))) (c6 (aa (fC (.str "row")) (aa (fOp aIx (ab 0) (fC (.int 1))) (aa (fOp aIx (ab 0) (fC (.int 2))) ae)))) (cI (fOp aIx (ab 0) (fC (.int 1))) (ab 3) (cI (fOp aIx (ab 0) (fC (.int 2))) (c6 (aa (fC (.str "first")) (aa (fOp aIx (ab 0) (fC (.int 4))) (aa (fOp aIx (ab 0) (fC (.int 3))) ae)))) qJ)))))
  (al (gT 4 (c6 (aa (fC (.str "none")) ae)) (fOp aIx (ab 0) (fC (.int 3))))
  (al (gT 4 (c6 (aa (fC (.str "row")) (aa (fOp aIx (ab 0) (fC (.int 5))) ae))) (fOp aIx (ab 0) (fC (.int 4))))
  (al (gT 4 (c6 (aa (fC (.str "row")) (aa (fOp aIx (ab 0) (fC (.int 0))) ae))) (fOp aIx (ab 0) (fC (.int 5))))
  (al (bO (ah cO (aa (fFz (ab 1)) (aa (fFz (ab 2)) (aa (fFz (fOp aIx (ab 3) (fC (.int 1)))) ae)))) (ac 5))
  (al (fIf (au (fOp aEq (ab 5) (fC (.int 0))))
   (bh (lP (aa (ab 4) (aa (c6 (aa (fC .non) (aa (fC (.int 1)) (aa (hV (aa (c6 (aa (fOp aIx (ab 0) (fC (.int 1))) (aa (ab 2) ae))) ae)) (aa (fCB cF (aa (fSl aSl (ab 0) bM (dJ (fC (.int 2)))) ae)) ae))))) ae))))
   aP)
  (al (bO (hV (aa (c6 (aa (fOp aIx (ab 0) (fC (.int 1))) (aa (ab 2) ae))) (aa (c6 (aa (fOp aIx (ab 0) (fC (.int 2))) (aa (fOp b6 (ab 2) (fC (.int 1))) ae))) ae))) (ac 6))
  (bh (lP (aa (ab 4) (aa (c6 (aa (ab 5) (aa (fOp b6 (ab 5) (fC (.int 1))) (aa (ab 6) (aa (fCB cF (aa (fSl aSl (ab 0) bM (dJ (fC (.int 6)))) ae)) ae))))) ae)))))))))))
theorem zP:Hh cr zO [] 7:=by
 intro os P h;obtain@⟨ns,t,s,p,_,hs,N,q⟩:=h;have sz:=bG;have l:=N.tl;have m:=N.p;have hr:=nr (t:=t) (s:=s) (p:=p)
 obtain⟨n0,n1,n2,n3,n4,n5,rfl⟩:∃n0 n1 n2 n3 n4 n5,ns=[n0,n1,n2,n3,n4,n5]:=by
  match ns,N.len with
  |[a,b,c,d,e,f],_=>exact ⟨a,b,c,d,e,f,rfl⟩
 have M:=vE N hs;have nd:([n0,n1,n2,n3,n4,n5]:List Str).Nodup:=N.nd;have k:=cQ (more:=[(n0, "row", [n1,n2]),(n1, "signs", [s]),(n2, "first", [n4,n3])]) (nd.sublist (by simp));have j:=b5 (rows:=[(n0, "row", [n1,n2]),(n1, "signs", [s]),(n2, "first", [n4,n3])]) (y:=n3) (w := "none") (rest:=[]) (by simp at nd ⊢;grind);have i:=b5 (rows:=[(n0, "row", [n1,n2]),(n1, "signs", [s]),(n2, "first", [n4,n3]),(n3, "none", [])]) (y:=n4) (w := "row") (rest:=[n5]) (by simp at nd ⊢;grind);have g:=b5 (rows:=[(n0, "row", [n1,n2]),(n1, "signs", [s]),(n2, "first", [n4,n3]),(n3, "none", []),(n4, "row", [n5])]) (y:=n5) (w := "row") (rest:=[n0]) (by simp at nd ⊢;grind);ext;refine⟨lez 3,?_⟩;ext;refine⟨lez 3,?_⟩;ext;refine⟨(by decide:(3:Nat)<=15),?_⟩
 erw [show cY ([],[]) _=_ from k]
 ext;refine⟨lez 1,?_⟩;ext;refine⟨rfl,?_⟩;ext;refine⟨by show 3<sizeLine;nofun,?_⟩
 erw [← j]
 ext;refine⟨lez 2,?_⟩;ext;refine⟨rfl,?_⟩;ext;refine⟨by show 4<sizeLine;nofun,?_⟩
 erw [← i]
 ext;refine⟨lez 2,?_⟩;ext;refine⟨rfl,?_⟩;ext;refine⟨by show 5<sizeLine;nofun,?_⟩
 erw [← g]
 clear j i g k;ext;refine .mk (by nofun) m ?_;ext;refine aB ?_;ext;refine⟨aq,?_⟩;ext;unfold tlD at M;refine am ((fj t s p:Int)=0) aL (λn=>?_) (λn=>?_)
 ·rw[if_pos (by nofun)] at M;ext;refine⟨lez 2,?_⟩;ext;refine⟨lez 1,?_⟩;ext;rw[show eC ([n0,n1,n2,n3,n4,n5].map D.str) none (some 2)=[n0,n1].map D.str from dG _ 2];refine cH (zs:=[n0,n1]) (by show 2<64;decide) ?_;ext;refine⟨lez 4,?_⟩;ext;intro as;ext;refine⟨lez 2,?_⟩;ext;exact q _ _ (as 0) M
 ·rw[if_neg (by nofun)] at M;ext;refine⟨lez 2,?_⟩;ext;refine⟨lez 2,?_⟩;ext;refine⟨lez 2,?_⟩;ext;rw[show eC ([n0,n1,n2,n3,n4,n5].map D.str) none (some 6)=[n0,n1,n2,n3,n4,n5].map D.str from dG _ 6];refine cH (zs:=[n0,n1,n2,n3,n4,n5]) (by show 6<64;decide) ?_;ext;refine⟨lez 4,?_⟩;ext;intro as;ext;refine⟨lez 2,?_⟩;ext;exact q _ _ (as 0) M
theorem nu{G:Str->Nat->Option Nat×Nat×List Str}{k:Nat}:∀xs:List Str,(∀x∈xs,((G x k).1=none∨(G x k).1=some 1)/\(G x k).2.1=k) ->
  ((gg G xs k).1=none∨(gg G xs k).1=some 1)/\(gg G xs k).2.1=k/\((gg G xs k).1=none↔∀x∈xs,(G x k).1=none)/\(∀v∈(gg G xs k).2.2,∃x∈xs,v=x∨v∈(G x k).2.2)/\((∀x∈xs,(G x k).1=none)->∀x∈xs,∀v,v=x∨v∈(G x k).2.2->v∈(gg G xs k).2.2)
 |[],_=>⟨.inl rfl,rfl,⟨λ_ _ h=>(nomatch h),λ_=>rfl⟩,λ_ h=>(nomatch h),λ_ _ h=>(nomatch h)⟩
 | [x],h=>by
  have c:=h x (aab ..);refine⟨c.1,c.2,⟨λe y d=>by rw[abF.mp d];exact e,λe=>e x (aab ..)⟩,λv a=>⟨x,aab ..,abI.mp a⟩,λ_ y d v a=>?_⟩;rw[abF.mp d] at a;exact abI.mpr a
 | x::y::r,h=>by
  have c:=h x (aab ..);obtain⟨l,j,i,g,f⟩:=nu (y::r) λz b=>h z (aae _ b);by_cases e:(G x k).1=none
  ·rw[show gg G (x::y::r) k=((gg G (y::r) k).1,max (G x k).2.1 (gg G (y::r) k).2.1,x::(G x k).2.2++(gg G (y::r) k).2.2) from if_neg λz=>z e];refine⟨l,by rw[c.2,j];exact Nat.max_self k,i.trans ⟨λq z b=>?_,λq z b=>q z (aae _ b)⟩,λv a=>?_,λq z b v a=>?_⟩
   ·rcases abI.mp b with rfl|b
    ·exact e
    ·exact q z b
   ·rcases abE.mp a with a|a
    ·exact⟨x,aab ..,abI.mp a⟩
    ·obtain⟨z,b,q⟩:=g v a;exact⟨z,aae _ b,q⟩
   ·rcases abI.mp b with rfl|b
    ·exact abE.mpr (.inl (abI.mpr a))
    ·exact abE.mpr (.inr (f (λw m=>q w (aae _ m)) z b v a))
  ·rw[show gg G (x::y::r) k=((G x k).1,(G x k).2.1,x::(G x k).2.2) from if_pos e];exact⟨c.1,c.2,⟨λq=>absurd q e,λq=>absurd (q x (aab ..)) e⟩,λv a=>⟨x,aab ..,abI.mp a⟩,λq=>absurd (q x (aab ..)) e⟩
theorem nv{t s:Str}:∀d p,t.length<=p+d->(∀i,i<fj t s p->atS t s (p+i))/\¬atS t s (p+fj t s p)
 | 0,p,h=>by
  rw[ge (by nofun)];refine⟨λi hi=>absurd hi (abr _),fun y=>?_⟩;obtain⟨c,h1,_⟩:=y;have:=(List.getElem?_eq_some_iff.mp h1).1;have:=ao t;nofun
 | d+1,p,h=>by
  cases b:t.cps.toList[p]? with
  | none=>
   have:=List.getElem?_eq_none_iff.mp b;exact nv 0 p (by rw[ao];nofun)
  | some c=>
   rw[kJ b];by_cases a:c∈s.cps.toList
   ·rw[if_pos a];obtain⟨h1,h2⟩:=nv (t:=t) (s:=s) d (p+1) (by nofun);refine⟨λi hi=>?_,by rw[show p+(fj t s (p+1)+1)=p+1+fj t s (p+1) by nofun];exact h2⟩
    cases i with
    |zero=>exact⟨c,b,a⟩
    |succ i=>rw[show p+(i+1)=p+1+i by nofun];exact h1 i (by nofun)
   ·rw[if_neg a];exact⟨λi hi=>absurd hi (abr _),fun⟨d,h1,h2⟩=>by rw[show p+0=p from rfl,b] at h1;cases h1;exact a h2⟩
abbrev lvG(sg:Str->Nat)(t:Str)(x:Str)(b:Nat):Option Nat×Nat×List Str:=(eA (.signs (fM (sg x))) t b,b,[])
abbrev vF(G:Str->Nat->Option Nat×Nat×List Str)(ps:List Str)(k:Nat):Option Nat×Nat×List Str:=((gg G ps k).1,max k (gg G ps k).2.1,(gg G ps k).2.2)
abbrev lvP(n2 n3:Str)(A:List Str)(x:Str):List Str:=if x=n2 then A.take 8 else if x=n3 then (A.drop 8).take 8 else A.drop 16
abbrev lvR(n0 n1 n2 n3 n4:Str)(A:List Str):List Rw:=[(n0, "again", [n1]),(n1, "first", [n2,n3,n4]),(n2, "first", A.take 8),(n3, "first", (A.drop 8).take 8),(n4, "first", A.drop 16)]
abbrev lfR(sg:Str->Nat)(A:List Str):List Rw:=A.map λx=>(x, "signs", [fM (sg x)])
theorem cut3(A:List Str)(x:Str):x∈A↔x∈A.take 8∨x∈(A.drop 8).take 8∨x∈A.drop 16:=by
 rw[show A.drop 16=(A.drop 8).drop 8 by rw[List.drop_drop],← abE (s:=(A.drop 8).take 8),List.take_append_drop,← abE,List.take_append_drop]
theorem Kh(f:J.cps.toList=A.map sg){x:Str}:((lvG sg t x k).1=none∨(lvG sg t x k).1=some 1)/\((∀y∈A,(lvG sg t y k).1=none)↔¬atS t J k):=by
 cases a:t.cps.toList[k]? with
 | none=>
  have e:∀y,(lvG sg t y k).1=none:=λy=>gj (by have:=List.getElem?_eq_none_iff.mp a;rw[ao];exact this);exact⟨.inl (e x),⟨λ_ ⟨c,h1,_⟩=>(by rw[a] at h1;cases h1),λ_ y _=>e y⟩⟩
 | some c=>
  have e:∀y,(lvG sg t y k).1=if c=sg y then some 1 else none:=λy=>(eV a).trans (by simp);refine⟨by rw[e];split;exact .inr rfl;exact .inl rfl,⟨λq ⟨d,h1,h2⟩=>?_,λq y b=>?_⟩⟩
  ·rw[a] at h1;cases h1;rw[f] at h2;obtain⟨y,b,g⟩:=abJ.mp h2;have:=q y b;rw[e,if_pos g.symm] at this;cases this
  ·rw[e,if_neg];intro h;exact q ⟨c,a,by rw[f,h];exact abJ.mpr ⟨y,b,rfl⟩⟩
theorem vG{p:Nat}(N:NamesOk (n0::n1::n2::n3::n4::A) (5+A.length) t p)(h1:17<=A.length)(h2:A.length<=24)(hs:∀x∈A,bZ (fM (sg x)))(Z:J.cps.toList=A.map sg) :
  MakeOk (lvR n0 n1 n2 n3 n4 A++lfR sg A) t n0 p (cq (some (fj t J p)) ((fj t J p:Nat)+1) ((List.range (fj t J p+1)).map λi=>((n1,p+i):Sp2)) (bC (n0::n1::n2::n3::n4::A))):=by
 have hd:=N.nd;have htl:=N.tl;have hp:=N.p
 have em:(lvR n0 n1 n2 n3 n4 A++lfR sg A).map (·.1)=n0::n1::n2::n3::n4::A:=by
  rw[aad,aat];show [n0,n1,n2,n3,n4]++A.map (λx=>x)=_;rw[List.map_id'];rfl
 have nd:((lvR n0 n1 n2 n3 n4 A++lfR sg A).map (·.1)).Nodup:=by rw[em];exact hd
 have el:(lvR n0 n1 n2 n3 n4 A++lfR sg A).length=5+A.length:=by rw[abH,abD];rfl
 have hA:∀x∈A,x∈n0::n1::n2::n3::n4::A:=λx a=>by simp[a]
 have b:=cut3 A;have hl1:(A.take 8).length=8:=by rw[aah];nofun
 have hl2:((A.drop 8).take 8).length=8:=by rw[aah,aaB];nofun
 have hl3:(A.drop 16).length=A.length - 16:=aaB;simp only[List.nodup_cons,List.mem_cons,not_or] at hd;obtain⟨⟨u,h02,h03,h04,h0⟩,⟨h12,h13,h14,V⟩,⟨T,S,U⟩,⟨P,Q⟩,O,hdA⟩:=hd
 have rk:∀x∈A,(if x=n0 then 3 else if x=n1 then 2 else if x=n2∨x=n3∨x=n4 then 1 else 0)=0:=λx a=>by
  rw[if_neg (show ¬x=n0 from λe=>h0 (e ▸ a)),if_neg (show ¬x=n1 from λe=>V (e ▸ a)),if_neg];rintro (e|e|e)
  ·exact U (e ▸ a)
  ·exact Q (e ▸ a)
  ·exact O (e ▸ a)
 have mem:∀r∈lvR n0 n1 n2 n3 n4 A++lfR sg A,r=(n0,("again" : Str),[n1])∨r=(n1,("first" : Str),[n2,n3,n4])∨(∃n ps,r=(n,("first" : Str),ps)/\(n=n2∨n=n3∨n=n4)/\1<=ps.length/\ps.length<=8/\∀x∈ps,x∈A)∨∃x∈A,r=(x,("signs" : Str),[fM (sg x)]):=λr hr=>by
  rcases abE.mp hr with hr|hr
  ·simp only[List.mem_cons,List.not_mem_nil,or_false] at hr;rcases hr with rfl|rfl|rfl|rfl|rfl
   ·exact .inl rfl
   ·exact .inr (.inl rfl)
   ·exact .inr (.inr (.inl ⟨n2,_,rfl,by simp,by nofun,by nofun,λx a=>(b x).mpr (.inl a)⟩))
   ·exact .inr (.inr (.inl ⟨n3,_,rfl,by simp,by nofun,by nofun,λx a=>(b x).mpr (.inr (.inl a))⟩))
   ·exact .inr (.inr (.inl ⟨n4,_,rfl,by simp,by nofun,by nofun,λx a=>(b x).mpr (.inr (.inr a))⟩))
  ·obtain⟨x,a,rfl⟩:=abJ.mp hr;exact .inr (.inr (.inr ⟨x,a,rfl⟩))
 refine⟨nd,by nofun,cL (pool:=n0::n1::n2::n3::n4::A) (rank:=λx=>if x=n0 then 3 else if x=n1 then 2 else if x=n2∨x=n3∨x=n4 then 1 else 0) ⟨nd,λr hr=>⟨N.nm r.1 (by rw[← em];exact abJ.mpr ⟨r,hr,rfl⟩),?_⟩,by nofun,N.nm,by rw[N.len];nofun,λr hr x a=>?_⟩,?_⟩
 ·rcases mem r hr with rfl|rfl|⟨n,ps,rfl,_,g1,g2,g3⟩|⟨x,a,rfl⟩
  ·exact .inr (.inr (.inl ⟨.inl rfl,rfl,λz o=>by rw[abF.mp o];simp⟩))
  ·exact .inr (.inr (.inr ⟨.inr rfl,(by decide:(1:Nat)<=3),(by decide:(3:Nat)<=8),λz o=>by simp only[List.mem_cons,List.not_mem_nil,or_false] at o ⊢;grind⟩))
  ·exact .inr (.inr (.inr ⟨.inr rfl,g1,g2,λz o=>hA z (g3 z o)⟩))
  ·exact .inr (.inl ⟨rfl,_,rfl,hs x a⟩)
 ·rcases mem r hr with rfl|rfl|⟨n,ps,rfl,hn,g1,g2,g3⟩|⟨y,c,rfl⟩
  ·rw[abF.mp (show x∈[n1] from a)];simp[Ne.symm u]
  ·have D:x=n2∨x=n3∨x=n4:=by simpa using (show x∈[n2,n3,n4] from a)
   have e0:x≠n0:=by rintro rfl;simp_all
   have e1:x≠n1:=by rintro rfl;simp_all
   show (if x=n0 then 3 else if x=n1 then 2 else if x=n2∨x=n3∨x=n4 then 1 else 0)<(if n1=n0 then 3 else if n1=n1 then 2 else _);rw[if_neg e0,if_neg e1,if_pos D,if_neg (Ne.symm u),if_pos rfl];decide
  ·show (if x=n0 then 3 else if x=n1 then 2 else if x=n2∨x=n3∨x=n4 then 1 else 0)<(if n=n0 then 3 else if n=n1 then 2 else if n=n2∨n=n3∨n=n4 then 1 else 0);rw[rk x (g3 x a),if_pos hn];split
   ·decide
   ·split <;> decide
  ·exact nomatch (show x∈[] from a)
 ·have M:=cw nd (r:=(n0, "again", [n1])) (by simp);have L:=cw nd (r:=(n1, "first", [n2,n3,n4])) (by simp);have K:_=Rl.comp "first" (A.take 8):=cw nd (r:=(n2, "first", A.take 8)) (by simp);have I:_=Rl.comp "first" ((A.drop 8).take 8):=cw nd (r:=(n3, "first", (A.drop 8).take 8)) (by simp);have H:_=Rl.comp "first" (A.drop 16):=cw nd (r:=(n4, "first", A.drop 16)) (by simp);have F:∀x∈A,jn (a7 (lvR n0 n1 n2 n3 n4 A++lfR sg A)) x=.leaf (.signs (fM (sg x))):=λx a=>cw nd (r:=(x, "signs", [fM (sg x)])) (abE.mpr (.inr (abJ.mpr ⟨x,a,rfl⟩)));generalize jn (a7 (lvR n0 n1 n2 n3 n4 A++lfR sg A))=R at *;have ne:∀{l:List Str},0<l.length->l≠[]:=λh e=>by rw[e] at h;exact absurd h (aaO _)
  have X:∀x∈A,PtG R t 1 (lvG sg t x) x:=λx a=>dQ (F x a);have P2:=(gh K (ne (by nofun)) λx a=>X x ((b x).mpr (.inl a))).mono (c':=10) (by nofun);have P3:=(gh I (ne (by nofun)) λx a=>X x ((b x).mpr (.inr (.inl a)))).mono (c':=10) (by nofun);have P4:=(gh H (ne (by nofun)) λx a=>X x ((b x).mpr (.inr (.inr a)))).mono (c':=10) (by nofun);have e2:lvP n2 n3 A n2=A.take 8:=if_pos rfl;have e3:lvP n2 n3 A n3=(A.drop 8).take 8:=(if_neg (Ne.symm T)).trans (if_pos rfl);have e4:lvP n2 n3 A n4=A.drop 16:=(if_neg (Ne.symm S)).trans (if_neg (Ne.symm P))
  have w:∀x,x∈A↔∃y∈[n2,n3,n4],x∈lvP n2 n3 A y:=λx=>by
   rw[b];simp only[List.mem_cons,List.not_mem_nil,or_false,exists_eq_or_imp,exists_eq_left,e2,e3,e4]
  have P1:PtG R t (10+3+1) (vF (λy=>vF (lvG sg t) (lvP n2 n3 A y)) [n2,n3,n4]) n1:=gh L (λz=>nomatch z) λy c=>by
   have:y=n2∨y=n3∨y=n4:=(by exists c);rcases this with rfl|rfl|rfl
   ·show PtG R t 10 (vF _ (lvP _ _ _ _)) _;rw[e2];exact P2
   ·show PtG R t 10 (vF _ (lvP _ _ _ _)) _;rw[e3];exact P3
   ·show PtG R t 10 (vF _ (lvP _ _ _ _)) _;rw[e4];exact P4
  have F1:∀k y,_:=λk y=>nu (G:=lvG sg t) (k:=k) (lvP n2 n3 A y) λx _=>⟨(Kh Z).1,rfl⟩;have j:∀k,_:=λk=>nu (G:=λy=>vF (lvG sg t) (lvP n2 n3 A y)) (k:=k) [n2,n3,n4] λy _=>⟨(F1 k y).1,by show max k _=k;rw[(F1 k y).2.1];exact Nat.max_self k⟩
  have f:∀k,(gg (λy=>vF (lvG sg t) (lvP n2 n3 A y)) [n2,n3,n4] k).1=none↔¬atS t J k:=λk=>by
   rw[(j k).2.2.1,← (Kh (x:=n0) Z).2];exact⟨λq x a=>by obtain⟨y,c,C⟩:=(w x).mp a;exact(F1 k y).2.2.1.mp (q y c) x C,λq y c=>(F1 k y).2.2.1.mpr λx a=>q x ((w x).mpr ⟨y,c,a⟩)⟩
  obtain⟨r1,Y⟩:=nv (t:=t) (s:=J) t.length p (by nofun);have hrl:=nr (t:=t) (s:=J) (p:=p);generalize fj t J p=m at *;have B:∀k,(vF (λy=>vF (lvG sg t) (lvP n2 n3 A y)) [n2,n3,n4] k).2.1=k:=λk=>by show max k _=k;rw[(j k).2.1];exact Nat.max_self k
  have D1:=gi (s:=1) (m:=m) (p:=p) (zs:=n0::n1::n2::n3::n4::A) M P1 (by decide) (by decide) (by nofun) (λi hi=>by rw[aaN];exact(j _).1.resolve_left λz=>(f _).mp z (r1 i hi)) (.inl (by rw[aaN];exact(f _).mpr Y)) (by nofun) (by rw[B];nofun) (λi hi=>by rw[B,B];nofun) N.nd (λv=>by
   have g:(∃i,i<=m/\v∈(vF (λy=>vF (lvG sg t) (lvP n2 n3 A y)) [n2,n3,n4] (p+1*i)).2.2)↔v∈[n2,n3,n4]∨v∈A:=by
    constructor
    ·rintro⟨i,_,d⟩;obtain⟨y,c,e|e⟩:=(j _).2.2.2.1 v d
     ·rw[e];exact .inl c
     ·obtain⟨x,a,W|W⟩:=(F1 _ y).2.2.2.1 v e
      ·rw[W];exact .inr ((w x).mpr ⟨y,c,a⟩)
      ·exact nomatch W
    ·intro d;have q:=(j (p+1*m)).2.2.1.mp ((f _).mpr (by rw[aaN];exact Y));refine⟨m,aac _,?_⟩;rcases d with d|d
     ·exact(j _).2.2.2.2 q v d v (.inl rfl)
     ·obtain⟨y,c,E⟩:=(w v).mp d;exact(j _).2.2.2.2 q y c v (.inr ((F1 _ y).2.2.2.2 ((F1 _ y).2.2.1.mp (q y c)) v E v (.inl rfl)))
   rw[g];simp only[List.mem_cons,List.not_mem_nil,or_false,or_assoc])
  rw[B,aaN,show (((p+m:Nat):Int) - (p:Int)+1)=(m:Int)+1 by nofun,show ((List.range (m+1)).map λi=>((n1,p+1*i):Sp2))=(List.range (m+1)).map λi=>((n1,p+i):Sp2) from aay λi _=>by rw[aaN]] at D1;exact D1
theorem Ki:∀{A:List Str} {b:List Nat},A.Nodup->A.length=b.length->∃sg:Str->Nat,b=A.map sg
 |[],[],_,_=>⟨λ_=>0,rfl⟩
 | a::A,w::b,nd,h=>by
  obtain⟨sg,e⟩:=Ki (abL.mp nd).2 (Nat.succ.inj h);refine⟨λx=>if x=a then w else sg x,?_⟩;rw[abG,if_pos rfl,e]
  congr 1
  exact aay λx c=>(if_neg (show ¬x=a from λz=>(abL.mp nd).1 (z ▸ c))).symm
theorem ja{a:Nat}(h:a<=A.length):eC ((n0::n1::n2::n3::n4::A).map D.str) (some ((a+5:Nat):Int)) (some ((b+5:Nat):Int))=((A.drop a).take (b - a)).map D.str:=by
 rw[ox,show min (a+5) ((n0::n1::n2::n3::n4::A).map D.str).length=a+5 by simp only[List.length_map,List.length_cons];nofun,show min (b+5) ((n0::n1::n2::n3::n4::A).map D.str).length=min b A.length+5 by simp only[List.length_map,List.length_cons];nofun];show ((A.map D.str).drop a).take _=_;rw[← List.map_drop,← List.map_take]
 congr 1
 rw[List.take_eq_take_iff,aaB];nofun
theorem Kj(nd:(n0::n1::n2::n3::n4::A).Nodup)(h1:17<=A.length)(h2:A.length<=24):∀i:Nat,i<3->∃(y:Str) (ps:List Str),(n0::n1::n2::n3::n4::A)[2+i]?=some y/\eC ((n0::n1::n2::n3::n4::A).map D.str) (some (5+8*(0+(i:Int)))) (some (13+8*(0+(i:Int))))=ps.map D.str/\ps.length<=8/\y∉((lvR n0 n1 n2 n3 n4 A).take (2+i)).map (·.1)/\(lvR n0 n1 n2 n3 n4 A).take (2+(i+1))=(lvR n0 n1 n2 n3 n4 A).take (2+i)++[(y,("first" : Str),ps)]:=by
 simp only[List.nodup_cons,List.mem_cons,not_or] at nd;intro i hi
 match i,hi with
 |0,_=>exact⟨n2,A.take 8,rfl,ja (a:=0) (b:=8) (aan _),by rw[aah];nofun,by simp;grind,rfl⟩
 |1,_=>exact⟨n3,(A.drop 8).take 8,rfl,ja (a:=8) (b:=16) (by nofun),by rw[aah];nofun,by simp;grind,rfl⟩
 |2,_=>exact⟨n4,A.drop 16,rfl,(ja (a:=16) (b:=24) (by nofun)).trans (by rw[aai (by rw[aaB];nofun)]),by rw[aaB];nofun,by simp;grind,rfl⟩
theorem vH{e:D}{ln:Option Nat}{m:Int}(hd:d=cq ln m st ls)(a:e=cq ln m st ls)(hs:st.length<=1000)(h:P (.fz (.bl true)) [.fz d,.fz e]):ca [.fz d,.fz e] P:=by
 subst hd a;exact .mk hs h
inductive cu:Ct
 |mk {b0 b1 b2:Int} (n:Int) {P:Pk} (hb:WellB b1 b2 n) (hn:n<2 ^ 30) (h:∀b0' b1' b2':Int,P (.fz (.bl true)) [bj b0' b1' b2']):cu [bj b0 b1 b2] P
abbrev pw:Stmt:=top 69
abbrev zQ:FS:=
  (al (b7 1 (hV ae))
  (al (qq (cW (aa (fOp b6 (fC (.int 17)) (ah ag (aa (ab 0) (aa (fC (.int 8)) ae)))) ae)) (ac 2)
   (bN (v9 1 (ah ce (aa (ab 0) (aa (ab 1) ae))))))
  (al (bO (ah ce (aa (ab 0) (aa (ab 1) ae))) (ac 3))
  (al (bO (ah cb (aa (ab 0) (aa (fFz (fOp b6 (fC (.int 5)) (fCB et (aa (ab 1) ae)))) ae))) (ac 4))
  (al (b7 5 (jL (cI (fOp aIx (ab 4) (fC (.int 0))) (c6 (aa (fC (.str "again")) (aa (fOp aIx (ab 4) (fC (.int 1))) ae))) (cI (fOp aIx (ab 4) (fC (.int 1))) (c6 (aa (fC (.str "first")) (aa (fOp aIx (ab 4) (fC (.int 2))) (aa (fOp aIx (ab 4) (fC (.int 3))) (aa (fOp aIx (ab 4) (fC (.int 4))) ae))))) qJ))))
  (al (qq (cW (aa (fC (.int 3)) ae)) (ac 2)
   (gT 5 (fOp b6 (c6 (aa (fC (.str "first")) ae)) (fCB AB (aa (fSl aSl (ab 4) (dJ (fOp b6 (fC (.int 5)) (fOp (aIC CMul λi j=>.int (i*j)) (fC (.int 8)) (ab 2)))) (dJ (fOp b6 (fC (.int 13)) (fOp (aIC CMul λi j=>.int (i*j)) (fC (.int 8)) (ab 2))))) ae))) (fOp aIx (ab 4) (fOp b6 (fC (.int 2)) (ab 2)))))
  (al (qq (cW (aa (fCB et (aa (ab 1) ae)) ae)) (ac 2)
   (gT 5 (c6 (aa (fC (.str "signs")) (aa (fOp aIx (ab 1) (ab 2)) ae))) (fOp aIx (ab 4) (fOp b6 (fC (.int 5)) (ab 2)))))
  (al (bO (ah ag (aa (ab 0) (aa (fFz (fOp aIx (hV (aa (fC (.int 25)) (aa (fC (.int 25)) (aa (fC (.int 25)) (aa (fC (.int 201)) ae))))) (ah ag (aa (ab 0) (aa (fC (.int 4)) ae))))) ae))) (ac 6))
  (al (bO (ah ag (aa (ab 0) (aa (fFz (fOp b6 (ab 6) (fC (.int 1)))) ae))) (ac 7))
  (al (bO (ah dA (aa (ab 0) (aa (fFz (fOp b6 (fSl aSl (fOp b6 (ab 1) (ab 1)) bM (dJ (fC (.int 26)))) (hV (aa (ab 3) ae)))) (aa (fFz (ab 6)) ae)))) (ac 8))
  (al (bO (ah cO (aa (fFz (ab 8)) (aa (fFz (ab 7)) (aa (fFz (tO (fC (.str "")) (ab 1))) ae)))) (ac 9))
  (al (bO (bw [4,7] 1 (cW (aa (fOp b6 (ab 9) (fC (.int 1))) ae)) (ac 0) jC (c6 (aa (fOp aIx (ab 5) (fC (.int 1))) (aa (fOp b6 (ab 8) (ab 0)) ae)))) (ac 10))
  (bh (ah ca (aa (fFz (ah dm (aa (fFz (ah bT (aa (ab 5) ae))) (aa (fFz (fOp aIx (ab 4) (fC (.int 0)))) (aa (fFz (ab 8)) (aa (fFz (ab 7)) ae)))))) (aa (fFz (c6 (aa (ab 9) (aa (fOp b6 (ab 9) (fC (.int 1))) (aa (ab 10) (aa (fCB cF (aa (ab 4) ae)) ae)))))) ae))))))))))))))))
theorem zR:Hh cu zQ [0] 11:=by
 intro os P h;obtain@⟨b0,b1,b2,n,_,g,hn,q⟩:=h;have sz:=bG;ext;refine⟨aan _,?_⟩;ext;refine aZ n g (by nofun) (by nofun) (by nofun) λr b0 b1 b2 r0 r1 g=>?_;ext;refine⟨⟨by nofun,by nofun⟩,?_⟩;ext;obtain⟨L,hL⟩:∃L:Nat,17+r=(L:Int):=⟨(17+r).toNat,by nofun⟩;rw[hL];refine bL (λi ρ=>∃(F:List Nat) (C:Option OV) (b0 b1 b2:Int),F.length=i/\i<=L/\F.Nodup/\(∀c∈F,c∈fq.cps.toList)/\WellB b1 b2 (n+1+i)/\ρ=[some (bj b0 b1 b2),some (.fl ((F.map fM).map .str)),C,none,none,none,none,none,none,none,none]) ⟨[],none,b0,b1,b2,rfl,aan _,abS,(λ_ h=>nomatch h),g.mono (by nofun),rfl⟩ ?_ ?_
 ·rintro i d ρ R hd ⟨F,C,b0,b1,b2,N,him,E,B,g,rfl⟩ G;obtain⟨hi,rfl⟩:=aQ hd;ext;refine⟨rfl,?_⟩;ext;refine .mk _ E B (by nofun) g (by nofun) λc b0 b1 b2 h1 h2 g=>?_;ext;refine⟨by rw[abD,abD];nofun,?_⟩;refine G _ ⟨F++[c],_,b0,b1,b2,by rw[abH,N];rfl,by nofun,KS.nodup_snoc E h2,λv hv=>?_,g.mono (by nofun),by rw[aad,aad];rfl⟩;rcases abE.mp hv with h|h
  ·exact B v h
  ·rw[abF.mp h];exact h1
 rintro ρ ⟨F,C,b0,b1,b2,N,him,E,B,g,rfl⟩;rw[a9,Int.toNat_natCast] at N g;ext;refine .mk _ E B (by nofun) g (by nofun) λc b0 b1 b2 hc1 hc2 g=>?_;ext;rw[abD,abD,N,show (5:Int)+(L:Int)=((5+L:Nat):Int) by nofun];refine .mk _ g (by nofun) (by nofun) λns b0 b1 b2 H o T g=>?_
 obtain⟨n0,n1,n2,n3,n4,A,rfl⟩:∃n0 n1 n2 n3 n4 A,ns=n0::n1::n2::n3::n4::A:=by
  match ns,(show ns.length=L+5 by nofun) with
  |a::b::c::d::e::A,_=>exact ⟨a,b,c,d,e,A,rfl⟩
 have I:A.length=L:=by simp only[List.length_cons] at H;nofun
 obtain⟨sg,rfl⟩:=Ki (A:=A) (by simp only[List.nodup_cons] at o;exact o.2.2.2.2.2) (I.trans N.symm);clear N;have hm:=cQ (more:=[(n0, "again", [n1]),(n1, "first", [n2,n3,n4])]) (o.sublist (by simp));have u:∀{j:Nat} {x:Str},(n0::n1::n2::n3::n4::A)[j]?=some x->atI ((n0::n1::n2::n3::n4::A).map D.str) (j:Int)=some (.str x):=λh=>bf (by rw[List.getElem?_map,h];rfl);have a0:=u (j:=0) rfl;have a1:=u (j:=1) rfl;have a2:=u (j:=2) rfl;have a3:=u (j:=3) rfl;have a4:=u (j:=4) rfl;ext
 erw [a0]
 ext
 erw [a1]
 ext;refine⟨lez 2,?_⟩;ext
 erw [a1]
 ext
 erw [a2]
 ext
 erw [a3]
 ext
 erw [a4]
 ext;refine⟨lez 4,?_⟩;ext;refine⟨(by decide:(2:Nat)<=15),?_⟩
 erw [show cY ([],[]) _=_ from hm]
 clear hm;ext;refine⟨⟨by decide,by decide⟩,?_⟩;ext;refine bL (λi ρ=>∃C:Option OV,ρ=[some (bj b0 b1 b2),some (.fl (((A.map sg).map fM).map .str)),C,some (.fz (.str (fM c))),some (.fz (.lst ((n0::n1::n2::n3::n4::A).map .str))),some (bS ((lvR n0 n1 n2 n3 n4 A).take (2+i))),none,none,none,none,none]) ⟨_,rfl⟩ ?_ ?_
 ·rintro i d ρ R hd ⟨C,rfl⟩ G;obtain⟨hi,rfl⟩:=aQ hd;obtain⟨y,ps,Q,V,hps,X,S⟩:=Kj o (by nofun) (by nofun) i hi;have W:=u Q;rw[Int.natCast_add,← aa3 (i:Int)] at W;have er:=b5 (w := "first") (rest:=ps) X;ext;refine⟨lez 1,?_⟩;ext;have cm:CMul 8 (0+(i:Int)):=by unfold CMul;nofun
  refine⟨cm,?_⟩;ext;refine⟨cm,?_⟩;ext;rw[V];ext;refine⟨(λz=>nomatch z),by rw[abD];show 1+ps.length<=_;nofun,?_⟩;ext;refine⟨rfl,?_⟩;ext
  erw [W]
  ext;refine⟨by rw[abD,abD,aah];show min _ 5<_;nofun,?_⟩
  erw [← er,← S]
  exact G _ ⟨_,rfl⟩
 rintro ρ ⟨C,rfl⟩;ext;rw[abD,abD,abD,I];refine⟨⟨by nofun,by nofun⟩,?_⟩;ext;refine bL (λi ρ=>∃C:Option OV,ρ=[some (bj b0 b1 b2),some (.fl (((A.map sg).map fM).map .str)),C,some (.fz (.str (fM c))),some (.fz (.lst ((n0::n1::n2::n3::n4::A).map .str))),some (bS (lvR n0 n1 n2 n3 n4 A++lfR sg (A.take i))),none,none,none,none,none]) ⟨_,rfl⟩ ?_ ?_
 ·rintro i d ρ R hd ⟨C,rfl⟩ G;obtain⟨hi,rfl⟩:=aQ hd;obtain⟨x,K⟩:∃x,A[i]?=some x:=⟨_,List.getElem?_eq_getElem (by nofun)⟩;have W:=u (j:=i+5) (x:=x) K;rw[Int.natCast_add,Int.add_comm,← aa3 (i:Int)] at W;have es:atI (((A.map sg).map fM).map D.str) (0+(i:Int))=some (.str (fM (sg x))):=by rw[aa3];exact bf (by rw[List.getElem?_map,List.getElem?_map,List.getElem?_map,K];rfl)
  have er:=b5 (rows:=lvR n0 n1 n2 n3 n4 A++lfR sg (A.take i)) (y:=x) (w := "signs") (rest:=[fM (sg x)]) (by
   rw[aad,aat];show x∉[n0,n1,n2,n3,n4]++(A.take i).map (λx=>x);rw[List.map_id'];have h1:(n0::n1::n2::n3::n4::A)=([n0,n1,n2,n3,n4]++A.take i)++A.drop i:=by rw[aar,List.take_append_drop];rfl
   rw[h1] at o;exact λh=>(abP.mp o).2.2 x h x (by rw[aaD (by nofun),(List.getElem?_eq_some_iff.mp K).2];exact aab ..) rfl)
  have e2:lvR n0 n1 n2 n3 n4 A++lfR sg (A.take (i+1))=lvR n0 n1 n2 n3 n4 A++lfR sg (A.take i)++[(x,("signs" : Str),[fM (sg x)])]:=by rw[aap,K,aar];unfold lfR;rw[aad];rfl
  ext
  erw [es]
  ext;refine⟨lez 2,?_⟩;ext;refine⟨rfl,?_⟩;ext
  erw [W]
  ext;refine⟨by rw[abD,abD,abH,abD,aah];show 5+_<_;nofun,?_⟩
  erw [← er,← e2]
  exact G _ ⟨_,rfl⟩
 rintro ρ ⟨C,rfl⟩;rw[a9,Int.toNat_natCast,aai (by nofun)];ext;refine⟨lez 4,?_⟩;ext;refine aZ _ g (by nofun) (by nofun) (by nofun) λr b0 b1 b2 r0 r1 g=>?_;ext;refine fH r0 r1 λd hd=>?_
 obtain⟨k,rfl,hk0,hk1⟩:∃k:Nat,d=.int k/\0<k/\k<=201:=by
  simp only[List.mem_cons,List.not_mem_nil,or_false] at hd;rcases hd with rfl|rfl|rfl|rfl
  ·exact⟨25,rfl,by decide,by decide⟩
  ·exact⟨25,rfl,by decide,by decide⟩
  ·exact⟨25,rfl,by decide,by decide⟩
  ·exact⟨201,rfl,by decide,by decide⟩
 ext;refine aZ _ g (by nofun) (by nofun) (by nofun) λz b0 b1 b2 z0 z1 g=>?_;obtain⟨O,rfl⟩:=aaY z0;ext;refine aZ _ g (by nofun) (by nofun) (by nofun) λz b0 b1 b2 p0 p1 g=>?_;obtain⟨p,rfl⟩:=aaY p0;ext;refine⟨by rw[abD,abD,abD];nofun,?_⟩;ext;have e26:eC (((A.map sg).map fM).map D.str++((A.map sg).map fM).map D.str) none (some 26)=(((A.map sg++A.map sg).take 26).map fM).map D.str:=by rw[show (26:Int)=((26:Nat):Int) from rfl,dG,← aad,← aad,List.map_take,List.map_take]
 rw[e26];refine⟨lez 1,?_⟩;ext;have l26:((A.map sg++A.map sg).take 26).length<=26:=by rw[aah];nofun
 refine⟨by rw[abD,abD];show _+1<=_;nofun,?_⟩;ext;refine .mk _ (cs:=(A.map sg++A.map sg).take 26++[c]) (.inr (by rw[aad,aad];rfl)) (by simp) (by rw[List.length_append];show _+1<=_;nofun) g (by nofun) (by nofun) λt b0 b1 b2 htl Y g=>?_
 have hJ:(Builtin.Str.glued (Str.ofString "") ((A.map sg).map fM)).cps.toList=A.map sg:=by
  rw[show Str.ofString "" = Str.empty from rfl,fQ,aat]
  induction A.map sg with
  |nil=>rfl
  |cons a l ih=>exact congrArg (a::·) ih
 ext;refine iM ⟨by rw[aat,aat];show (A.map λ_=>1).sum+((A.map sg).map fM).length*0<=_;rw[dH];nofun,?_⟩;generalize Builtin.Str.glued (Str.ofString "") ((A.map sg).map fM)=J at hJ;ext;refine .mk (by nofun) (by nofun) ?_;have M:=vG (sg:=sg) (t:=t) (p:=p) (J:=J) ⟨H.trans (by rw[I]),o,T,by nofun,by nofun⟩ (by nofun) (by nofun) (λx K=>⟨aac 1,(by decide:(1:Nat)<=40),List.pairwise_singleton _ _,λy Q=>by rw[abF.mp (show y∈[sg x] from Q)];exact fX _ (B _ (abJ.mpr ⟨x,K,rfl⟩))⟩) hJ;have hr:=nr (t:=t) (s:=J) (p:=p);generalize fj t J p=m at *;obtain⟨f,rr,hf,Z,hol,U⟩:=M.rd;generalize S:lvR n0 n1 n2 n3 n4 A++lfR sg A=rows at *;ext;refine⟨⟨by nofun,by nofun⟩,?_⟩;ext;refine aA (λi as ρ=>∃x:Option OV,as=((List.range i).map λk=>((n1,p+k):Sp2)).map bt/\ρ=[x,some (bj b0 b1 b2),some (.fl (((A.map sg).map fM).map .str)),C,some (.fz (.str (fM c))),some (.fz (.lst ((n0::n1::n2::n3::n4::A).map .str))),some (bS rows),some (.fz (.int O)),some (.fz (.int p)),some (.fz (.str t)),some (.fz (.int m)),none]) ⟨none,rfl,rfl⟩ ?_ ?_
 ·rintro i d as ρ R hd ⟨x,rfl,rfl⟩ G;obtain⟨hi,rfl⟩:=aQ hd;ext;refine c9 ?_;ext
  erw [a1]
  ext;refine⟨lez 2,?_⟩;ext;refine⟨by rw[abD,abD,abT];nofun,G _ _ ⟨_,?_,rfl⟩⟩;rw[aba,aad,aad,aa3];rfl
 rintro as ρ ⟨x,rfl,rfl⟩;rw[a9,show ((m:Int)+1).toNat=m+1 by nofun];ext;refine .mk M.nd M.few ?_;ext
 erw [a0]
 ext;refine .mk (f:=f) ⟨M.bk,T n0 (aab ..),λy Q=>?_,by nofun,by nofun⟩ (by nofun) hf Z λa b=>?_
 ·rcases abE.mp (Y y Q) with h|h
  ·exact fX _ (B _ ((abE.mp (abg h)).elim id id))
  ·rw[abF.mp h];exact fX _ hc1
 ext;refine cH (zs:=n0::n1::n2::n3::n4::A) (by rw[H];nofun) ?_;ext;refine⟨lez 4,?_⟩;ext;refine vH (ln:=rr.ln) rfl U hol ?_;ext;exact q b0 b1 b2
inductive dB:Ct
 |mk {b0 b1 b2:Int} (n:Int) {k z:Nat} {s u:Str} {P:Pk} (hs:bZ s) (hu:bZ u) (hz:z<=401) (hb:WellB b1 b2 n) (hn:n<2 ^ 30) (h:∀(t:Str) (b0' b1' b2':Int),t.length=z->fL t->P (.fz (.str t)) [bj b0' b1' b2',.fz (.int k),.fz (av "signs" [s]),.fz (av "signs" [u]),.fz (.int z)]):dB [bj b0 b1 b2,.fz (.int k),.fz (av "signs" [s]),.fz (av "signs" [u]),.fz (.int z)] P
abbrev Bb:Stmt:=top 70
abbrev Kk:FS:=
  (al (bO (ah ag (aa (ab 0) (aa (fC (.int 3)) ae))) (ac 5))
  (al (bO (fOp aIx (hV (aa (fOp aIx (ab 2) (fC (.int 1))) (aa (fOp b6 (fSl aSl (fOp aIx (ab 2) (fC (.int 1))) bM (dJ (fC (.int 1)))) (fSl aSl (fOp aIx (ab 3) (fC (.int 1))) bM (dJ (fC (.int 1))))) (aa (fOp b6 (fSl aSl (fOp aIx (ab 2) (fC (.int 1))) (dJ (K9 (fC (.int 1)))) bM) (ah cz (aa (ab 0) ae))) ae)))) (ab 5)) (ac 6))
  (al (bO (ah dA (aa (ab 0) (aa (fFz (ab 6)) (aa (fFz (ab 4)) ae)))) (ac 7))
  (al (fIf (v7 (au (fOp aEq (ab 1) (fC (.int 2)))) (au (fOp aEq (ab 5) (fC (.int 1)))))
   (bh (fSl aSl (fOp kq (fOp b6 (fOp aIx (fOp aIx (ab 2) (fC (.int 1))) (fC (.int 0))) (fOp aIx (fOp aIx (ab 3) (fC (.int 1))) (K9 (fC (.int 1))))) (ab 4)) bM (dJ (ab 4))))
   aP)
  (al (fIf (v7 (au (fOp aEq (ah ag (aa (ab 0) (aa (fC (.int 2)) ae))) (fC (.int 0)))) (au (fOp (gU (λi j=>decide (j<i)) λi j=>aU j i) (ab 4) (fC (.int 0)))))
   (al (bO (fOp (aIC CMul λi j=>.int (i*j)) (fOp (aIC BK λi j=>.int (i / j)) (ab 4) (fC (.int 2))) (fOp (aIC (λ_ j=>0<j) λi j=>.int (i % j)) (ab 1) (fC (.int 2)))) (ac 8))
  (bh (fSl aSl (fOp b6 (fOp kq (fOp aIx (fOp aIx (ab 2) (fC (.int 1))) (fC (.int 0))) (ab 4)) (fOp kq (fOp aIx (fOp aIx (ab 3) (fC (.int 1))) (fC (.int 0))) (ab 4))) (dJ (ab 8)) (dJ (fOp b6 (ab 8) (ab 4))))))
   aP)
  (bh (ab 7)))))))
theorem Kl:Hh dB Kk [0] 9:=by
 intro os P h;obtain@⟨b0,b1,b2,n,k,z,s,u,_,hs,v,hz,m,hn,q⟩:=h;have sz:=bG;ext;refine aZ n m (by nofun) (by nofun) (by nofun) λr b0 b1 b2 J I m=>?_;have ls:s.length=s.cps.toList.length:=ao s;have lu:u.length=u.cps.toList.length:=ao u;have F:=hs.1;have hs2:=hs.2.1;have p:=v.1;have Z:=v.2.1;have b:∀{y:Str} {lo hi:Option Int},fL y->fL (gv y lo hi):=λh c g=>h c (nS g)
 have f:∀{x y:Str},fL x->fL y->fL (x++y):=λh1 h2 c g=>by
  rw[cZ] at g;exact(abE.mp g).elim (h1 c) (h2 c)
 have j:∀(y:Str) (lo hi:Option Int),(gv y lo hi).length<=y.length:=λy lo hi=>by
  rw[ao,ao y];exact Cu y.cps.toList lo hi
 have hl1:=j s none (some 1);have hl2:=j u none (some 1);have hl3:=j s (some (-1)) none;ext;refine⟨by nofun,?_⟩;ext;refine⟨by nofun,?_⟩;ext;refine⟨by nofun,?_⟩;ext;refine⟨by nofun,?_⟩;ext;refine .mk _ m (by nofun) λc b0 b1 b2 g m=>?_;have tc:fL ⟨#[c]⟩:=λy Y=>by rw[abF.mp (show y∈[c] from Y)];exact fX c g
 ext;refine⟨by show (gv s (some (-1)) none).length+1<=_;nofun,?_⟩;ext;refine⟨lez 3,?_⟩;ext;refine fH J I λd hd=>?_
 obtain⟨y,rfl,Q,y2,O⟩:∃y:Str,d=.str y/\y.cps.toList≠[]/\y.length<=100/\fL y:=by
  have ln:∀{l:List Nat},1<=l.length->l≠[]:=λh e=>by rw[e] at h;exact absurd h (by decide)
  simp only[List.mem_cons,List.not_mem_nil,or_false] at hd;rcases hd with rfl|rfl|rfl
  ·exact⟨s,rfl,ln F,by nofun,hs.2.2.2⟩
  ·refine⟨_,rfl,ln ?_,by rw[ao,cZ,abH,← ao,← ao];nofun,f (b hs.2.2.2) (b v.2.2.2)⟩;rw[cZ,abH];refine aas ?_ (Nat.le_add_right _ _);show 1<=(eC s.cps.toList none (some ((1:Nat):Int))).length;rw[dG,aah];nofun
  ·refine⟨_,rfl,ln ?_,by rw[ao,cZ,abH,← ao,← ao];show _+1<=_;nofun,f (b hs.2.2.2) tc⟩;rw[cZ,abH];exact Nat.le_add_left _ _
 ext;refine .mk _ (cs:=y.cps.toList) (.inl rfl) Q (by rw[← ao];nofun) m (by nofun) (by nofun) λt b0 b1 b2 E D m=>?_;have w:fL t:=λc g=>O c (D c g)
 have one:∀{x:Str} {c:Nat},c∈x.cps.toList->fL x->fL ⟨#[c]⟩:=λh C d hd=>by
  rw[abF.mp (show d∈[_] from hd)];exact C _ h
 have A:∀{x:Str},fL x->fL (cX x z):=λC c g=>by
  rw[fI] at g;obtain⟨l,hl,g⟩:=List.mem_flatten.mp g;rw[List.eq_of_mem_replicate hl] at g;exact C c g
 have o:∀(x:Str) (a:Nat),a+z<=x.length->(gv x (some (a:Int)) (some ((a:Int)+z))).length=z:=λx a h=>by
  rw[show ((a:Int)+z)=((a+z:Nat):Int) by nofun,j3 (z:=gv _ _ _) (show _=eC x.cps.toList _ _ from rfl),ox,aah,aaB,← ao];nofun
 obtain⟨H,M,V⟩:=AC (xs:=s.cps.toList) (i:=0) (by decide) (by nofun);obtain⟨N,e1,U⟩:=AC (xs:=u.cps.toList) (i:=0) (by decide) (by nofun);obtain⟨B,G,L⟩:∃l c,u.cps.toList=l++[c]:=⟨_,_,(List.dropLast_concat_getLast (λh=>by rw[h] at p;exact absurd p (by decide))).symm⟩;have e2:atI u.cps.toList (-1)=some G:=by rw[L];exact jV _ _
 have K:=one V hs.2.2.2;have T:=one U v.2.2.2;have S:=one (x:=u) (c:=G) (by rw[L];simp) v.2.2.2;ext;refine n8 True (λ_=>?_) λrest=>?_
 ·ext;refine eO (λρ=>∃b0 b1 b2:Int,ρ=[some (bj b0 b1 b2),some (.fz (.int k)),some (.fz (av "signs" [s])),some (.fz (av "signs" [u])),some (.fz (.int z)),some (.fz (.int r)),some (.fz (.str y)),some (.fz (.str t)),none]) ?_ λrest=>?_
  ·rintro ρ ⟨b0,b1,b2,rfl⟩;ext;exact q t b0 b1 b2 E w
  ·ext;refine aZ _ m (by nofun) (by nofun) (by nofun) λR b0 b1 b2 J I m=>?_;ext;refine⟨aq,?_⟩;ext;refine am (R=0) aL (λ_=>?_) (λ_=>?_)
   ·ext;refine am ((0:Int)<z) decide_eq_true_iff (λh0=>?_) (λ_=>rest _ ⟨b0,b1,b2,rfl⟩);ext;refine⟨⟨by decide,by decide⟩,?_⟩;ext;refine⟨(by decide:(0:Int)<2),?_⟩;ext;refine⟨by show CMul ((z:Int) / 2) ((k:Int) % 2);unfold CMul;nofun,?_⟩
    obtain⟨a,ea,ha⟩:∃a:Nat,(z:Int) / 2*((k:Int) % 2)=a/\a<=z:=by
     rcases (by nofun:(k:Int) % 2=0∨(k:Int) % 2=1) with h|h
     ·exact⟨0,by rw[h];rfl,aan _⟩
     ·exact⟨z / 2,by rw[h,Int.mul_one];rfl,by nofun⟩
    ext;refine⟨by nofun,?_⟩;rw[M];ext;refine⟨⟨by nofun,(by decide:0<1),by show 1*_<=_;nofun⟩,?_⟩;ext;refine⟨by nofun,?_⟩;rw[e1];ext;refine⟨⟨by nofun,(by decide:0<1),by show 1*_<=_;nofun⟩,?_⟩;have X:(cX (⟨#[H]⟩:Str) z).length=1*z:=(e7 _ _).trans rfl;have W:(cX (⟨#[N]⟩:Str) z).length=1*z:=(e7 _ _).trans rfl;ext;refine⟨by nofun,?_⟩;have B:(cX (⟨#[H]⟩:Str) z++cX (⟨#[N]⟩:Str) z).length=1*z+1*z:=by rw[ao,cZ,abH,← ao,← ao,X,W]
    ext;refine⟨by nofun,?_⟩;ext;refine q _ b0 b1 b2 ?_ (b (f (A K) (A T)));show (gv _ (some ((z:Int) / 2*((k:Int) % 2))) (some ((z:Int) / 2*((k:Int) % 2)+z))).length=z;rw[ea];exact o _ a (by nofun)
   ·refine dI ?_;exact rest _ ⟨b0,b1,b2,rfl⟩
 ·ext;refine⟨aq,?_⟩;ext;refine am ((k:Int)=2) aL (λ_=>?_) (λ_=>?_)
  ·ext;refine⟨aq,?_⟩;ext;refine am (r=1) aL (λ_=>?_) (λ_=>rest trivial);ext;refine⟨by nofun,?_⟩;rw[M];ext;refine⟨by nofun,?_⟩;rw[e2];ext;refine⟨(by decide:1+1<=sizeLine),?_⟩;ext;refine⟨⟨by nofun,(by decide:0<2),by show 2*_<=_;nofun⟩,?_⟩;have B:(cX ((⟨#[H]⟩:Str)++⟨#[G]⟩) z).length=2*z:=(e7 _ _).trans rfl;ext;refine⟨by nofun,?_⟩;ext;refine q _ b0 b1 b2 ?_ (b (A (f K S)));rw[j3 (z:=gv _ _ _) (show _=eC _ none (some (z:Int)) from rfl),dG,aah,← ao,B];nofun
  ·refine dI ?_;exact rest trivial
inductive dC:Ct
 |mk {z:Int} {k:Nat} {P:Pk} (hk:k<=100) (h:P (.fz (.bl true)) [.fz (.int z),.fz (.int k)]):dC [.fz (.int z),.fz (.int k)] P
abbrev Bc:Stmt:=top 71
abbrev Km:FS:=
  (al (b7 2 (ah dq (aa (fFz (ab 0)) (aa (fFz (ab 1)) ae))))
  (al (bO (ah ag (aa (ab 2) (aa (fC (.int 6)) ae))) (ac 3))
  (al (fIf (au (fOp aEq (ab 3) (fC (.int 5))))
   (bh (ah cu (aa (ab 2) ae)))
   aP)
  (al (bO (ah cb (aa (ab 2) (aa (fFz (fOp aIx (hV (aa (fC (.int 6)) (aa (fC (.int 30)) ae))) (fCB Mr (aa (fOp aEq (ab 3) (fC (.int 4))) ae)))) ae))) (ac 4))
  (al (bO (ah bA (aa (ab 2) ae)) (ac 5))
  (al (bO (ah bA (aa (ab 2) ae)) (ac 6))
  (al (bO (ah ag (aa (ab 2) (aa (fFz (fOp aIx (hV (aa (fC (.int 20)) (aa (fC (.int 401)) ae))) (ah ag (aa (ab 2) (aa (fC (.int 2)) ae))))) ae))) (ac 7))
  (al (bO (fOp (aIC CMul λi j=>.int (i*j)) (ah ag (aa (ab 2) (aa (fFz (fOp b6 (ab 7) (fC (.int 1)))) ae))) (ah ag (aa (ab 2) (aa (fC (.int 2)) ae)))) (ac 8))
  (al (bO (ah dB (aa (ab 2) (aa (fFz (ab 3)) (aa (fFz (ab 5)) (aa (fFz (ab 6)) (aa (fFz (ab 7)) ae)))))) (ac 9))
  (al (fIf (au (fOp aEq (ab 3) (fC (.int 0))))
   (qI 10 11 (ah cr (aa (fFz (ab 4)) (aa (fFz (ab 9)) (aa (fFz (ab 8)) (aa (fFz (ab 5)) ae))))))
   (fIf (au (fOp aEq (ab 3) (fC (.int 1))))
   (qI 10 11 (ah eU (aa (fFz (ab 4)) (aa (fFz (ab 9)) (aa (fFz (ab 8)) ae)))))
   (fIf (au (fOp aEq (ab 3) (fC (.int 2))))
   (qI 10 11 (ah cS (aa (fFz (ab 4)) (aa (fFz (ab 9)) (aa (fFz (ab 8)) (aa (fFz (ab 5)) (aa (fFz (ab 6)) ae)))))))
   (fIf (au (fOp aEq (ab 3) (fC (.int 3))))
   (qI 10 11 (ah cR (aa (fFz (ab 4)) (aa (fFz (ab 9)) (aa (fFz (ab 8)) (aa (fFz (ab 5)) ae))))))
   (qI 10 11 (ah cT (aa (fFz (ab 4)) (aa (fFz (ab 9)) (aa (fFz (ab 8)) (aa (fFz (ab 5)) ae))))))))))
  (bh (ah ca (aa (fFz (ah dm (aa (fFz (ah bT (aa (ab 10) ae))) (aa (fFz (fOp aIx (ab 4) (fC (.int 0)))) (aa (fFz (ab 9)) (aa (fFz (ab 8)) ae)))))) (aa (fFz (ab 11)) ae))))))))))))))
theorem Kn:Hh dC Km [] 12:=by
 intro os P h;obtain@⟨z,k,_,T,q⟩:=h;have sz:=bG;ext;refine .mk T λb0 b1 b2 _ e=>?_;ext;refine aZ _ e (by decide) (by decide) (by decide) λkd b0 b1 b2 L k1 e=>?_;obtain⟨kind,rfl⟩:=aaY L;ext;refine n8 (kind≠5) (λh5=>?_) λrest=>?_
 rotate_left
 ·ext;refine⟨aq,?_⟩;ext;refine am ((kind:Int)=5) aL (λ_=>?_) (λ_=>rest (by nofun));ext;refine .mk _ e (by decide) λb0 b1 b2=>?_;ext;exact q
 ext;refine⟨lez 2,?_⟩;ext;refine⟨aq,?_⟩;ext
 obtain⟨m,V,y,G⟩:∃m:Nat,atI [D.int 6,D.int 30] (if dEq (D.int kind) (D.int 4)=true then 1 else 0)=some (.int m)/\(kind≠4->m=6)/\(kind=4->m=30):=by
  by_cases h:kind=4
  ·exact⟨30,by rw[if_pos (aL.mpr (by nofun))];rfl,λz=>absurd h z,λ_=>rfl⟩
  ·exact⟨6,by rw[if_neg λz=>h (by have:=aL.mp z;nofun)];rfl,λ_=>rfl,λz=>absurd z h⟩
 rw[V];ext;refine .mk _ e (by decide) (by nofun) λns b0 b1 b2 F E o e=>?_;ext;refine pb e (by nofun) λs b0 b1 b2 hs e=>?_;ext;refine pb e (by nofun) λu b0 b1 b2 H e=>?_;ext;refine⟨lez 2,?_⟩;ext;refine aZ _ e (by nofun) (by decide) (by decide) λr b0 b1 b2 K J e=>?_;ext;refine fH K J λd hd=>?_
 obtain⟨w,rfl,R,Q⟩:∃w:Nat,d=.int w/\0<w/\w<=401:=by
  simp only[List.mem_cons,List.not_mem_nil,or_false] at hd;rcases hd with rfl|rfl
  ·exact⟨20,rfl,by decide,by decide⟩
  ·exact⟨401,rfl,by decide,by decide⟩
 ext;refine aZ _ e (by nofun) (by nofun) (by nofun) λv b0 b1 b2 v0 v1 e=>?_;obtain⟨g,rfl⟩:=aaY v0;ext;refine aZ _ e (by nofun) (by nofun) (by nofun) λv b0 b1 b2 p0 Z e=>?_;ext;refine aZ _ e (by nofun) (by nofun) (by nofun) λw b0 b1 b2 Y X e=>?_;ext;refine⟨by unfold CMul;nofun,?_⟩
 obtain⟨p,ep,hp⟩:∃p:Nat,v*w=p/\p<=g:=by
  rcases (by nofun:w=0∨w=1) with rfl|rfl
  ·exact⟨0,Int.mul_zero _,aan _⟩
  ·exact⟨v.toNat,by rw[Int.mul_one];nofun,by nofun⟩
 generalize O:(λi j:Int=>D.int (i*j)) v w=x;obtain rfl:x=.int p:=O.symm.trans (congrArg D.int ep);ext;refine .mk _ hs H (by nofun) e (by nofun) λt b0 b1 b2 S A=>?_;have N:NamesOk ns m t p:=⟨F,E,o,by nofun,by nofun⟩;ext;refine eO (λρ=>∃(rows:List Rw) (c:D),MakeOk rows t (ns.headD "") p c/\ρ=[some (.fz (.int z)),some (.fz (.int k)),some (bj b0 b1 b2),some (.fz (.int kind)),some (.fz (.lst (ns.map .str))),some (.fz (av "signs" [s])),some (.fz (av "signs" [u])),some (.fz (.int g)),some (.fz (.int p)),some (.fz (.str t)),some (bS rows),some (.fz c)]) ?_ λrest=>?_
 ·rintro ρ ⟨rows,c,M,rfl⟩;obtain⟨f,I,U,B,C,rfl⟩:=M.rd
  obtain⟨n0,n,rfl⟩:∃n0 n,ns=n0::n:=by
   match ns,(show ns.length=(m - 1)+1 by nofun) with
   |a::l,_=>exact⟨a,l,rfl⟩
  have W:atI ((n0::n).map D.str) 0=some (.str n0):=HP;ext;refine .mk M.nd M.few ?_;ext
  erw [W]
  ext;refine .mk (f:=f) ⟨M.bk,o n0 (aab ..),A,by nofun,by nofun⟩ (by nofun) U B λa b=>?_;ext;refine vH (ln:=I.ln) rfl rfl C ?_;ext;exact q
 ext;refine⟨aq,?_⟩;ext;refine am ((kind:Int)=0) aL (λh=>?_) (λ_=>?_)
 ·rw[y (by nofun)] at N;ext;exact .mk hs N λrows c a M=>rest _ ⟨rows,c,M,rfl⟩
 ext;refine aB ?_;ext;refine⟨aq,?_⟩;ext;refine am ((kind:Int)=1) aL (λh=>?_) (λ_=>?_)
 ·rw[y (by nofun)] at N;ext;exact .mk N λrows c a M=>rest _ ⟨rows,c,M,rfl⟩
 ext;refine aB ?_;ext;refine⟨aq,?_⟩;ext;refine am ((kind:Int)=2) aL (λh=>?_) (λ_=>?_)
 ·rw[y (by nofun)] at N;ext;exact .mk hs H N λrows c a M=>rest _ ⟨rows,c,M,rfl⟩
 ext;refine aB ?_;ext;refine⟨aq,?_⟩;ext;refine am ((kind:Int)=3) aL (λh=>?_) (λ_=>?_)
 ·rw[y (by nofun)] at N;ext;exact .mk hs N λrows c a M=>rest _ ⟨rows,c,M,rfl⟩
 rw[G (by nofun)] at N;ext;exact .mk hs N λrows c a M=>rest _ ⟨rows,c,M,rfl⟩
@[irreducible] def rc:Ct:=λos P=>∃ns:List Int,os=[.fz (.lst (ns.map .int))]/\ns.length<=63/\P (.fz (.bl true)) os
abbrev Ko:Stmt:=top 72
abbrev MM:FS:=
  (al (qq (cW (aa (fCB Ma (aa (fC (.int 1)) (aa (fCB Ng (aa (fC (.int 2)) (aa (fCB et (aa (ab 0) ae)) ae))) ae))) ae)) (ac 1)
   (fIf (mE (fW (ah dC (aa (fFz (ah bm (aa (fFz (ab 0)) (aa (fFz (ab 1)) ae)))) (aa (fFz (ab 1)) ae)))))
   (bh (fC (.bl false)))
   aP))
  (bh (fC (.bl true))))
theorem MN:Hh rc MM [] 2:=by
 intro os P h;unfold rc at h;obtain⟨ns,rfl,f,q⟩:=h;ext;rw[abD];refine⟨⟨?_,?_⟩,?_⟩
 ·split <;> split <;> nofun
 ·split <;> split <;> nofun
 ext;refine bL (λi ρ=>∃a:Option OV,ρ=[some (.fz (.lst (ns.map .int))),a]) ⟨none,rfl⟩ ?_ ?_
 ·rintro i d ρ R hd ⟨a,rfl⟩ b;obtain⟨hi,rfl⟩:=aQ hd;have e:i<=40:=by split at hi <;> split at hi <;> nofun
  ext;refine aB ?_;ext;rw[aa3];refine Fg λc=>?_;ext;refine .mk (by nofun) ?_;ext;refine dI ?_;exact b _ ⟨_,rfl⟩
 ·rintro ρ ⟨a,rfl⟩;ext;exact q
end KR
open PySem L2
local macro_rules|`(tactic|walk_at "f1") => `(tactic|(repeat' (first
  |(with_reducible first|exact Ni (by decide)|apply HW|apply HX|apply LZ|apply tp|apply Ic|apply Im|apply Ip|exact gf_n (by decide)|apply tj|apply IL|apply IP|apply IM|apply DO|apply DJ|apply yD|apply yB|apply DN|apply IN|apply tL|apply DK|apply xJ|apply DL|apply DM|apply DX|apply xW|apply qL|apply L3|apply yc|apply L5|exact Mi (by decide)|apply LX|apply HY|apply LY|apply Dk|apply Dl|apply L0|apply xw|apply Ie|apply Ig|apply L4|apply IQ|apply Mb|apply IT|apply IU|apply xS|apply DP|apply Jp|apply xO|apply DZ|apply IR|apply IS|apply IW|apply kh|apply Mh|apply Do|apply Dp|apply L6|apply Io|apply Dv|apply Dt|apply El|apply Dw|apply Dx|apply Iq|apply xF|apply xE|apply Du|apply xG|apply Dz|apply ya|apply tf_B|apply HZ|apply H0|apply L1|apply Ia|apply Ib|exact gf_c (by decide) (by decide)|apply Ii|apply Dq|apply xx|apply xB|apply Dr|apply Ds|apply xC|apply xD|apply Mj|apply Ml|apply DS|apply DR|apply mX|apply xV|apply Dn|apply IX)|(show ClsF _ _ _;assumption)|(with_reducible first|apply Ey|apply yt|apply Ep|apply yu|apply yv|apply Eg|apply Ec|apply ye|apply Ed|apply Ei|apply yw|apply ul|apply yx|apply yk|apply En|apply Eo|apply yM|apply EI|apply Jq|apply yo|apply yp|apply yq|apply Ex|apply yr|apply ED|apply yL|apply EH|exact Mm rfl)|exact rfl
  |(with_reducible first|exact xT (by decide)|exact Md (by decide))|(show Program;exact Zz.P (by assumption))|(show World;exact Zz.w (by assumption))|decide)))
local macro_rules|`(tactic|walk_at "f2") => `(tactic|(repeat' (first
  |(with_reducible first|exact Ar|exact Au|apply Aq|apply xg|apply CS|apply CQ|apply wa_c|apply Hr|apply Iz)|exact rfl|exact Or.inl rfl|exact Or.inr rfl|exact Or.inr (Or.inl rfl)|assumption
  |(with_reducible first|apply LR|apply Hm|apply Hs)|((with_reducible apply Mp);exact rfl)|(with_reducible first|apply D4|apply HB|apply HC|apply LW|apply HA|apply CT|apply HD|apply xi|apply CU|apply xh|apply mR|apply De|apply x9)|exact Room.units (by assumption)|exact LJ (by assumption)|exact Room.gd (by assumption)|exact Room.mono (by assumption) (by decide)|exact fun _=>rfl|exact fun _ _=>rfl|exact nomarkB (by decide) (by decide)
  |(with_reducible first|apply Hn|apply yd|apply LP|apply Hg|apply Hl|apply Hk|apply Hj|apply LS|apply wY|apply xc|apply Ho|apply Hq|apply xa|apply tY|apply CG|apply CH|apply CC|apply HE|apply HF|apply xI|apply CV|apply yz|apply yy|apply DC|apply DD|apply DE|apply DF|apply DB|apply qv|apply CW|apply xj|apply CY|apply CZ|apply C5|apply xk|apply jJ|apply qK|apply HH|apply IF|apply HK|apply HL|apply xR|apply Dd|exact Jo|apply xq|apply xX|apply HI|apply HJ|apply II|apply HN)|exact Or.inl ⟨_,rfl⟩|exact Or.inr ⟨_,rfl⟩
  |(with_reducible first|apply Ht|apply CK|apply Hu|apply Hv|apply LU|apply CL|apply CM|apply CN|apply Hw|apply CO|apply xf|apply Hx)|exact PassesOwn.never
  |(with_reducible first|apply sI|apply sJ|apply CP|apply Hy|apply Hz|apply D3|apply CI|apply CJ|apply Mo)|exact CompScope.of rfl rfl rfl|(intro C s H fp)|exact Mn rfl
  |(with_reducible first|apply CB|apply w9|exact PySem.F.plainAttrs_list|exact PySem.F.plainAttrs_str|exact PySem.F.slot_list_append|exact PySem.F.type_list_append|apply sK|exact PySem.F.slot_str_join|exact PySem.F.type_str_join|apply C6|exact PySem.F.slot_list_extend|exact PySem.F.type_list_extend|exact PySem.F.slot_list_reverse|exact PySem.F.type_list_reverse|exact PySem.F.slot_list_index|exact PySem.F.type_list_index|exact PySem.F.slot_list_remove|exact PySem.F.type_list_remove|exact PySem.F.slot_str_split|exact PySem.F.type_str_split|exact PySem.F.slot_str_partition|exact PySem.F.type_str_partition|exact PySem.F.slot_str_find|exact PySem.F.type_str_find|exact PySem.F.slot_str_upper|exact PySem.F.type_str_upper|apply Je|apply Jf|apply Jg|apply Jh|apply Er|apply Mq|apply Ji)|exact ClsF.cl (by assumption)|exact ⟨_,rfl⟩|(with_reducible first|apply yl|apply Es|apply sH|apply yn|apply yJ|exact PySem.F.plainAttrs_dict|exact PySem.F.slot_dict_update|exact PySem.F.type_dict_update|exact uq|exact PySem.F.slot_list_pop|exact PySem.F.type_list_pop|apply Jj|exact PySem.F.slot_list_clear|exact PySem.F.type_list_clear|apply LQ|apply Av|apply Hi|apply DI|apply DT|apply Av|apply wt_w|apply sH)|apply xb|apply CD|exact Au|exact Ar|exact ⟨rfl,rfl,rfl,rfl⟩|decide|decide +kernel)))
local macro_rules|`(tactic|walk_at "bd") => `(tactic|(intro cdv A outer s H E T nd hr;cases T;apply Exists.intro;apply And.intro;(focus walk_at "f1");(focus ((conv => (arg 2;whnf));walk_at "f2"))))
local macro_rules|`(tactic|walk_at "bn") => `(tactic|(intro _ _ _ _ _ _;first|exact us_1 λ_ => rfl|exact us_2 λ_ _ => rfl|exact us_3 λ_ _ _ => rfl|exact us_4 λ_ _ _ _ => rfl|exact us_5 λ_ _ _ _ _ => rfl|exact us_0 rfl))
local macro_rules|`(tactic|walk_at "o") => `(tactic|((focus walk_at "bn");(focus exact⟨rfl,rfl,rfl,by decide +kernel,rfl,by decide +kernel,by decide +kernel⟩);walk_at "bd"))
local macro_rules|`(tactic|walk_at "ol") => `(tactic|((focus exact⟨rfl,rfl,rfl,by decide +kernel,rfl,by decide +kernel,by decide +kernel⟩);walk_at "bd"))
local macro_rules|`(tactic|walk_at "l") => `(tactic|(repeat (obtain⟨x,h⟩ := h)))
namespace KR
section
variable {Z:Zz} {f C:Addr} {fd:FuncData} (t:TopZ Z (Txt Z.K Z.mg)) (hC:ClsF Z.K 0 C)
include t hC
abbrev vI(Z:Zz)(C:Addr):Prop:=Jm Z C "Asking" 1 ["self", "form", "name", "place"] aM
abbrev jS(Z:Zz)(C:Addr):Prop:=m6 Z C "end" 1 ["self", "length"] az
abbrev gk(Z:Zz)(C:Addr):Prop:=m6 Z C "wanted" 1 ["self"] aW
abbrev Bd(Z:Zz)(C:Addr):Prop:=m6 Z C "take_in_row" 2 ["self", "length"] aS
abbrev px(Z:Zz)(C:Addr):Prop:=m6 Z C "take_in_first" 2 ["self", "length"] aH
abbrev pz(Z:Zz)(C:Addr):Prop:=m6 Z C "take_in_again" 2 ["self", "length"] aJ
abbrev ny(Z:Zz)(C:Addr):Prop:=m6 Z C "take" 3 ["self", "length"] bF
theorem FD(D:DfM Z.K C "__init__" "Asking.__init__" uu f fd)(a:PySem.W.nsIn Z.K mainGlobals "Asking" = some (some (.ref C)))(mk:PySem.W.makesIn Z.K C=true)(b:PySem.W.keepIn Z.K (.ref C)=true):vI Z C:=by
 refine Ez t D a mk b (ko ["self", "form", "name", "place"] t D.fn (by delta aM) EL ?_ ?_) ?_
 rotate_right
 (focus walk_at "bn")
 walk_at "ol"
theorem Kq(D:DfM Z.K C "end" "Asking.end" AJ f fd):jS Z C:=by
 refine gz D (ko ["self", "length"] t D.fn (by delta az) Js ?_ ?_) ?_
 rotate_right
 (focus walk_at "bn")
 walk_at "ol"
theorem vJ(D:DfM Z.K C "wanted" "Asking.wanted" lT f fd):gk Z C:=by
 refine gz D (ko ["self"] t D.fn (by delta aW) uC ?_ ?_) ?_
 rotate_right
 (focus walk_at "bn")
 walk_at "ol"
theorem Kr(D:DfM Z.K C "take_in_row" "Asking.take_in_row" AL f fd)(_:jS Z C):Bd Z C:=by
 refine gz D (ko ["self", "length"] t D.fn (by delta aS) Ju ?_ ?_) ?_
 rotate_right
 (focus walk_at "bn")
 walk_at "ol"
theorem zS(D:DfM Z.K C "take_in_first" "Asking.take_in_first" oK f fd)(_:jS Z C):px Z C:=by
 refine gz D (ko ["self", "length"] t D.fn (by delta aH) yU ?_ ?_) ?_
 rotate_right
 (focus walk_at "bn")
 walk_at "ol"
theorem zT(D:DfM Z.K C "take_in_again" "Asking.take_in_again" oM f fd)(_:jS Z C):pz Z C:=by
 refine gz D (ko ["self", "length"] t D.fn (by delta aJ) yV ?_ ?_) ?_
 rotate_right
 (focus walk_at "bn")
 walk_at "ol"
theorem FF(D:DfM Z.K C "take" "Asking.take" uB f fd)(_:gk Z C)(_:jS Z C)(_:Bd Z C)(_:px Z C)(_:pz Z C):ny Z C:=by
 refine gz D (ko ["self", "length", "word"] t D.fn (by delta bF) EV ?_ ?_) ?_
 rotate_right
 (focus walk_at "bn")
 walk_at "ol"
abbrev pA(Z:Zz):Prop:=cv Z "length_alone" 1 ["form", "text", "place"] bH
theorem zU(D:Df Z.K "length_alone" oI f fd):pA Z:=by
 refine ar ["form", "text", "place"] t D (by delta bH) yQ ?_ ?_ ?_;walk_at "o"
abbrev kO(Z:Zz):Prop:=cv Z "parts_of" 1 ["form"] bE
theorem FH(D:Df Z.K "parts_of" uw f fd):kO Z:=by
 refine ar ["form"] t D (by delta bE) EQ ?_ ?_ ?_;walk_at "o"
abbrev nB(Z:Zz):Prop:=cv Z "begun" 3 ["rules", "text", "name", "place"] dP
theorem FJ(D:Df Z.K "begun" uz f fd)(_:vI Z C)(_:jS Z C)(_:kO Z)(_:pA Z):nB Z:=by
 refine ar ["rules", "text", "name", "place", "form", "asking"] t D (by delta dP) ES ?_ ?_ ?_;walk_at "o"
abbrev vK(Z:Zz):Prop:=cv Z "found" 1 ["asking", "kept"] fK
theorem FK(D:Df Z.K "found" uG f fd):vK Z:=by
 refine ar ["asking", "kept", "farthest", "leans", "step", "length", "reach", "leaned"] t D (by delta fK) EZ ?_ ?_ ?_;walk_at "o"
abbrev Be(Z:Zz):Prop:=cv Z "make" 4 ["rules", "text", "kept", "name", "place"] iT
theorem Ks(D:Df Z.K "make" AR f fd)(_:gk Z C)(_:ny Z C)(_:nB Z)(_:vK Z):Be Z:=by
 refine ar ["rules", "text", "kept", "name", "place", "new", "under_way", "asking", "wanted"] t D (by delta iT) Jz ?_ ?_ ?_;walk_at "o"
abbrev ig(Z:Zz):Prop:=cv Z "is_name" 1 ["thing"] ck
theorem zV(D:Df Z.K "is_name" oP f fd):ig Z:=by
 refine ar ["thing"] t D (by delta ck) y9 ?_ ?_ ?_;walk_at "o"
abbrev pB(Z:Zz):Prop:=cv Z "is_sign" 1 ["sign"] eQ
theorem zW(D:Df Z.K "is_sign" oQ f fd):pB Z:=by
 refine ar ["sign"] t D (by delta eQ) zb ?_ ?_ ?_;walk_at "o"
abbrev kP(Z:Zz):Prop:=cv Z "is_text" 2 ["thing"] dh
theorem zX(D:Df Z.K "is_text" oR f fd)(_:pB Z):kP Z:=by
 refine ar ["thing"] t D (by delta dh) zd ?_ ?_ ?_;walk_at "o"
abbrev pD(Z:Zz):Prop:=cv Z "are_rising_signs" 3 ["thing"] bd
theorem zY(D:Df Z.K "are_rising_signs" oS f fd)(_:kP Z):pD Z:=by
 refine ar ["thing"] t D (by delta bd) zf ?_ ?_ ?_;walk_at "o"
abbrev pE(Z:Zz):Prop:=cv Z "is_form" 4 ["thing"] eR
theorem zZ(D:Df Z.K "is_form" oT f fd)(_:pD Z)(_:ig Z):pE Z:=by
 refine ar ["thing", "word"] t D (by delta eR) zi ?_ ?_ ?_;walk_at "o"
abbrev pF(Z:Zz):Prop:=cv Z "is_rule" 5 ["thing"] eS
theorem Aa(D:Df Z.K "is_rule" oU f fd)(_:ig Z)(_:pE Z):pF Z:=by
 refine ar ["thing"] t D (by delta eS) zk ?_ ?_ ?_;walk_at "o"
abbrev vL(Z:Zz):Prop:=cv Z "names_rise" 1 ["rows"] cn
theorem FL(D:Df Z.K "names_rise" uU f fd):vL Z:=by
 refine ar ["rows"] t D (by delta cn) E5 ?_ ?_ ?_;walk_at "o"
abbrev pG(Z:Zz):Prop:=cv Z "is_book" 6 ["thing"] eT
theorem Ab(D:Df Z.K "is_book" oV f fd)(_:pF Z)(_:vL Z):pG Z:=by
 refine ar ["thing"] t D (by delta eT) zn ?_ ?_ ?_;walk_at "o"
abbrev Kt(Z:Zz):Prop:=cv Z "may_be_empty" 2 ["form", "empty"] bI
theorem MO(D:Df Z.K "may_be_empty" JF f fd)(_:kO Z):Kt Z:=by
 refine ar ["form", "empty"] t D (by delta bI) MA ?_ ?_ ?_;walk_at "o"
abbrev pH(Z:Zz):Prop:=cv Z "empty_names" 3 ["book"] bi
theorem Ac(D:Df Z.K "empty_names" oX f fd)(_:Kt Z):pH Z:=by
 refine ar ["book", "empty", "grows", "name", "form"] t D (by delta bi) zp ?_ ?_ ?_;walk_at "o"
abbrev Bf(Z:Zz):Prop:=cv Z "begins_of_row" 1 ["parts", "empty"] bz
theorem Ku(D:Df Z.K "begins_of_row" AU f fd):Bf Z:=by
 refine ar ["parts", "empty", "begun", "part"] t D (by delta bz) JH ?_ ?_ ?_;walk_at "o"
abbrev vM(Z:Zz):Prop:=cv Z "begins_of_form" 2 ["form", "empty"] bn
theorem FM(D:Df Z.K "begins_of_form" uY f fd)(_:kO Z)(_:Bf Z):vM Z:=by
 refine ar ["form", "empty"] t D (by delta bn) E9 ?_ ?_ ?_;walk_at "o"
abbrev vN(Z:Zz):Prop:=cv Z "steps_of" 4 ["book"] di
theorem FN(D:Df Z.K "steps_of" uZ f fd)(_:pH Z)(_:vM Z):vN Z:=by
 refine ar ["book", "empty", "steps", "name", "form"] t D (by delta di) Fc ?_ ?_ ?_;walk_at "o"
abbrev pJ(Z:Zz):Prop:=cv Z "steps_within" 1 ["steps", "name", "left"] aV
theorem Ad(D:Df Z.K "steps_within" o6 f fd):pJ Z:=by
 refine ar ["steps", "name", "left"] t D zu zv ?_ ?_ ?_;walk_at "o"
abbrev mv(Z:Zz):Prop:=cv Z "endless_rules" 5 ["steps"] aX
theorem vO(D:Df Z.K "endless_rules" mf f fd)(_:pJ Z):mv Z:=by
 refine ar ["steps", "left", "shrinks", "ended", "name"] t D (by delta aX) vc ?_ ?_ ?_;walk_at "o"
abbrev Bg(Z:Zz):Prop:=cv Z "loop" 6 ["book"] l9
theorem Kv(D:Df Z.K "loop" AW f fd)(_:vN Z)(_:mv Z):Bg Z:=by
 refine ar ["book", "steps", "left", "walked", "name"] t D (by delta l9) JK ?_ ?_ ?_;walk_at "o"
abbrev Bh(Z:Zz):Prop:=cv Z "asked_anew" 4 ["rules", "text", "kept", "name", "place"] bx
theorem Kw(D:Df Z.K "asked_anew" AS f fd)(_:gk Z C)(_:ny Z C)(_:nB Z):Bh Z:=by
 refine ar ["rules", "text", "kept", "name", "place", "asking"] t D (by delta bx) JB ?_ ?_ ?_;walk_at "o"
abbrev mx(Z:Zz):Prop:=cv Z "asked_of" 5 ["rules", "text", "kept", "name", "place"] b9
theorem vP(D:Df Z.K "asked_of" l5 f fd)(_:Bh Z):mx Z:=by
 refine ar ["rules", "text", "kept", "name", "place", "asked", "step"] t D (by delta b9) uL ?_ ?_ ?_;walk_at "o"
abbrev my(Z:Zz):Prop:=cv Z "is_whole" 1 ["thing"] de
theorem vQ(D:Df Z.K "is_whole" l6 f fd):my Z:=by
 refine ar ["thing"] t D (by delta de) uN ?_ ?_ ?_;walk_at "o"
abbrev mz(Z:Zz):Prop:=cv Z "is_place" 2 ["text", "thing"] dg
theorem vR(D:Df Z.K "is_place" l7 f fd)(_:my Z):mz Z:=by
 refine ar ["text", "thing"] t D (by delta dg) uP ?_ ?_ ?_;walk_at "o"
abbrev Kx(Z:Zz):Prop:=cv Z "refuse_wrong_book" 7 ["book"] aY
theorem MP(D:Df Z.K "refuse_wrong_book" JL f fd)(_:pG Z)(_:Bg Z):Kx Z:=by
 refine ar ["book"] t D (by delta aY) MC ?_ ?_ ?_;walk_at "o"
abbrev Nn(Z:Zz):Prop:=cv Z "refuse_wrong" 8 ["book", "name", "text", "place"] bJ
theorem o_rw(D:Df Z.K "refuse_wrong" Nm f fd)(_:Kx Z)(_:ig Z)(_:kP Z)(_:mz Z):Nn Z:=by
 refine ar ["book", "name", "text", "place"] t D (by delta bJ) h_rw ?_ ?_ ?_;walk_at "o"
abbrev vS(Z:Zz):Prop:=cv Z "made_alone" 9 ["book", "name", "text", "place"] cp
theorem FQ(D:Df Z.K "made_alone" vf f fd)(_:Nn Z)(_:Be Z):vS Z:=by
 refine ar ["book", "name", "text", "place", "kept"] t D (by delta cp) Ff ?_ ?_ ?_;walk_at "o"
abbrev jb(Z:Zz):Prop:=cv Z "reading" 10 ["book", "name", "text", "place"] dm
theorem vT(D:Df Z.K "reading" mj f fd)(_:vS Z)(_:mx Z):jb Z:=by
 refine ar ["book", "name", "text", "place", "kept", "length", "reach", "leans"] t D (by delta dm) vh ?_ ?_ ?_;walk_at "o"
abbrev Bi(Z:Zz):Prop:=cv Z "_law_cell_at" 1 ["script", "k"] bm
theorem Ky(D:Df Z.K "_law_cell_at" AX f fd):Bi Z:=by
 refine ar ["script", "k"] t D (by delta bm) JP ?_ ?_ ?_;walk_at "o"
abbrev vU(Z:Zz):Prop:=cv Z "_law_stir" 1 ["seed", "turn"] cy
theorem Kz(D:Df Z.K "_law_stir" AY f fd):vU Z:=by
 refine ar ["seed", "turn", "number"] t D (by delta cy) JR ?_ ?_ ?_;walk_at "o"
abbrev Bj(Z:Zz):Prop:=cv Z "_law_well" 2 ["cell", "k"] dq
theorem KA(D:Df Z.K "_law_well" AZ f fd)(_:vU Z):Bj Z:=by
 refine ar ["cell", "k", "seed"] t D (by delta dq) JT ?_ ?_ ?_;walk_at "o"
abbrev gl(Z:Zz):Prop:=cv Z "_law_draw" 2 ["well", "many"] ag
theorem KB(D:Df Z.K "_law_draw" A6 f fd)(_:vU Z):gl Z:=by
 refine ar ["well", "many", "taken"] t D (by delta ag) JV ?_ ?_ ?_;walk_at "o"
abbrev mD(Z:Zz):Prop:=cv Z "_law_new_name" 3 ["well", "names"] bK
theorem vV(D:Df Z.K "_law_new_name" ml f fd)(_:gl Z):mD Z:=by
 refine ar ["well", "names", "letters", "way", "letter", "name", "old", "at", "some"] t D (by delta bK) vn ?_ ?_ ?_;walk_at "o"
abbrev vW(Z:Zz):Prop:=cv Z "_law_sign" 3 ["well"] cz
theorem KC(D:Df Z.K "_law_sign" A7 f fd)(_:gl Z):vW Z:=by
 refine ar ["well", "signs"] t D (by delta cz) JY ?_ ?_ ?_;walk_at "o"
abbrev vX(Z:Zz):Prop:=cv Z "_law_signs" 4 ["well"] bA
theorem FR(D:Df Z.K "_law_signs" vi f fd)(_:gl Z)(_:vW Z):vX Z:=by
 refine ar ["well", "many"] t D (by delta bA) Fi ?_ ?_ ?_;walk_at "o"
abbrev kQ(Z:Zz):Prop:=cv Z "_law_listed" 1 ["rules"] bT
theorem Ae(D:Df Z.K "_law_listed" pf f fd):kQ Z:=by
 refine ar ["rules"] t D (by delta bT) zF ?_ ?_ ?_;walk_at "o"
abbrev vY(Z:Zz):Prop:=cv Z "_law_told" 1 ["found_v", "due"] ca
theorem KD(D:Df Z.K "_law_told" A9 f fd):vY Z:=by
 refine ar ["found_v", "due", "numbers"] t D (by delta ca) J1 ?_ ?_ ?_;walk_at "o"
abbrev Af(Z:Zz):Prop:=cv Z "_law_run" 1 ["text", "place", "signs"] cO
theorem MQ(D:Df Z.K "_law_run" J2 f fd):Af Z:=by
 refine ar ["text", "place", "signs", "many"] t D (by delta cO) MH ?_ ?_ ?_;walk_at "o"
abbrev nD(Z:Zz):Prop:=cv Z "_law_named" 4 ["well", "many"] cb
theorem FU(D:Df Z.K "_law_named" vo f fd)(_:mD Z):nD Z:=by
 refine ar ["well", "many", "names", "j"] t D (by delta cb) Fp ?_ ?_ ?_;walk_at "o"
abbrev FW(Z:Zz):Prop:=cv Z "_law_few" 3 ["well", "some", "most"] dA
theorem MR(D:Df Z.K "_law_few" Kb f fd)(_:gl Z):FW Z:=by
 refine ar ["well", "some", "most"] t D (by delta dA) MJ ?_ ?_ ?_;walk_at "o"
abbrev vZ(Z:Zz):Prop:=cv Z "_law_other" 3 ["well", "some"] ce
theorem FX(D:Df Z.K "_law_other" vx f fd)(_:gl Z):vZ Z:=by
 refine ar ["well", "some", "signs"] t D (by delta ce) Ft ?_ ?_ ?_;walk_at "o"
abbrev KE(Z:Zz):Prop:=cv Z "_law_all" 1 ["names", "text", "place"] eU
theorem MS(D:Df Z.K "_law_all" Kc f fd):KE Z:=by
 refine ar ["names", "text", "place", "rules", "many"] t D (by delta eU) ML ?_ ?_ ?_;walk_at "o"
abbrev Bk(Z:Zz):Prop:=cv Z "_law_up_to" 1 ["names", "text", "place", "one"] cR
theorem KF(D:Df Z.K "_law_up_to" Ba f fd):Bk Z:=by
 refine ar ["names", "text", "place", "one", "rules", "many", "asked", "leans"] t D (by delta cR) Kf ?_ ?_ ?_;walk_at "o"
abbrev v5(Z:Zz):Prop:=cv Z "_law_pairs" 1 ["names", "text", "place", "one", "other"] cS
theorem FY(D:Df Z.K "_law_pairs" vB f fd):v5 Z:=by
 refine ar ["names", "text", "place", "one", "other", "rules", "at", "asked", "far", "leans"] t D (by delta cS) Fy ?_ ?_ ?_;walk_at "o"
abbrev v6(Z:Zz):Prop:=cv Z "_law_chain" 2 ["names", "text", "place", "one"] cT
theorem FZ(D:Df Z.K "_law_chain" vC f fd)(_:Af Z):v6 Z:=by
 refine ar ["names", "text", "place", "one", "rules", "k", "length"] t D (by delta cT) FC ?_ ?_ ?_;walk_at "o"
abbrev pK(Z:Zz):Prop:=cv Z "_law_tailed" 2 ["names", "text", "place", "one"] cr
theorem Ag(D:Df Z.K "_law_tailed" pv f fd)(_:Af Z):pK Z:=by
 refine ar ["names", "text", "place", "one", "rules", "many", "asked"] t D (by delta cr) zP ?_ ?_ ?_;walk_at "o"
abbrev pL(Z:Zz):Prop:=cv Z "_law_leaves" 11 ["well"] cu
theorem Ah(D:Df Z.K "_law_leaves" pw f fd)(_:gl Z)(_:vZ Z)(_:nD Z)(_:FW Z)(_:Af Z)(_:kQ Z)(_:jb Z)(_:vY Z):pL Z:=by
 refine ar ["well", "some", "j", "other", "names", "rules", "size", "place", "text", "many", "asked"] t D (by delta cu) zR ?_ ?_ ?_;walk_at "o"
abbrev Bl(Z:Zz):Prop:=cv Z "_law_text" 4 ["well", "kind", "one", "other", "size"] dB
theorem KG(D:Df Z.K "_law_text" Bb f fd)(_:gl Z)(_:FW Z)(_:vW Z):Bl Z:=by
 refine ar ["well", "kind", "one", "other", "size", "way", "few", "text", "start"] t D (by delta dB) Kl ?_ ?_ ?_;walk_at "o"
abbrev Bm(Z:Zz):Prop:=cv Z "_law_good" 12 ["cell", "k"] dC
theorem KH(D:Df Z.K "_law_good" Bc f fd)(_:Bj Z)(_:gl Z)(_:pL Z)(_:nD Z)(_:vX Z)(_:Bl Z)(_:pK Z)(_:KE Z)(_:v5 Z)(_:Bk Z)(_:v6 Z)(_:kQ Z)(_:jb Z)(_:vY Z):Bm Z:=by
 refine ar ["cell", "k", "well", "kind", "names", "one", "other", "size", "place", "text", "rules", "due"] t D (by delta dC) Kn ?_ ?_ ?_;walk_at "o"
theorem o_law(D:Df Z.K "law" Ko f fd)(_:Bi Z)(_:Bm Z):FnOk Z.P Z.w Z.K Z.mg Z.base CX0 13 f fd ["script"] (spM Z.K rc):=by
 refine ko ["script", "k"] t D.fn (by delta rc) MN ?_ ?_;walk_at "ol"
end
end KR
open PySem L2
namespace KR
def Ai(K:Frag):Sp:=λvs H Q _=>∃(a:Addr) (ns:List Int),vs=[.ref a]/\SqL K H a (ns.map V.int)/\ns.length<=63/\∀H',Q (.bl true) H'
variable{q:Program}{loose:List Str}{XP:(Str->Option Value)->Heap->Prop}
theorem KI{K:Frag}(vs:List V)(H:Hp)(Q:VK)(E:XK)(h:Ai K vs H Q E):spM K rc vs H Q E:=by
 obtain⟨a,ns,rfl,g,f,q⟩:=h;refine⟨H,λ_=>none,[.fz (.lst (ns.map .int))],[],λo _=>o=.fz (.bl true),Same.refl H,SameN.none,λ_ _ _=>rfl,.cons (.fz (.lst g (Dens.ints ns))) .nil,abS,(λ_ z=>nomatch z),?_,λo c v F' H' i B e _ _ _ _ _ b _ _=>?_⟩
 ·unfold rc;exact⟨ns,rfl,f,rfl⟩
 ·subst e
  cases b with
  |fz d=>rw [d.bl_eq];exact q H'
theorem all_mk{l:PySem.W.OpenLaw}{w:World}{K:Frag}{h:Heap}{mg:Str->Option Value}{fa f0 f1 f2 f3 f4 f5 f6 f7 f8 f9 f10 f11 f12 f13 f14 f15 f16 f17 f18 f19 f20 f21 f22 f23 f24 f25 f26 f27 f28 f29 f30 f31 f32 f33 f34 f35 f36 f37 f38 f39 f40 f41 f42 f43 f44 f45 f46 f47 f48 f49 f50:Addr}{u0 u1 u2 u3 u4 u5 u6 u7 u8 u9 u10 u11 u12 u13 u14 u15 u16 u17 u18 u19 u20 u21 u22 u23 u24 u25 u26 u27 u28 u29 u30 u31 u32 u33 u34 u35 u36 u37 u38 u39 u40 u41 u42 u43 u44 u45 u46 u47 u48 u49 u50:FuncData}{C fi fm0 fm1 fm2 fm3 fm4 fm5:Addr}{ui um0 um1 um2 um3 um4 um5:FuncData}(X:K.In h)(G:h.Ns mainGlobals mg)(hfa:mg "law" = some (.ref fa))
  (d0:Df K "length_alone" oI f0 u0)
  (d1:Df K "parts_of" uw f1 u1)
  (d2:Df K "begun" uz f2 u2)
  (d3:Df K "found" uG f3 u3)
  (d4:Df K "make" AR f4 u4)
  (d5:Df K "is_name" oP f5 u5)
  (d6:Df K "is_sign" oQ f6 u6)
  (d7:Df K "is_text" oR f7 u7)
  (d8:Df K "are_rising_signs" oS f8 u8)
  (d9:Df K "is_form" oT f9 u9)
  (d10:Df K "is_rule" oU f10 u10)
  (d11:Df K "names_rise" uU f11 u11)
  (d12:Df K "is_book" oV f12 u12)
  (d13:Df K "may_be_empty" JF f13 u13)
  (d14:Df K "empty_names" oX f14 u14)
  (d15:Df K "begins_of_row" AU f15 u15)
  (d16:Df K "begins_of_form" uY f16 u16)
  (d17:Df K "steps_of" uZ f17 u17)
  (d18:Df K "steps_within" o6 f18 u18)
  (d19:Df K "endless_rules" mf f19 u19)
  (d20:Df K "loop" AW f20 u20)
  (d21:Df K "asked_anew" AS f21 u21)
  (d22:Df K "asked_of" l5 f22 u22)
  (d23:Df K "is_whole" l6 f23 u23)
  (d24:Df K "is_place" l7 f24 u24)
  (d25:Df K "refuse_wrong_book" JL f25 u25)
  (d26:Df K "refuse_wrong" Nm f26 u26)
  (d27:Df K "made_alone" vf f27 u27)
  (d28:Df K "reading" mj f28 u28)
  (d29:Df K "_law_cell_at" AX f29 u29)
  (d30:Df K "_law_stir" AY f30 u30)
  (d31:Df K "_law_well" AZ f31 u31)
  (d32:Df K "_law_draw" A6 f32 u32)
  (d33:Df K "_law_new_name" ml f33 u33)
  (d34:Df K "_law_sign" A7 f34 u34)
  (d35:Df K "_law_signs" vi f35 u35)
  (d36:Df K "_law_listed" pf f36 u36)
  (d37:Df K "_law_told" A9 f37 u37)
  (d38:Df K "_law_run" J2 f38 u38)
  (d39:Df K "_law_named" vo f39 u39)
  (d40:Df K "_law_few" Kb f40 u40)
  (d41:Df K "_law_other" vx f41 u41)
  (d42:Df K "_law_all" Kc f42 u42)
  (d43:Df K "_law_up_to" Ba f43 u43)
  (d44:Df K "_law_pairs" vB f44 u44)
  (d45:Df K "_law_chain" vC f45 u45)
  (d46:Df K "_law_tailed" pv f46 u46)
  (d47:Df K "_law_leaves" pw f47 u47)
  (d48:Df K "_law_text" Bb f48 u48)
  (d49:Df K "_law_good" Bc f49 u49)
  (d50:Df K "law" Ko f50 u50)
  (z0:PySem.W.nsIn K mainGlobals "len" = some none)
  (z1:PySem.W.nsIn K mainGlobals "max" = some none)
  (z2:PySem.W.nsIn K mainGlobals "min" = some none)
  (z3:PySem.W.nsIn K mainGlobals "isinstance" = some none)
  (z4:PySem.W.nsIn K mainGlobals "all" = some none)
  (z5:PySem.W.nsIn K mainGlobals "any" = some none)
  (z6:PySem.W.nsIn K mainGlobals "sorted" = some none)
  (z7:PySem.W.nsIn K mainGlobals "range" = some none)
  (z8:PySem.W.nsIn K mainGlobals "str" = some none)
  (z9:PySem.W.nsIn K mainGlobals "bool" = some none)
  (z10:PySem.W.nsIn K mainGlobals "int" = some none)
  (z11:PySem.W.nsIn K mainGlobals "list" = some none)
  (z12:PySem.W.nsIn K mainGlobals "tuple" = some none)
  (z13:PySem.W.nsIn K mainGlobals "dict" = some none)
  (z14:PySem.W.nsIn K mainGlobals "set" = some none)
  (z15:PySem.W.nsIn K mainGlobals "ord" = some none)
  (z16:PySem.W.nsIn K mainGlobals "ValueError" = some none) {tk0:Tok}
  (gl0:PySem.W.nsIn K mainGlobals "LETTERS" = some (some (.str "abcdefghijklmnopqrstuvwxyz" tk0))) {tk1:Tok}
  (gl1:PySem.W.nsIn K mainGlobals "MOST_LETTERS" = some (some (.int 8 tk1))) {tk2:Tok}
  (gl2:PySem.W.nsIn K mainGlobals "MOST_SIGNS" = some (some (.int 40 tk2))) {tk3:Tok}
  (gl3:PySem.W.nsIn K mainGlobals "MOST_PARTS" = some (some (.int 8 tk3))) {tk4:Tok}
  (gl4:PySem.W.nsIn K mainGlobals "BARRED_SIGN" = some (some (.int 37 tk4))) {ta0:Addr} {odt0:Option Addr} {nt0:Nat} {slt0:Array (Option Value)} {tt0_0 tt0_1:Tok}
  (ga0:PySem.W.nsIn K mainGlobals "WORDS_ALONE" = some (some (.ref ta0)))
  (gt0:K.lookup ta0=some ⟨.type "tuple", odt0,.seq #[.str "none" tt0_0,.str "any" tt0_1] nt0,slt0⟩) {ta1:Addr} {odt1:Option Addr} {nt1:Nat} {slt1:Array (Option Value)} {tt1_0 tt1_1 tt1_2:Tok}
  (ga1:PySem.W.nsIn K mainGlobals "WORDS_WITH_ONE" = some (some (.ref ta1)))
  (gt1:K.lookup ta1=some ⟨.type "tuple", odt1,.seq #[.str "again" tt1_0,.str "ahead" tt1_1,.str "not" tt1_2] nt1,slt1⟩) {ta2:Addr} {odt2:Option Addr} {nt2:Nat} {slt2:Array (Option Value)} {tt2_0 tt2_1:Tok}
  (ga2:PySem.W.nsIn K mainGlobals "WORDS_WITH_SOME" = some (some (.ref ta2)))
  (gt2:K.lookup ta2=some ⟨.type "tuple", odt2,.seq #[.str "row" tt2_0,.str "first" tt2_1] nt2,slt2⟩) {ta3:Addr} {odt3:Option Addr} {nt3:Nat} {slt3:Array (Option Value)} {tt3_0 tt3_1 tt3_2 tt3_3:Tok}
  (ga3:PySem.W.nsIn K mainGlobals "WORDS_EVER_EMPTY" = some (some (.ref ta3)))
  (gt3:K.lookup ta3=some ⟨.type "tuple", odt3,.seq #[.str "none" tt3_0,.str "again" tt3_1,.str "ahead" tt3_2,.str "not" tt3_3] nt3,slt3⟩)
  (cN:PySem.W.nsIn K mainGlobals "Asking" = some (some (.ref C)))
  (mi:DfM K C "__init__" "Asking.__init__" uu fi ui)
  (mm0:DfM K C "end" "Asking.end" AJ fm0 um0)
  (mm1:DfM K C "wanted" "Asking.wanted" lT fm1 um1)
  (mm2:DfM K C "take_in_row" "Asking.take_in_row" AL fm2 um2)
  (mm3:DfM K C "take_in_first" "Asking.take_in_first" oK fm3 um3)
  (mm4:DfM K C "take_in_again" "Asking.take_in_again" oM fm4 um4)
  (mm5:DfM K C "take" "Asking.take" uB fm5 um5)
  (cM:PySem.W.makesIn K C=true)
  (cK:PySem.W.keepIn K (.ref C)=true)
  (pg:PySem.W.plainGet K C Str.empty=true)
  (hd:PySem.W.hasDictIn K C=true)
  (po:PySem.W.plainOver K C=true)
  (sa:PySem.W.findIn K (.ref C) "__setattr__" = some (some (.builtin "object.__setattr__")))
  (na0:PySem.W.findIn K (.ref C) "form" = some none)
  (na1:PySem.W.findIn K (.ref C) "name" = some none)
  (na2:PySem.W.findIn K (.ref C) "place" = some none)
  (na3:PySem.W.findIn K (.ref C) "at" = some none)
  (na4:PySem.W.findIn K (.ref C) "turn" = some none)
  (na5:PySem.W.findIn K (.ref C) "steps" = some none)
  (na6:PySem.W.findIn K (.ref C) "done" = some none)
  (na7:PySem.W.findIn K (.ref C) "length" = some none)
  : ∃fd:FuncData,(∀(s:Shared) (v:Value),BindsTo s fd ⟨[v],[]⟩ [("script", v)])/\∀base:Heap,K.In base->base.Ns mainGlobals mg->FnOk l.prog w K mg base CX0 13 fa fd ["script"] (Ai K):=by
 have e:=hfa.symm.trans (aaU X G d50.ns);cases e;have T:Txt K mg:=⟨aau X G z0,aau X G z1,aau X G z2,aau X G z3,aau X G z4,aau X G z5,aau X G z6,aau X G z7,aau X G z8,aau X G z9,aau X G z10,aau X G z11,aau X G z12,aau X G z13,aau X G z14,aau X G z15,aau X G z16,⟨_,aaU X G gl0,⟨_,rfl⟩⟩,⟨_,aaU X G gl1,⟨_,rfl⟩⟩,⟨_,aaU X G gl2,⟨_,rfl⟩⟩,⟨_,aaU X G gl3,⟨_,rfl⟩⟩,⟨_,aaU X G gl4,⟨_,rfl⟩⟩,⟨ta0,aaU X G ga0,λ_=>.inr ⟨_,_,_,gt0,rfl,rfl,(by show 2<=sizeLine;decide),(.cons ⟨_,rfl⟩ (.cons ⟨_,rfl⟩ Paired.nil))⟩⟩,⟨ta1,aaU X G ga1,λ_=>.inr ⟨_,_,_,gt1,rfl,rfl,(by show 3<=sizeLine;decide),(.cons ⟨_,rfl⟩ (.cons ⟨_,rfl⟩ (.cons ⟨_,rfl⟩ Paired.nil)))⟩⟩,⟨ta2,aaU X G ga2,λ_=>.inr ⟨_,_,_,gt2,rfl,rfl,(by show 2<=sizeLine;decide),(.cons ⟨_,rfl⟩ (.cons ⟨_,rfl⟩ Paired.nil))⟩⟩,⟨ta3,aaU X G ga3,λ_=>.inr ⟨_,_,_,gt3,rfl,rfl,(by show 4<=sizeLine;decide),(.cons ⟨_,rfl⟩ (.cons ⟨_,rfl⟩ (.cons ⟨_,rfl⟩ (.cons ⟨_,rfl⟩ Paired.nil))))⟩⟩⟩;refine⟨u50,?_,λbase _ _=>?_⟩
 ·obtain⟨oc,od,kV,doc,pm,an,cdv,ct,osl,rfl,lk,hcd⟩:=d50.fn.ex;exact λs v=>.of_eq rfl
 have t:TopZ ⟨l.prog,w,K,mg,base,h⟩ (Txt K mg):=⟨X,G,T⟩;have hC:ClsF K 0 C:=Jl cN pg hd po sa (abW.mpr ⟨na0,abW.mpr ⟨na1,abW.mpr ⟨na2,abW.mpr ⟨na3,abW.mpr ⟨na4,abW.mpr ⟨na5,abW.mpr ⟨na6,abW.mpr ⟨na7,λ_ z=>nomatch z⟩⟩⟩⟩⟩⟩⟩⟩);have A_ainit:=FD t hC mi cN cM cK;have c:=Kq t hC mm0;have b:=vJ t hC mm1;have A_arow:=Kr t hC mm2 c;have P:=zS t hC mm3 c;have Q:=zT t hC mm4 c;have n:=FF t hC mm5 b c A_arow P Q;have I:=zU t hC d0;have g:=FH t hC d1;have m:=FJ t hC d2 A_ainit c g I;have Z:=FK t hC d3;have O_make:=Ks t hC d4 b n m Z;have d:=zV t hC d5;have J:=zW t hC d6;have j:=zX t hC d7 J;have F:=zY t hC d8 j;have M:=zZ t hC d9 F d;have L:=Aa t hC d10 d M;have W:=FL t hC d11;have N:=Ab t hC d12 L W;have O_may:=MO t hC d13 g;have O:=Ac t hC d14 O_may;have O_brow:=Ku t hC d15;have O_bform:=FM t hC d16 g O_brow;have R:=FN t hC d17 O O_bform;have D:=Ad t hC d18;have u:=vO t hC d19 D;have O_loop:=Kv t hC d20 R u;have O_anew:=Kw t hC d21 b n m;have x:=vP t hC d22 O_anew;have q:=vQ t hC d23;have r:=vR t hC d24 q;have O_rwb:=MP t hC d25 N O_loop;have O_rw:=o_rw t hC d26 O_rwb d j r;have Y:=FQ t hC d27 O_rw O_make;have f:=vT t hC d28 Y x;have O_cell:=Ky t hC d29;have A:=Kz t hC d30;have O_well:=KA t hC d31 A;have a:=KB t hC d32 A;have p:=vV t hC d33 a;have B:=KC t hC d34 a;have S:=FR t hC d35 a B;have i:=Ae t hC d36;have y:=KD t hC d37;have o:=MQ t hC d38;have k:=FU t hC d39 p;have O_few:=MR t hC d40 a;have V:=FX t hC d41 a;have O_all:=MS t hC d42;have O_upto:=KF t hC d43;have U:=FY t hC d44;have O_chain:=FZ t hC d45 o;have E:=Ag t hC d46 o;have H:=Ah t hC d47 a V k O_few o i f y;have O_text:=KG t hC d48 a O_few B;have O_good:=KH t hC d49 O_well a H k S O_text E O_all U O_upto O_chain i f y;exact(o_law t hC d50 O_cell O_good).imp KI
theorem walk{l:PySem.W.OpenLaw}{c:World->Heap->Prop}{d:DefRec}{K:Params->Frag}(e:l.most=some 63)(b:d.params.defaults=[])
  (i:∀(w:World) (h:Heap),c w h->(K w.params).In h)
  (F:∀(w:World) (mg:Str->Option Value) (fa:Addr) (h:Heap),(K w.params).In h->h.Ns mainGlobals mg->mg d.name=some (.ref fa) ->
   ∃fd:FuncData,(∀(s:Shared) (u:Value),BindsTo s fd ⟨[u],[]⟩ [("script", u)])/\∀base:Heap,(K w.params).In base->base.Ns mainGlobals mg->FnOk l.prog w (K w.params) mg base CX0 13 fa fd ["script"] (Ai (K w.params))) :
  PySem.W.WalkO q loose XP c l.row.toRowW d [] (λf vs=>PySem.call f vs):=
 L2.walk_of (n:=63) (k:=13) (x := "script") (CX:=λ_=>CX0) (sp:=λw=>Ai (K w.params)) e (by decide) b ⟨rfl,by decide,by decide,rfl⟩ i F (λ_ _ a ns g _ j=>⟨a,ns,rfl,j,g,λ_=>rfl⟩) λ_ _ _ _ _ z=>z
theorem walkX{r:PySem.W.RowW}{d:DefRec}{f:List (Str×Expr)}{run:Value->List Value->Sem Value}{K:Params->Frag}{as:List Addr}{n t:Nat}(e:∀P,as=(K P).map (·.1))(W:PySem.W.WalkO q loose XP (λw h=>(K w.params).In h) r d f run) :
  PySem.W.WalkX q loose XP (PySem.W.X.obsZ as) (PySem.W.X.valZ K n t) r d f run:=by
 intro w s₀ c mg u G y a o pm B doc A kV v hd p z l x args b s L g i k j m;exact W w s₀ c mg u G (PySem.W.InK.keeps w _ _ (PySem.W.X.z_facts e y).2.1 L.keeps) a o pm B doc A kV v hd p z l x args b s g i k j m
end KR
open PySem PySem.W PyProof.Rows
local macro_rules|`(tactic|walk_at "df") => `(tactic|(refine' L2.df_mk ?a ?l ?c ?k;(case a => k_is);(case l => k_is);(case c => k_is);(case k => k_is)))
local macro_rules|`(tactic|walk_at "dm") => `(tactic|(refine' L2.dfm_mk ?a ?i ?l ?c ?k;(case a => k_is);(case i => k_is);(case l => k_is);(case c => k_is);(case k => k_is)))
namespace PySem.W.Fast
def tw13514071624403446780:=0
def tw12552484577391501382:=0
def tw16667988925186097464:=0
def tw3050537089481044875:=0
def tw13813678658836150747:=0
def tw2302474106216223954:=0
def tw14438867668803117361:=0
def tw3732456870594823080:=0
def tw12705952358655857997:=0
def tw11273187097732324762:=0
def tw9833094958691556409:=0
def tw3919835681378358240:=0
def tw2075056955412569150:=0
def tw17827221815723306501:=0
def tw17623715228813786777:=0
def tw329059439812959164:=0
def tw2475519013420225911:=0
def tw1502941202197250761:=0
def tw3322430034389663464:=0
def tw10298108082387457929:=0
def tw5347282993848019172:=0
def tw3468920806710733459:=0
def tw10271539042363100019:=0
def tw13970963680070289084:=0
def tw10816488181460176712:=0
def tw9892951979287507981:=0
def tw17244976147184239564:=0
def tw18105171904363494688:=0
def tw18419714500438384991:=0
def tw3353168519299351554:=0
def tw8227450637694850037:=0
def tw17136303996038227777:=0
def tw13192449044406671026:=0
def tw16368294158632951674:=0
def tw14895420837468138891:=0
def tw9871164329683667773:=0
def tw2280712603732803308:=0
def tw5549403405169674823:=0
def tw13645848268130632221:=0
def tw11621775576776453210:=0
def tw4403768176283307726:=0
def tw16317732880212670396:=0
def tw8123470436854788383:=0
def tw11454832414772972076:=0
def tw2123740659156506467:=0
def tw4137974934640054660:=0
def tw16035297922535359823:=0
def tw6058433592893998197:=0
def tw10864450172193991927:=0
def tw11125878009332817178:=0
def tw3671451817499662608:=0
def tw5249127279452046308:=0
def tw10750606696450183624:=0
def tw17440147802129470760:=0
def tw12597233210782679702:=0
def tw9112399722929445306:=0
def tw12527303540009734500:=0
def tw12037023746418967505:=0
def tw4253216634921945929:=0
def tw403272928815106658:=0
def tw11508483092285254051:=0
def tw15252608948496594705:=0
def tw15482695971424404733:=0
def tw11746827676483921504:=0
def tw11067494588784902542:=0
def tw1798649373636721888:=0
def tw9134978060421001374:=0
def tw7470842810697487043:=0
def tw13639942135539599212:=0
def tw4127236226627731741:=0
def tw10375086744088647504:=0
def tw9408293334432302628:=0
def tw16623497627515852492:=0
def tw14840364261483581495:=0
def tw4628671265149535706:=0
def tw2880985634026682142:=0
def tw1169256083261006534:=0
def tw5493114281029886769:=0
def tw9938595682027851696:=0
def tw14817403956572545201:=0
def tw6702818793393060562:=0
def tw23381629035352533:=0
def tw6621583584387224589:=0
def tw15382811342557094460:=0
def tw639118224659799020:=0
def tw1486282363246472358:=0
def tw17320295538828218418:=0
def tw4304543482681882572:=0
def tw12922375909894967497:=0
def tw15889181383185749396:=0
def tw6447691920109645205:=0
def tw6046749751071103620:=0
def tw8959008008046788467:=0
def tw8174912068922910736:=0
def tw7507814626192253804:=0
def tw16946786109221483375:=0
def tw5773820713021127257:=0
def tw12692994264384346822:=0
def tw9716134424313188909:=0
def tw10472054644745195433:=0
def tw3739651926287169516:=0
def tw17755039795251126661:=0
def tw11377972047677865126:=0
def tw4555578206875144992:=0
def tw77998812717650073:=0
def tw17515119746799551329:=0
def tw2354022357777963641:=0
def tw18443193383700096074:=0
def tw2891581598711354269:=0
def tw9050011462743460300:=0
def tw14675932742557080944:=0
def tw4230242470327366744:=0
def tw14919444701679527129:=0
def tw4189202239113584154:=0
def tw6231033578365017647:=0
def tw16943450566807255829:=0
def tw17551953022312121190:=0
def tw7452886429396331433:=0
def tw3982528523726009607:=0
def tw16730025626171142472:=0
def tw5297714226182167626:=0
def tw691883101810143561:=0
def tw18137318542836392976:=0
def tw10679544936068516465:=0
def tw4602950257425018776:=0
def tw11246359131299793004:=0
def tw11741594529802599764:=0
def tw4677636425725110459:=0
def tw13776457202767668178:=0
def tw11003448975670258877:=0
def tw1075332527383768200:=0
def tw5701668825840784788:=0
def tw12631963895689668909:=0
def tw14993514633981888702:=0
def tw293384453759305372:=0
def tw1267020926669780608:=0
def tw17003973526020065685:=0
def tw2910056083956596565:=0
def tw14074090341666178628:=0
def tw13854497017387899255:=0
def tw13665515414447617044:=0
def tw6411751165346464698:=0
def tw7361199431079276393:=0
def tw14169600988991774922:=0
def tw5963932360399445889:=0
def tw12153668184842358201:=0
def tw12171673182080901201:=0
def tw3823187114216050106:=0
def tw6763202840025746785:=0
def tw825072007254821448:=0
def tw11235988328494176996:=0
def tw13594318472166549079:=0
def tw6103657708546751281:=0
def tw2405554642582415743:=0
def tw2616040217134613991:=0
def tw260140349458863723:=0
def tw4053416487761382859:=0
def tw11332274124526669238:=0
def tw13529342166511808576:=0
def tw12959730685020559098:=0
def tw1017495400396483115:=0
def tw9313611712706026036:=0
def tw16892550123540055470:=0
def tw7805581288145286230:=0
def tw6634742361950991466:=0
def tw11021757103585158166:=0
def tw4122828582642326292:=0
def tw1480198776237649368:=0
def tw570579253606739697:=0
def tw17026023900758237691:=0
def tw4613003848872511873:=0
def tw3124024350116946303:=0
def tw13000340496554246459:=0
end PySem.W.Fast
set_option maxRecDepth 100000 in
set_option maxHeartbeats 0 in
theorem PySem.Challenge.cw_keptreading_k16_long_texts_holds : PySem.Challenge.rw_keptreading_k16_long_texts.Holds := by
  w_on; o_law; z_head; (case hw=>w_witness2)
  k_fill
  refine KR.walkX (λ _=>rfl) (KR.walk (l:=PySem.Challenge.rw_keptreading_k16_long_texts) rfl rfl (λ w h Y=>Y) ?F)
  case F =>
    intro w mg fa h KX G hmg
    refine' KR.all_mk KX G hmg ?_ ?_ ?_ ?_ ?_ ?_ ?_ ?_ ?_ ?_ ?_ ?_ ?_ ?_ ?_ ?_ ?_ ?_ ?_ ?_ ?_ ?_ ?_ ?_ ?_ ?_ ?_ ?_ ?_ ?_ ?_ ?_ ?_ ?_ ?_ ?_ ?_ ?_ ?_ ?_ ?_ ?_ ?_ ?_ ?_ ?_ ?_ ?_ ?_ ?_ ?_ ?_ ?_ ?_ ?_ ?_ ?_ ?_ ?_ ?_ ?_ ?_ ?_ ?_ ?_ ?_ ?_ ?_ ?_ ?_ ?_ ?_ ?_ ?_ ?_ ?_ ?_ ?_ ?_ ?_ ?_ ?_ ?_ ?_ ?_ ?_ ?_ ?_ ?_ ?_ ?_ ?_ ?_ ?_ ?_ ?_ ?_ ?_ ?_ ?_ ?_ ?_ ?_
    any_goals first | walk_at "df" | walk_at "dm" | k_is
