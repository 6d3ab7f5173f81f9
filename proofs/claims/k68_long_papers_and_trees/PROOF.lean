import PyProof.Rows.All
import Wide.All
import OpenK.AllK
import Wide.FinOn
import Lean
import PyProof.EqAt
import PyProof.EqKinds
import PyProof.TupleCall
import PySem.Challenge.RW_keptreading_k68_long_papers_and_trees
set_option genSizeOf false
set_option genSizeOfSpec false
set_option genInjectivity false
set_option Elab.async false
set_option linter.all false
set_option maxRecDepth 100000
open PySem.W (Frag)
noncomputable section
local macro_rules|`(tactic|nofun) => `(tactic|(first|lia|omega))
local macro_rules|`(tactic|exists $h:term) => `(tactic|(first|exact List.mem_singleton.mp $h|simpa using $h))
local macro_rules|`(tactic|ext) => `(tactic|(conv => whnf))
set_option compiler.extract_closed false
def abz:=@List.length_map
def abA:=@List.mem_append
def abB:=@List.length_append
def abC:=@List.map_cons
def abD:=@List.length_take
def abE:=@List.mem_map
def abF:=@Bool.false_ne_true
def abG:=@List.mem_singleton
def abH:=@List.mem_cons
def abI:=@List.length_cons
def abJ:=@List.nodup_cons
def abK:=@List.size_toArray
def abL:=@Bool.and_eq_true_iff
def abM:=@List.mem_filter
def abN:=@List.nodup_append
def abO:=@Array.length_toList
def abP:=@Bool.and_eq_true
def abQ:=@List.nodup_nil
def abR:=@Option.isSome_iff_exists
def abS:=@List.forall_mem_cons
def abT:=@Bool.eq_false_iff
def abU:=@List.length_drop
def abV:=@List.all_eq_true
def abW:=@List.pairwise_iff_getElem
def abX:=@List.length_range
def abY:=@List.mem_range
def abZ:=@List.zip_cons_cons
def ab0:=@List.not_lt
def ab1:=@Nat.le_of_lt
def ab2:=@Nat.add_right_comm
def ab3:=@Nat.add_comm
def ab4:=@List.map_nil
def ab5:=@List.any_map
def ab6:=@Int.zero_add
def aaa:=@PySem.wpAny_bind
def aab:=@List.mem_cons_self
def aac:=@Nat.le_refl
def aad:=@List.map_append
def aae:=@List.mem_cons_of_mem
def aaf:=@PySem.wpAny_pure
def aag:=@PySem.Heap.lt_size
def aah:=@List.take_of_length_le
def aai:=@Option.some.inj
def aaj:=@Option.map_eq_some_iff
def aak:=@Nat.ne_of_lt
def aal:=@List.mem_append_right
def aam:=@List.take_succ
def aan:=@Nat.zero_le
def aao:=@List.append_nil
def aap:=@List.append_assoc
def aaq:=@Nat.lt_of_lt_of_le
def aar:=@PySem.W.mg_none_of
def aas:=@Nat.le_trans
def aat:=@List.Nodup.length_le_of_subset
def aau:=@List.map_map
def aav:=@PySem.W.kia_one
def aaw:=@List.mem_append_left
def aax:=@List.length_reverse
def aay:=@PySem.wpAny_call_entry
def aaz:=@List.eq_nil_of_length_eq_zero
def aaA:=@Nat.lt_succ_self
def aaB:=@List.lookup_cons
def aaC:=@List.Perm.refl
def aaD:=@PySem.wpAny_truthy_bool
def aaE:=@List.filter_append
def aaF:=@PySem.wpAny_newObj_type
def aaG:=@List.length_replicate
def aaH:=@PySem.W.mg_of
def aaI:=@List.length_set
def aaJ:=@List.all_cons
def aaK:=@Int.eq_ofNat_of_zero_le
def aaL:=@PySem.mem_of_lookup
def aaM:=@List.reverse_cons
def aaN:=@List.drop_eq_getElem_cons
def aaO:=@List.length_filter_le
def aaP:=@List.Perm.append_left
def aaQ:=@List.getElem_mem
def aaR:=@List.mem_of_mem_take
def aaS:=@Nat.lt_succ_of_lt
def aaT:=@Bool.not_eq_true'
def aaU:=@Nat.le_succ
def aaV:=@List.any_eq_true
def aaW:=@PySem.wpAny_holding
def aaX:=@Nat.lt_irrefl
def aaY:=@List.perm_append_comm
def aaZ:=@PySem.Around.under_plainId
def aa0:=@PyProof.Rows.slot_tuple_getitem
def aa1:=@List.take_sublist
def aa2:=@PySem.Paired.length
def aa3:=@List.map_congr_left
def aa4:=@List.Perm.append_right
def aa5:=@PySem.wpAny_setField_rec
def aa6:=@PySem.F.slot_dict_keyiterator_next
def aa7:=@PySem.wpAny_passesOwn
def aa8:=@Sum.inr.inj
def aa9:=@PyProof.Rows.callWith_type1
def aba:=@Nat.zero_add
def abb:=@List.length_singleton
def abd:=@Bool.eq_iff_iff
def abe:=@List.mem_of_mem_drop
def abf:=@Array.toArray_toList
def abg:=@List.drop_zero
def abh:=@PySem.wpAny_setEntries_of
def abi:=@List.filterMap_cons
def abj:=@PySem.wpAny_mono
def abk:=@PySem.wpAny_getItem_str_slice
def abl:=@PySem.Calls.callWith_builtin
def abm:=@PySem.wpAny_setState_of
def abn:=@PySem.W.kitx_dict
def abo:=@List.foldl_append
def abp:=@PySem.Heap.size_push
def abq:=@Nat.eq_of_beq_eq_true
def abr:=@List.set_set
def abt:=@PySem.wpAny_askSetting
def abu:=@List.drop_length
def abv:=@List.dropLast_concat
def abw:=@PySem.wpAny_attempt
def abx:=@List.any_cons
def aby:=@List.getElem_of_mem
namespace L2
theorem aF(_:True:=by first|exact .inl rfl|exact .inr rfl|assumption):True:=trivial
theorem aD(_:True:=by decide):True:=trivial
theorem aI(_:True:=by intro _;rfl):True:=trivial
theorem aR(_:True:=by rfl):True:=trivial
end L2
namespace L2
open PySem PySem.Spec PyProof.Rows
variable{a b it dx C:Addr}{u:Value}{P prog:Program}{w:World}{h h' base:Heap}{α:Type}{x name m qual:Str}{e c tg l:Expr}{pins:List (Addr×Obj)}{s s':Shared}{t' i j k n:Nat}{ch fp:List Addr}{N ps:List Str}{A:Around}{E Q:Value->Shared->Prop}{pos pos' p apos:Pos}{op op':CmpOp}{es:List Expr}{g:Int->Int->Int}{body:List Stmt}{f:Value->Value->Sem Value}{us:List Value}{mA mg:Str->Option Value}{pl:Sem Bool}{kw:List (Str×Value)}{fd:FuncData}{outer:List Env}{scope:Scope}
abbrev Key:=Sum Int Str
def jJ:Key->Value->Bool
 |.inl k,v=>Value.isInt k v
 |.inr x,v=>Value.isStrOf x v
def keyH(w:World):Key->Int
 |.inl k=>hashInt k
 |.inr x=>hashStr w x
theorem aP:∀{k:Key} {v:Value},jJ k v=true->(∃i t,k=Sum.inl i/\v=Value.int i t)∨(∃x t,k=Sum.inr x/\v=Value.str x t)
 | .inl i,v,h=>by
  obtain⟨t,e⟩:=Value.isInt_shape (k:=i) (v:=v) h;exact .inl ⟨i,t,rfl,e⟩
 | .inr x,v,h=>by
  obtain⟨t,e⟩:=Value.isStrOf_shape (x:=x) (v:=v) h;exact .inr ⟨x,t,rfl,e⟩
theorem qW(i:Int)(t:Tok):jJ (.inl i) (.int i t)=true:=by simp[jJ,Value.isInt]
theorem qX(x:Str)(t:Tok):jJ (.inr x) (.str x t)=true:=by simp[jJ,Value.isStrOf]
theorem Gq(a b:Int):decide ((Sum.inl a:Key)=Sum.inl b)=(a==b):=by
 by_cases e:a=b
 ·subst e;simp
 ·have h:¬(Sum.inl a:Key)=Sum.inl b:=λq=>e (Sum.inl.inj q);rw[decide_eq_false h];exact(beq_eq_false_iff_ne.mpr e).symm
theorem Gr(a b:Str):decide ((Sum.inr a:Key)=Sum.inr b)=decide (a=b):=by
 by_cases e:a=b
 ·subst e;simp
 ·have h:¬(Sum.inr a:Key)=Sum.inr b:=λq=>e (aa8 q);rw[decide_eq_false h,decide_eq_false e]
theorem Gs(a:Int)(b:Str):decide ((Sum.inl a:Key)=Sum.inr b)=false:=decide_eq_false (λq=>nomatch q)
theorem Gu(a:Str)(b:Int):decide ((Sum.inr a:Key)=Sum.inl b)=false:=decide_eq_false (λq=>nomatch q)
def ax(prog:Program)(w:World):PySem.KeyKind prog w Key where
 is:=jJ
 hash:=keyH w
 inj:=λv a b ha hb=>by
  rcases aP ha with ⟨i,t,rfl,rfl⟩|⟨x,t,rfl,rfl⟩
  ·rcases aP hb with ⟨j,u,rfl,e⟩|⟨y,u,rfl,e⟩
   ·injection e with e1 _;rw[e1]
   ·exact nomatch e
  ·rcases aP hb with ⟨j,u,rfl,e⟩|⟨y,u,rfl,e⟩
   ·exact nomatch e
   ·injection e with e1 _;rw[e1]
 byValue:=λk v h=>by
  rcases aP h with ⟨i,t,rfl,rfl⟩|⟨x,t,rfl,rfl⟩ <;> rfl
 pyHash:=λhv h=>by
  rcases aP hv with ⟨i,t,rfl,rfl⟩|⟨x,t,rfl,rfl⟩
  ·exact wpAny_pyHash_int h
  ·exact wpAny_pyHash_str h
 eqBool:=λhu hv h=>by
  rcases aP hu with ⟨i,t,rfl,rfl⟩|⟨x,t,rfl,rfl⟩
  ·rcases aP hv with ⟨j,u,rfl,rfl⟩|⟨y,u,rfl,rfl⟩
   ·rw[Gq] at h;exact wpAny_eqBool_int h
   ·rw[Gs] at h;exact SeqAt.EqAt.int_str i t y u _ _ _ _ h
  ·rcases aP hv with ⟨j,u,rfl,rfl⟩|⟨y,u,rfl,rfl⟩
   ·rw[Gu] at h;exact SeqAt.EqAt.str_int x t j u _ _ _ _ h
   ·rw[Gr] at h;exact wpAny_eqBool_str h
 «strs»:=λk x t v h=>by
  rcases aP h with ⟨i,u,rfl,e⟩|⟨y,u,rfl,e⟩
  ·exact nomatch e
  ·injection e with e1 _
   subst e1
   cases v <;> rfl
theorem mh(prog:Program)(w:World)(i:Int)(t:Tok):(ax prog w).is (.inl i) (.int i t)=true:=qW i t
theorem mj(prog:Program)(w:World)(x:Str)(t:Tok):(ax prog w).is (.inr x) (.str x t)=true:=qX x t
inductive V where
 |non|bl (b:Bool)|int (i:Int)|str (x:Str)|byt (b:Array UInt8)|flt (b:UInt64)|ref (a:Addr)|ty (n:String)
 deriving DecidableEq
variable{v y:V}{xs vs:List V}
def RelV:V->Value->Prop
 |.non,u=>u=Value.none
 |.bl b,u=>u=Value.bool b
 |.int i,u=>∃t,u=Value.int i t
 |.str x,u=>∃t,u=Value.str x t
 |.byt b,u=>∃t,u=Value.bytes b t
 |.flt b,u=>∃t,u=Value.float b t
 |.ref a,u=>u=Value.ref a
 |.ty n,u=>u=Value.type n
abbrev Vals:List V->List Value->Prop:=Paired RelV
theorem Vals.length{xs:List V}{us:List Value}(r:Vals xs us):xs.length=us.length:=aa2 r
theorem Vals.get:∀{xs:List V} {us:List Value} {i:Nat} {x:V},Vals xs us->xs[i]?=some x->∃u,us[i]?=some u/\RelV x u
 |_,_,_,_,.nil,e=>by simp at e
 |_,_,0,_,.cons r _,e=>by simp at e;subst e;exact⟨_,rfl,r⟩
 | _,_,i+1,x,.cons _ t,e=>by
  obtain⟨u,h1,h2⟩:=Vals.get (i:=i) (x:=x) t (by exists e);exact⟨u,(by exists h1),h2⟩
theorem Vals.set{x:V}{u:Value}(r:RelV x u):∀{xs:List V} {us:List Value} (i:Nat),Vals xs us->Vals (xs.set i x) (us.set i u)
 |_,_,_,.nil=>.nil
 |_,_,0,.cons _ t=>.cons r t
 |_,_,i+1,.cons q t=>.cons q (Vals.set r i t)
theorem Vals.append:∀{xs ys:List V} {us ws:List Value},Vals xs us->Vals ys ws->Vals (xs++ys) (us++ws)
 |_,_,_,_,.nil,s=>s
 |_,_,_,_,.cons r t,s=>.cons r (Vals.append t s)
theorem Vals.take:∀{xs:List V} {us:List Value} (n:Nat),Vals xs us->Vals (xs.take n) (us.take n)
 |_,_,0,_=>.nil
 |_,_,_+1,.nil=>.nil
 |_,_,n+1,.cons r t=>.cons r (Vals.take n t)
theorem Vals.drop:∀{xs:List V} {us:List Value} (n:Nat),Vals xs us->Vals (xs.drop n) (us.drop n)
 |_,_,0,r=>r
 |_,_,_+1,.nil=>.nil
 |_,_,n+1,.cons _ t=>Vals.drop n t
def RelO:Option V->Option Value->Prop
 |some v,some u=>RelV v u
 |none,none=>True
 |_,_=>False
def KV{κ:Type}:List (κ×V)->List (κ×Value)->Prop:=Paired λ(p:κ×V) (q:κ×Value)=>p.1=q.1/\RelV p.2 q.2
def kV:Key->V
 |.inl i=>.int i
 |.inr x=>.str x
inductive HO where
 |lst (xs:List V)
 |tup (xs:List V)
 |dK (kvs:List (Key×V))|dT (kvs:List (List Key×V))
 |set (S:Int->Bool) (n:Nat)
 |ins (C dx:Addr) (fs:List (Str×V))
 |own (x:Addr)
 |xd (fs:List (Str×V))
 |met (f x:Addr)
 |rng (lo hi:Int)
 |frz (o:Obj) (u:HO)
 |tbl (ps:Array Value)
 |ext (φ:Heap->Prop)
variable{o:HO}
abbrev Hp:=Addr->Option HO
variable{H H':Hp}{R:V->V->Hp->Prop}
def upd(H:Hp)(a:Addr)(o:HO):Hp:=λb=>if b=a then some o else H b
theorem af :upd H a o a=some o:=by unfold upd;rw[if_pos rfl]
theorem ai(h:b≠a):upd H a o b=H b:=by unfold upd;rw[if_neg h]
theorem K3{u:HO}(h:H a=some o)(h':H b=some u)(d:o≠u):a≠b:=by
 intro e;subst e;rw[h] at h';exact d (aai h')
theorem cw(h:H a=some o)(h':H b=none):a≠b:=by
 intro e;subst e;rw[h] at h';cases h'
section
variable (P:Program) (w:World)
def ObjOk(H:Hp)(h:Heap)(a:Addr):HO->Prop
 |.lst xs=>xs.length<=sizeLine/\∃(its:List Value) (n:Nat),Vals xs its/\h.get? a=some { cls:=.type "list", data:=.seq its.toArray n }
 |.tup xs=>xs.length<=sizeLine/\∃its:List Value,Vals xs its/\IsTup h a its.toArray
 |.dK kvs=>kvs.length<=sizeLine/\(a==sysModules)=false/\∃vs,KV kvs vs/\h.DictOf (ax P w) a vs
 | .dT kvs=>kvs.length<=sizeLine/\(a==sysModules)=false/\∃xs:List (List Key×Addr×Value),
   Paired (λ(p:List Key×V) (q:List Key×Addr×Value)=>p.1=q.1/\H q.2.1=some (.tup (p.1.map kV))/\RelV p.2 q.2.2) kvs xs /\
   ∃o es ep,h.get? a=some o/\o.ExactDict/\o.data=.dict es ep/\es.toList=xs.map (entryOfKey (tupleKind (ax P w)))/\(xs.map (·.1)).Nodup
 |.set S n=>h.SetOf (intKind P w) a S n
 | .ins C dx fs=>H dx=some (.own a)/\fs.length<=1000/\dx≠a/\h.get? a=some (PySem.W.instObj C dx) /\
   ∃mA,h.Ns1 dx mA/\(∀f,RelO (fs.lookup f) (mA f))/\PySem.Within mA (fs.map (·.1))
 |.own _=>∃o,h.get? a=some o
 |.xd fs=>∃mA,h.Ns1 a mA/\∀f,RelO (fs.lookup f) (mA f)
 |.rng lo hi=>∃t u v,h.get? a=some { cls:=.type "range", data:=.fields #[.int lo t,.int hi u,.int 1 v] }
 |.frz o u=>h.get? a=some o/\ObjOk H h a u
 |.tbl ps=>h.get? a=some { cls:=.none,data:=.fields ps }
 |.met f x=>h.get? a=some (PySem.W.methodObj (.ref f) (.ref x))
 |.ext b=>b h/\(∃o,h.get? a=some o)/\∀h1 h2:Heap,b h1->(∀o,h1.get? a=some o->h2.get? a=some o)->b h2
def HOk(H:Hp)(h:Heap):Prop:=∀a o,H a=some o->ObjOk P w H h a o
end
theorem ObjOk.lt(x:ObjOk P w H h a o):a<h.objs.size:=by
 cases o with
 |lst xs=>obtain⟨_,_,_,_,e⟩:=x;exact aag e
 |tup xs=>obtain⟨_,_,_,p⟩:=x;exact p.lt
 |dK kvs=>obtain⟨_,_,_,_,o,_,_,e,_⟩:=x;exact aag e
 |dT kvs=>obtain⟨_,_,_,_,o,_,_,e,_⟩:=x;exact aag e
 |set S n=>obtain⟨o,_,_,_,e,_⟩:=x;exact aag e
 |ins C dx fs=>obtain⟨_,_,_,e,_⟩:=x;exact aag e
 |own y=>obtain⟨_,e⟩:=x;exact aag e
 |xd fs=>obtain⟨_,⟨_,_,_,e,_⟩,_⟩:=x;exact aag e
 |rng lo hi=>obtain⟨_,_,_,e⟩:=x;exact aag e
 |frz ob u=>obtain⟨e,_⟩:=x;exact aag e
 |tbl ps=>exact aag (show h.get? a=some _ from x)
 |met f y=>exact aag (show h.get? a=some _ from x)
 |ext b=>obtain⟨_,⟨_,e⟩,_⟩:=x;exact aag e
theorem Paired.mapP{β:Type}{F G:α->β->Prop}{l₁:List α}{l₂:List β}(h:Paired F l₁ l₂)(f:∀a b,F a b->G a b):Paired G l₁ l₂:=by
 induction h with
 |nil=>exact .nil
 |cons r t c=>exact .cons (f _ _ r) c
theorem ObjOk.stay(x:ObjOk P w H h a o)(k:∀b u,(b=a∨H b=some (.own a))->h.get? b=some u->h'.get? b=some u)
  (ho:∀b,H b=some (.own a)->H' b=some (.own a)) (i:∀b xs,H b=some (.tup xs)->H' b=some (.tup xs)):ObjOk P w H' h' a o:=by
 induction o with
 |lst xs=>obtain⟨z,its,n,r,e⟩:=x;exact⟨z,its,n,r,k _ _ (.inl rfl) e⟩
 |tup xs=>obtain⟨z,its,r,ob,e,c⟩:=x;exact⟨z,its,r,ob,k _ _ (.inl rfl) e,c⟩
 |dK kvs=>obtain⟨z,y,vs,r,ob,es,ep,e,c⟩:=x;exact⟨z,y,vs,r,ob,es,ep,k _ _ (.inl rfl) e,c⟩
 | dT kvs=>
  obtain⟨z,y,xs,r,ob,es,ep,e,c⟩:=x;exact⟨z,y,xs,Paired.mapP r λp q z=>⟨z.1,i _ _ z.2.1,z.2.2⟩,ob,es,ep,k _ _ (.inl rfl) e,c⟩
 |set S n=>obtain⟨ob,es,ep,t,e,c⟩:=x;exact⟨ob,es,ep,t,k _ _ (.inl rfl) e,c⟩
 | ins C dx fs=>
  obtain⟨d,z,ne,e,mA,⟨od,es,ep,j,c⟩,r⟩:=x;exact⟨ho _ d,z,ne,k _ _ (.inl rfl) e,mA,⟨od,es,ep,k _ _ (.inr d) j,c⟩,r⟩
 |own y=>obtain⟨ob,e⟩:=x;exact⟨ob,k _ _ (.inl rfl) e⟩
 |xd fs=>obtain⟨mA,⟨od,es,ep,e,c⟩,r⟩:=x;exact⟨mA,⟨od,es,ep,k _ _ (.inl rfl) e,c⟩,r⟩
 |rng lo hi=>obtain⟨t,u,v,e⟩:=x;exact⟨t,u,v,k _ _ (.inl rfl) e⟩
 |frz ob u g=>obtain⟨e,q⟩:=x;exact⟨k _ _ (.inl rfl) e,g q⟩
 | tbl ps=>
  have e:h.get? a=some { cls:=.none,data:=.fields ps }:=x;show h'.get? a=some { cls:=.none,data:=.fields ps };exact k a _ (.inl rfl) e
 | met f y=>
  have e:h.get? a=some (PySem.W.methodObj (.ref f) (.ref y)):=x;show h'.get? a=some (PySem.W.methodObj (.ref f) (.ref y));exact k a _ (.inl rfl) e
 |ext l=>obtain⟨p,⟨o,e⟩,st⟩:=x;exact⟨st _ _ p λo q=>k _ _ (.inl rfl) q,⟨o,k _ _ (.inl rfl) e⟩,st⟩
theorem HOk.lt(x:HOk P w H h)(e:H a=some o):a<h.objs.size:=(x a o e).lt
theorem HOk.fresh(x:HOk P w H h)(e:h.objs.size<=a):H a=none:=by
 cases q:H a with
 |none=>rfl
 |some u=>exact absurd (aaq (x.lt q) e) (aaX _)
theorem HOk.kept(x:HOk P w H h)(k:∀b u,h.get? b=some u->h'.get? b=some u):HOk P w H h':=λa o e=>
 (x a o e).stay (λb u _ q=>k b u q) (λ_ q=>q) λ_ _ q=>q
theorem HOk.laid(x:HOk P w H h)(k:∀b u,h.get? b=some u->h'.get? b=some u)(hp:h.objs.size<=a)(new:ObjOk P w (upd H a o) h' a o):HOk P w (upd H a o) h':=λb u e=>by
 have d:=x.fresh hp;by_cases f:b=a
 ·subst f;rw[af] at e;cases e;exact new
 ·rw[ai f] at e;exact(x b u e).stay (λc v _ q=>k c v q) (λc q=>by rw[ai (cw q d)];exact q) λc xs q=>by rw[ai (cw q d)];exact q
def Rd(H:Hp)(a:Addr)(u:HO):Prop:=H a=some u∨∃o,H a=some (.frz o u)
theorem Rd.ok{u:HO}(r:Rd H a u)(x:HOk P w H h):ObjOk P w H h a u:=by
 rcases r with r|⟨o,r⟩
 ·exact x a u r
 ·obtain⟨_,q⟩:=x a _ r;exact q
def Mut:Option HO->Prop
 |some (.lst _)=>True
 |some (.dK _)=>True
 |some (.dT _)=>True
 |some (.set _ _)=>True
 |some (.ins _ _ _)=>True
 |some (.ext _)=>True
 |_=>False
section
variable     {x e:Addr} {o':HO}
theorem HOk.write(ok:HOk P w H h)(g:Mut (H x))(he:e=x∨H e=some (.own x))(k:∀b u,b≠e->h.get? b=some u->h'.get? b=some u)(l:∃u,h'.get? e=some u)
  (new:ObjOk P w (upd H x o') h' x o'):HOk P w (upd H x o') h':=λb u q=>by
 have d:∀c y,H c=some (.own y)->c≠x:=λc y r z=>by subst z;rw[r] at g;exact g
 have f:∀c xs,H c=some (.tup xs)->c≠x:=λc xs r z=>by subst z;rw[r] at g;exact g
 by_cases j:b=x
 ·subst j;rw[af] at q;cases q;exact new
 ·rw[ai j] at q;by_cases a:b=e
  ·have m:H b=some (.own x):=by
    rcases he with z|z
    ·exact absurd (a.trans z) j
    ·rw[a];exact z
   rw[q] at m;cases m;obtain⟨v,n⟩:=l;exact⟨v,by rw[a];exact n⟩
  ·refine(ok b u q).stay (λc v i r=>k c v ?_ r) (λc r=>by rw[ai (d c b r)];exact r) λc xs r=>by rw[ai (f c xs r)];exact r
   rcases i with rfl|i
   ·exact a
   ·rintro rfl;rcases he with z|z
    ·exact d c b i z
    ·rw[i] at z;cases z;exact j rfl
end
structure Un(fs ex:List Addr)(H H':Hp)(h h':Heap):Prop where
 keep:∀b o,h.get? b=some o->H b=none->b∉fs->b∉ex->h'.get? b=some o
 slot:∀b o,h.get? b=some o->H b=none->b∈fs->b∉ex->∃sl,h'.get? b=some { o with slots:=sl }
 free:∀b o,h.get? b=some o->H b=none->b∉ex->H' b=none
 there:∀b o,h.get? b=some o->b∉ex->∃o',h'.get? b=some o'
 tups:∀b xs,H b=some (.tup xs)->H' b=some (.tup xs)
 frzs:∀b o u,H b=some (.frz o u)->H' b=some (.frz o u)
 tbls:∀b ps,H b=some (.tbl ps)->∃more,H' b=some (.tbl (ps++more))
section
variable {fs fs' ex ex':List Addr} {H1 H2:Hp} {h1 h2:Heap} {x e:Addr} 
theorem Un.any(u:Un fs ex H H1 h h1){ob:Obj}(q:h.get? b=some ob)(n:H b=none)(hx:b∉ex):∃sl,h1.get? b=some { ob with slots:=sl }:=by
 by_cases a:b∈fs
 ·exact u.slot b ob q n a hx
 ·exact⟨ob.slots,u.keep b ob q n a hx⟩
theorem Un.kept(k:∀b u,h.get? b=some u->h'.get? b=some u):Un fs ex H H h h':=
 ⟨λb ob q _ _ _=>k b ob q,λb ob q _ _ _=>⟨ob.slots,k b ob q⟩,λ_ _ _ n _=>n,λb ob q _=>⟨ob,k b ob q⟩,λ_ _ q=>q,λ_ _ _ q=>q,λ_ ps q=>⟨#[],by rw[q];simp⟩⟩
theorem Un.refl:Un fs ex H H h h:=Un.kept λ_ _ q=>q
theorem Un.laid(k:∀b u,h.get? b=some u->h'.get? b=some u)(hp:h.objs.size<=a)(hn:H a=none):Un fs ex H (upd H a o) h h' where
 keep:=λb u q _ _ _=>k b u q
 slot:=λb u q _ _ _=>⟨u.slots,k b u q⟩
 free:=λb u q n _=>by rw[ai (aak (aaq (aag q) hp))];exact n
 there:=λb u q _=>⟨u,k b u q⟩
 tups:=λb xs q=>by rw[ai (cw q hn)];exact q
 frzs:=λb u xs q=>by rw[ai (cw q hn)];exact q
 tbls:=λb ps q=>⟨#[],by rw[ai (cw q hn),q];simp⟩
theorem Un.write(c:Mut (H x))(he:e=x∨H e=some (.own x))(k:∀b u,b≠e->h.get? b=some u->h'.get? b=some u)(f:∃u,h'.get? e=some u):Un fs ex H (upd H x o) h h':=by
 have g:∀b,H b=none->b≠x:=λb n z=>by subst z;rw[n] at c;exact c
 have i:∀b,H b=none->b≠e:=λb n z=>by
  subst z;rcases he with r|r
  ·exact g b n r
  ·rw[n] at r;cases r
 have d:∀b u,H b=some u->¬Mut (some u)->b≠x:=λb u q nm z=>by subst z;rw[q] at c;exact nm c
 refine⟨λb u q n _ _=>k b u (i b n) q,λb u q n _ _=>⟨u.slots,k b u (i b n) q⟩,λb u q n _=>by rw[ai (g b n)];exact n,λb u q _=>?_,
  λb xs q=>by rw[ai (d b _ q λz=>z)];exact q,λb u xs q=>by rw[ai (d b _ q λz=>z)];exact q,λb ps q=>⟨#[],by rw[ai (d b _ q λz=>z),q];simp⟩⟩
 by_cases a:b=e
 ·subst a;exact f
 ·exact⟨u,k b u a q⟩
end
def trk(h:Heap)(H:Hp):List Addr:=(List.range h.objs.size).filter λa=>(H a).isSome
def wg(h:Heap)(H:Hp):Heap:=PySem.W.hideAll h (trk h H)
theorem qY(h:Heap)(H:Hp):(wg h H).objs.size=h.objs.size:=PySem.W.hideAll_size _ _
theorem wj{o:Obj}(e:h.get? b=some o)(n:H b=none):(wg h H).get? b=some o:=
 PySem.W.hideAll_get _ e λa=>by
  have q:(H b).isSome=true:=(abM.mp a).2;rw[n] at q;simp at q
theorem By{o:Obj}(e:(wg h H).get? b=some o):h.get? b=some o/\H b=none:=by
 have a:h.get? b=some o:=PySem.W.of_hideAll (trk h H) e;refine⟨a,?_⟩
 cases q:H b with
 |none=>rfl
 | some x=>
  have c:b∈trk h H:=abM.mpr ⟨abY.mpr (aag a),by simp[q]⟩;have z:(wg h H).get? b=none:=PySem.W.hideAll_none (trk h H) c;rw[z] at e;cases e
def Bz(g h:Heap)(L:Addr):List (Addr×Obj):=(List.range h.objs.size).filterMap λa=>if a=L∨(g.get? a).isSome=true then none else (h.get? a).map λo=>(a,o)
def rest(g h:Heap)(L d:Addr):List (Addr×Obj):=(Bz g h L).filter λp=>decide (p.1≠d)
structure Mod(K:Frag)(mg:Str->Option Value)(base:Heap):Prop where
 kin:K.In base
 glob:base.Ns mainGlobals mg
 blt:∃mb,base.Ns builtinsNs mb/\∀x:Str,x ≠ "__name__" -> mb x=bootBuiltins x
 nolimit:base.NoLimit
structure Cx where
 prog:Program
 w:World
 K:Frag
 mg:Str->Option Value
 base:Heap
 A:Around
 N:List Str
 s₀:Shared
 H₀:Hp
 env:Env
 outer:List Env
 stack:List Env
 ex:List Addr
 fn:Str->Bool
 calm:Bool
 pn:List (Addr×Obj)
 xe:Value->Shared->Prop
variable{X:Cx}
def frs(l:List Env):List Addr:=l.filterMap (·.frame)
abbrev Cx.fs(X:Cx):List Addr:=frs X.outer
def Vis(a:Scope)(x:Str):Prop:=a.names.lookup x=some .local∨a.names.lookup x=some .cell∨a.names.lookup x=some .free
def Loc(a:Scope)(x:Str):Prop:=a.names.lookup x=some .local∨a.names.lookup x=some .cell
def Look(env:Env)(h:Heap)(m:Str->Option Value)(x:Str)(u:Value):Prop:=
 (env.kindOf x=some .local/\m x=some u)∨((env.kindOf x=some .cell∨env.kindOf x=some .free)/\∃c,env.cells.lookup x=some c/\h.IsCell c (some u))
structure Cx.Ok(X:Cx):Prop where
 mod:Mod X.K X.mg X.base
 kind:X.env.scope.kind=.function
 glob:X.env.globals=mainGlobals
 blt:X.env.builtins=builtinsNs
 above:X.s₀.heap.objs.size<=X.env.locals
 inj:∀x y c,X.env.cells.lookup x=some c->X.env.cells.lookup y=some c->x=y
 has:∀x,(X.env.kindOf x=some .cell∨X.env.kindOf x=some .free)->∃c,X.env.cells.lookup x=some c
 cab:∀x c,X.fn x=true->X.env.cells.lookup x=some c->X.s₀.heap.objs.size<=c
 hd:X.calm=true->X.A.handled=none
 frames:X.A.frames=some X.stack
 stk:X.stack=X.outer∨(X.stack=X.env::X.outer/\X.env.frame=some X.env.locals)
 exf:∀b∈X.ex,b≠X.env.locals/\∀x c,X.env.cells.lookup x=some c->c≠b
 bs:∀b o,X.base.get? b=some o->X.s₀.heap.get? b=some o/\X.H₀ b=none
 bsz:X.base.objs.size<=X.s₀.heap.objs.size
 noex:∀b o,X.base.get? b=some o->b∉X.ex
 exfs:∀b∈X.ex,b∉X.fs
 funs:X.s₀.heap.FunFrames X.base X.outer
 frf:∀b∈X.fs,X.H₀ b=none
structure Inv(X:Cx)(pins:List (Addr×Obj))(σ:List (Option V))(H:Hp)(s:Shared):Prop where
 ok:X.Ok
 os:s.os=X.s₀.os
 bare:AllBare s.gens
 base:Un X.fs X.ex X.H₀ H X.s₀.heap s.heap
 loc:∃m,s.heap.Ns X.env.locals m/\∀(i:Nat) (x:Str) (v:V),X.N[i]?=some x->σ[i]?=some (some v)->Vis X.env.scope x->∃u,RelV v u/\Look X.env s.heap m x u
 cell:∀x c,X.env.cells.lookup x=some c->∃v,s.heap.IsCell c v
 free:H X.env.locals=none
 freeC:∀x c,X.env.cells.lookup x=some c->H c=none
 pin:∀p∈X.pn++pins,s.heap.get? p.1=some p.2/\H p.1=none/\p.1≠X.env.locals/\p.1∉X.fs/\∀v,p.2.data≠.cell v
 hok:HOk X.prog X.w H s.heap
 len:σ.length=X.N.length
section
variable   {σ:List (Option V)}   
theorem Cx.Ok.nofr(ok:X.Ok){o:Obj}(e:X.base.get? b=some o):b∉X.fs:=λa=>by
 have:=(ok.funs.mem a).1;rw[e] at this;cases this
theorem Inv.bs(I:Inv X pins σ H s):∀b o,X.base.get? b=some o->s.heap.get? b=some o/\H b=none:=λb o e=>
 ⟨I.base.keep b o (I.ok.bs b o e).1 (I.ok.bs b o e).2 (I.ok.nofr e) (I.ok.noex b o e),I.base.free b o (I.ok.bs b o e).1 (I.ok.bs b o e).2 (I.ok.noex b o e)⟩
theorem Inv.bk(I:Inv X pins σ H s):∀b o,X.base.get? b=some o->s.heap.get? b=some o:=λb o e=>(I.bs b o e).1
theorem Inv.mod(I:Inv X pins σ H s):Mod X.K X.mg X.base:=I.ok.mod
theorem Inv.kIn(I:Inv X pins σ H s):X.K.In s.heap:=I.ok.mod.kin.keeps I.bk
theorem Inv.lt(I:Inv X pins σ H s):X.env.locals<s.heap.objs.size:=let ⟨_,a,_⟩:=I.loc;a.lt
theorem Inv.sz(I:Inv X pins σ H s):X.s₀.heap.objs.size<=s.heap.objs.size:=aas I.ok.above (ab1 I.lt)
theorem Inv.nofs(I:Inv X pins σ H s)(h:s.heap.objs.size<=a):a∉X.fs:=λb=>by
 obtain⟨_,o,ho,_⟩:=I.ok.funs.mem b;exact absurd (aaq (aag ho) (aas I.sz h)) (aaX _)
theorem Inv.cne(I:Inv X pins σ H s):∀x c,X.env.cells.lookup x=some c->c≠X.env.locals:=λx c e z=>by
 obtain⟨v,o,ho,hd⟩:=I.cell x c e;obtain⟨m,⟨o',es,ep,a,b,_⟩,_⟩:=I.loc;rw[z,a] at ho;cases ho;rw[b] at hd;cases hd
theorem Inv.funs(I:Inv X pins σ H s):s.heap.FunFrames X.base X.outer:=by
 have all:∀(l:List Env),(∀b∈frs l,b∈X.fs)->X.s₀.heap.FunFrames X.base l->s.heap.FunFrames X.base l:=by
  intro l
  induction l with
  |nil=>intro _ _;trivial
  | cons env r f=>
   intro hs hl;obtain⟨i,⟨L,o,a,g,ho,hd⟩,hr⟩:=hl;have d:L∈X.fs:=hs L (by unfold frs;rw[abi,a];exact aab);obtain⟨sl,e⟩:=I.base.slot L o ho (I.ok.frf L d) d λz=>I.ok.exfs L z d;exact⟨i,⟨L,_,a,g,e,hd⟩,f (λb c=>hs b (by unfold frs;rw[abi,a];exact aae _ c)) hr⟩
 exact all X.outer (λ_ c=>c) I.ok.funs
theorem Inv.stack(I:Inv X pins σ H s):s.heap.FunFrames X.base X.stack:=by
 rcases I.ok.stk with e|⟨e,b⟩
 ·rw[e];exact I.funs
 ·rw[e];obtain⟨m,a,_⟩:=I.loc;refine .cons (by rw[I.ok.kind];decide) b a ?_ I.funs;exact Heap.get?_none_of_le (aas I.ok.bsz I.ok.above)
theorem Inv.stkSub(I:Inv X pins σ H s):∀b∈frs X.stack,b∈X.env.locals::X.fs:=λb a=>by
 rcases I.ok.stk with e|⟨e,c⟩
 ·rw[e] at a;exact aae _ a
 ·rw[e] at a;unfold frs at a;rw[abi,c] at a;exact a
theorem Inv.stkFree(I:Inv X pins σ H s):∀b∈frs X.stack,H b=none:=λb a=>by
 rcases abH.mp (I.stkSub b a) with e|a
 ·rw[e];exact I.free
 ·obtain⟨_,o,ho,_⟩:=I.ok.funs.mem a;exact I.base.free b o ho (I.ok.frf b a) λz=>I.ok.exfs b z a
theorem Inv.step{g':Array GenState}{t':Nat}{d':Drawn}{ch:List Addr}(I:Inv X pins σ H s)
  (g:∀b∈ch,(b∈X.ex∨X.s₀.heap.objs.size<=b)/\b≠X.env.locals/\(∀x c,X.env.cells.lookup x=some c->c≠b)/\∀p∈X.pn++pins,p.1≠b)
  (keep:∀b o,b≠X.env.locals->b∉X.fs->b∉ch->s.heap.get? b=some o->H b=none->h'.get? b=some o)
  (slot:∀b o,b≠X.env.locals->b∈X.fs->b∉ch->s.heap.get? b=some o->H b=none->∃sl,h'.get? b=some { o with slots:=sl }) (free:∀b o,b∉ch->s.heap.get? b=some o->H b=none->H' b=none)
  (there:∀b o,b∉ch->s.heap.get? b=some o->∃o',h'.get? b=some o')
  (tups:∀b xs,H b=some (.tup xs)->H' b=some (.tup xs)) (frzs:∀b o u,H b=some (.frz o u)->H' b=some (.frz o u)) (tbls:∀b ps,H b=some (.tbl ps)->∃more,H' b=some (.tbl (ps++more)))
  (ns:∀m,s.heap.Ns X.env.locals m->h'.Ns X.env.locals m) (hok:HOk X.prog X.w H' h') (J:AllBare g') :
  Inv X pins σ H' { s with heap:=h',gens:=g',drawn:=d',toks:=t' }:=by
 have A:∀b o,X.s₀.heap.get? b=some o->b≠X.env.locals:=λb o e=>aak (aaq (aag e) I.ok.above)
 have t:∀b o,X.s₀.heap.get? b=some o->b∉X.ex->b∉ch:=λb o e a y=>by
  rcases (g b y).1 with z|z
  ·exact a z
  ·exact absurd (aaq (aag e) z) (aaX _)
 have j:∀x c,X.env.cells.lookup x=some c->∀v,s.heap.IsCell c v->h'.IsCell c v:=λx c e v ⟨o,ho,hd⟩=>by
  have f:c∉ch:=λz=>(g c z).2.2.1 x c e rfl;by_cases E:c∈X.fs
  ·obtain⟨sl,q⟩:=slot c o (I.cne x c e) E f ho (I.freeC x c e);exact⟨_,q,hd⟩
  ·exact⟨o,keep c o (I.cne x c e) E f ho (I.freeC x c e),hd⟩
 refine⟨I.ok,I.os,J,⟨λb o e n y a=>?_,λb o e n y a=>?_,λb o e n a=>?_,λb o e a=>?_,λb xs e=>tups b xs (I.base.tups b xs e),λb o xs e=>frzs b o xs (I.base.frzs b o xs e),λb ps e=>?_⟩,?_,λx c e=>?_,?_,λx c e=>?_,λp hp=>?_,hok,I.len⟩
 ·exact keep b o (A b o e) y (t b o e a) (I.base.keep b o e n y a) (I.base.free b o e n a)
 ·obtain⟨sl,w⟩:=I.base.slot b o e n y a;obtain⟨C,B⟩:=slot b _ (A b o e) y (t b o e a) w (I.base.free b o e n a);exact⟨C,B⟩
 ·obtain⟨o',w⟩:=I.base.there b o e a;exact free b o' (t b o e a) w (I.base.free b o e n a)
 ·obtain⟨o',w⟩:=I.base.there b o e a;exact there b o' (t b o e a) w
 ·obtain⟨F,w⟩:=I.base.tbls b ps e;obtain⟨m2,B⟩:=tbls b _ w;exact⟨F++m2,by rw[B,Array.append_assoc]⟩
 ·obtain⟨m,G,hl⟩:=I.loc;refine⟨m,ns m G,λi x v w B K=>?_⟩;obtain⟨u,r,l⟩:=hl i x v w B K;refine⟨u,r,?_⟩;rcases l with l|⟨k,c,e,z⟩
  ·exact .inl l
  ·exact .inr ⟨k,c,e,j x c e _ z⟩
 ·obtain⟨v,z⟩:=I.cell x c e;exact⟨v,j x c e v z⟩
 ·obtain⟨m,⟨o,_,_,ho,_⟩,_⟩:=I.loc;exact free _ o (λz=>(g _ z).2.1 rfl) ho I.free
 ·obtain⟨v,o,ho,hd⟩:=I.cell x c e;exact free c o (λz=>(g c z).2.2.1 x c e rfl) ho (I.freeC x c e)
 ·obtain⟨e,n,ne,D,d⟩:=I.pin p hp;have f:p.1∉ch:=λz=>(g p.1 z).2.2.2 p hp rfl;exact⟨keep p.1 p.2 ne D f e n,free p.1 p.2 f e n,ne,D,d⟩
theorem Inv.un(I:Inv X pins σ H s)(u:Un X.fs [] H H' s.heap h')(hok:HOk X.prog X.w H' h'):Inv X pins σ H' { s with heap:=h',toks:=t' }:=by
 obtain⟨m,⟨o,es,ep,ho,r⟩,_⟩:=id I.loc;obtain⟨sl,i⟩:=u.any ho I.free (by simp)
 exact I.step (g':=s.gens) (d':=s.drawn) (ch:=[]) (λ_ z=>nomatch z) (λb o _ c _ e n=>u.keep b o e n c (by simp)) (λb o _ c _ e n=>u.slot b o e n c (by simp)) (λb o _ e n=>u.free b o e n (by simp)) (λb o _ e=>u.there b o e (by simp)) u.tups u.frzs u.tbls (λj g=>by
  obtain⟨o',d,f,a,r'⟩:=g;rw[ho] at a;cases a;exact⟨_,d,f,i,r'⟩) hok I.bare
theorem Inv.call{g':Array GenState}{d':Drawn}(I:Inv X pins σ H s)(u:Un (frs X.stack) ch H H' s.heap h')(hok:HOk X.prog X.w H' h')(l:AllBare g')
  (f:∀b∈ch,(b∈X.ex∨X.s₀.heap.objs.size<=b)/\b≠X.env.locals/\(∀x c,X.env.cells.lookup x=some c->c≠b)/\∀p∈X.pn++pins,p.1≠b) :
  Inv X pins σ H' { s with heap:=h',gens:=g',drawn:=d',toks:=t' }:=by
 obtain⟨m,⟨o,es,ep,ho,r⟩,_⟩:=id I.loc;obtain⟨sl,g⟩:=u.any ho I.free λz=>(f _ z).2.1 rfl
 exact I.step (ch:=ch) f (λb o g q a e n=>u.keep b o e n (λz=>(abH.mp (I.stkSub b z)).elim g q) a) (λb o _ _ a e n=>u.any e n a) (λb o a e n=>u.free b o e n a) (λb o a e=>u.there b o e a) u.tups u.frzs u.tbls (λt k=>by
  obtain⟨o',i,j,d,r'⟩:=k;rw[ho] at d;cases d;exact⟨_,i,j,g,r'⟩) hok l
theorem Inv.turned(I:Inv X pins σ H s)(k:∀b o,b≠it->s.heap.get? b=some o->h'.get? b=some o)(g:H it=none)(f:it≠X.env.locals)
  (h1:it∈X.ex∨X.s₀.heap.objs.size<=it) (h2:∀x c,X.env.cells.lookup x=some c->c≠it) (l:∀p∈X.pn++pins,p.1≠it):Inv X pins σ H { s with heap:=h',toks:=t' }:=by
 have d:∀b u,H b=some u->b≠it:=λb u e z=>by rw[z,g] at e;cases e
 refine I.step (g':=s.gens) (d':=s.drawn) (ch:=[it]) (λb j=>?_) (λb o _ _ a e _=>k b o (λz=>a (by simp[z])) e) (λb o _ _ a e _=>⟨o.slots,k b o (λz=>a (by simp[z])) e⟩) (λ_ _ _ _ n=>n)
  (λb o a e=>⟨o,k b o (λz=>a (by simp[z])) e⟩) (λ_ _ e=>e) (λ_ _ _ e=>e) (λb ps e=>⟨#[],by rw[e];simp⟩) (λm i=>?_) (λb u e=>?_) I.bare
 ·have e:b=it:=(by exists j);subst e;exact⟨h1,f,h2,l⟩
 ·obtain⟨o,es,ep,ho,r⟩:=i;exact⟨o,es,ep,k _ o (Ne.symm f) ho,r⟩
 ·refine(I.hok b u e).stay (λc v a q=>k c v ?_ q) (λ_ q=>q) λ_ _ q=>q;rcases a with z|z
  ·rw[z];exact d b u e
  ·exact d c _ z
theorem Inv.tok(I:Inv X pins σ H s)(t:Nat):Inv X pins σ H { s with toks:=t }:=I.un (h':=s.heap) (t':=t) Un.refl I.hok
theorem Inv.kept(I:Inv X pins σ H s)(k:∀b u,s.heap.get? b=some u->h'.get? b=some u):Inv X pins σ H { s with heap:=h',toks:=t' }:=I.un (Un.kept k) (I.hok.kept k)
theorem Inv.laid(I:Inv X pins σ H s)(k:∀b u,s.heap.get? b=some u->h'.get? b=some u)(hp:s.heap.objs.size<=a)(new:ObjOk X.prog X.w (upd H a o) h' a o) :
  Inv X pins σ (upd H a o) { s with heap:=h',toks:=t' }:=I.un (Un.laid k hp (I.hok.fresh hp)) (I.hok.laid k hp new)
theorem Inv.write{x e:Addr}(I:Inv X pins σ H s)(c:Mut (H x))(he:e=x∨H e=some (.own x))(k:∀b u,b≠e->s.heap.get? b=some u->h'.get? b=some u)(a:∃u,h'.get? e=some u)
  (new:ObjOk X.prog X.w (upd H x o) h' x o):Inv X pins σ (upd H x o) { s with heap:=h',toks:=t' }:=I.un (Un.write c he k a) (I.hok.write c he k a new)
theorem Inv.pins_of{a:List (Addr×Obj)}(I:Inv X pins σ H s)(h:∀p∈a,s.heap.get? p.1=some p.2/\H p.1=none/\p.1≠X.env.locals/\p.1∉X.fs/\∀v,p.2.data≠.cell v):Inv X a σ H s:=
 ⟨I.ok,I.os,I.bare,I.base,I.loc,I.cell,I.free,I.freeC,λp hp=>(abA.mp hp).elim (λz=>I.pin p (aaw _ z)) (h p),I.hok,I.len⟩
theorem ny(c:N.Nodup)(a:N[i]?=some x)(b:N[j]?=some x):i=j:=by
 obtain⟨h1,e⟩:=List.getElem?_eq_some_iff.mp a;obtain⟨h2,d⟩:=List.getElem?_eq_some_iff.mp b;exact(List.getElem_inj c).mp (e.trans d.symm)
theorem kD{M:Model}{Q:Unit->Shared->Prop}(I:Inv X pins σ H s)(hN:X.N.Nodup)(hi:X.N[i]?=some x)(hx:Loc X.env.scope x)(r:RelV v u)
  (h:∀s',Inv X pins (σ.set i (some v)) H s'->(∃a,Heap.SameBut a s.heap s'.heap/\(a=X.env.locals∨X.env.cells.lookup x=some a))->Q () s') (hf:autoParam (X.fn x=true∨X.env.scope.names.lookup x=some .local) L2.aF._auto_1):wpAny M A (storeName X.env x u) Q E s:=by
 obtain⟨m,Y,hl⟩:=id I.loc;have L:(X.env.scope.kind==.class || (X.env.scope.kind==.module&&X.env.locals != X.env.globals))=false:=by rw[I.ok.kind];rfl
 have C:i<σ.length:=by rw[I.len];exact(List.getElem?_eq_some_iff.mp hi).1
 have cne:=I.cne
 have f:∀{a:Addr} {h':Heap},(∃o,s.heap.get? a=some o/\H a=none)->Heap.SameBut a s.heap h'->HOk X.prog X.w H h':=fun {a h'} ha hs b ob e=>by
  obtain⟨_,_,t⟩:=ha;refine(I.hok b ob e).stay (λc P l q=>(hs.2 c ?_).trans q) (λ_ q=>q) λ_ _ q=>q;rintro rfl;rcases l with rfl|l
  ·rw[t] at e;cases e
  ·rw[t] at l;cases l
 rcases hx with B|B
 ·refine wpAny_storeName_local B Y (λh' W hs=>?_) L;obtain⟨oL,_,_,V,_⟩:=id Y;refine h _ ⟨I.ok,I.os,I.bare,⟨λb o e n G hx=>?_,λb o e n G hx=>?_,I.base.free,λb o e hx=>?_,I.base.tups,I.base.frzs,I.base.tbls⟩,⟨_,W,λj y S g w Z=>?_⟩,λy c e=>?_,I.free,I.freeC,λp hp=>?_,f ⟨oL,V,I.free⟩ hs,by simpa using I.len⟩ ⟨_,hs,.inl rfl⟩
  ·exact(hs.2 b (aak (aaq (aag e) I.ok.above))).trans (I.base.keep b o e n G hx)
  ·obtain⟨sl,g⟩:=I.base.slot b o e n G hx;exact⟨sl,(hs.2 b (aak (aaq (aag e) I.ok.above))).trans g⟩
  ·obtain⟨o',g⟩:=I.base.there b o e hx;exact⟨o',(hs.2 b (aak (aaq (aag e) I.ok.above))).trans g⟩
  ·by_cases D:j=i
   ·subst D;rw[hi] at g;cases g;rw[List.getElem?_set_self C] at w;cases w;exact⟨u,r,.inl ⟨B,by simp⟩⟩
   ·rw[List.getElem?_set_ne (Ne.symm D)] at w;obtain⟨T,r',q⟩:=hl j y S g w Z;refine⟨T,r',?_⟩;rcases q with ⟨k,e⟩|⟨k,c,e,z⟩
    ·refine .inl ⟨k,?_⟩;have:y≠x:=λe=>D (ny hN g (e ▸ hi));simp[this,e]
    ·exact .inr ⟨k,c,e,z.sameBut hs (cne y c e)⟩
  ·obtain⟨P,z⟩:=I.cell y c e;exact⟨P,z.sameBut hs (cne y c e)⟩
  ·obtain⟨e,n,ne,U,d⟩:=I.pin p hp;exact⟨(hs.2 p.1 ne).trans e,n,ne,U,d⟩
 ·have F:X.fn x=true:=by
   rcases hf with z|z
   ·exact z
   ·rw[z] at B;cases B
  obtain⟨c,l⟩:=I.ok.has x (.inl B);obtain⟨P,z⟩:=I.cell x c l;refine wpAny_storeName_cell I.ok.kind B l z (λh' O hs=>?_);obtain⟨oc,K,J⟩:=id z;refine h { s with heap:=h' } ⟨I.ok,I.os,I.bare,⟨λb o e n G hx=>?_,λb o e n G hx=>?_,I.base.free,λb o e hx=>?_,I.base.tups,I.base.frzs,I.base.tbls⟩,⟨m,Y.sameBut hs (Ne.symm (cne x c l)),λj y S g w Z=>?_⟩,λy R e=>?_,I.free,I.freeC,λp hp=>?_,f ⟨oc,K,I.freeC x c l⟩ hs,by simpa using I.len⟩ ⟨c,hs,.inr l⟩
  ·exact(hs.2 b (aak (aaq (aag e) (I.ok.cab x c F l)))).trans (I.base.keep b o e n G hx)
  ·obtain⟨sl,g⟩:=I.base.slot b o e n G hx;exact⟨sl,(hs.2 b (aak (aaq (aag e) (I.ok.cab x c F l)))).trans g⟩
  ·obtain⟨o',g⟩:=I.base.there b o e hx;exact⟨o',(hs.2 b (aak (aaq (aag e) (I.ok.cab x c F l)))).trans g⟩
  ·by_cases D:j=i
   ·subst D;rw[hi] at g;cases g;rw[List.getElem?_set_self C] at w;cases w;exact⟨u,r,.inr ⟨.inl B,c,l,O⟩⟩
   ·rw[List.getElem?_set_ne (Ne.symm D)] at w;obtain⟨T,r',q⟩:=hl j y S g w Z;refine⟨T,r',?_⟩;rcases q with q|⟨k,R,e,z'⟩
    ·exact .inl q
    ·refine .inr ⟨k,R,e,z'.sameBut hs ?_⟩;rintro rfl;exact D (ny hN g (I.ok.inj _ _ _ e l ▸ hi))
  ·by_cases N:R=c
   ·subst N;exact⟨_,O⟩
   ·obtain⟨w2,z2⟩:=I.cell y R e;exact⟨w2,z2.sameBut hs N⟩
  ·obtain⟨e,n,ne,U,d⟩:=I.pin p hp;refine⟨(hs.2 p.1 ?_).trans e,n,ne,U,d⟩;intro q;rw[q,K] at e;have q':oc=p.2:=aai e;exact d P (by rw[← q'];exact J)
theorem nB{M:Model}{Q:Unit->Shared->Prop}(I:Inv X pins σ H s)(b:X.N.Nodup)(hi:X.N[i]?=some x)(hx:Loc X.env.scope x)(r:RelV v u)
  (h:∀s',Inv X pins (σ.set i (some v)) H s'->Q () s') (a:autoParam (X.fn x=true∨X.env.scope.names.lookup x=some .local) L2.aF._auto_1):wpAny M A (storeName X.env x u) Q E s:=
 kD I b hi hx r (λs' c _=>h s' c) a
theorem Inv.call'(I:Inv X pins σ H s)(ho:s'.os=s.os)(u:Un (frs X.stack) ch H H' s.heap s'.heap)(hok:HOk X.prog X.w H' s'.heap)(d:AllBare s'.gens)
  (a:∀b∈ch,(b∈X.ex∨X.s₀.heap.objs.size<=b)/\b≠X.env.locals/\(∀x c,X.env.cells.lookup x=some c->c≠b)/\∀p∈X.pn++pins,p.1≠b):Inv X pins σ H' s':=by
 obtain⟨h',g',f,t',o'⟩:=s';have e:o'=s.os:=ho;subst e;exact I.call (g':=g') (t':=t') (d':=f) u hok d a
end
abbrev XK:=Value->Option Addr->Hp->Prop
abbrev St:=List (Option V)
variable{σ:St}
abbrev VK:=V->Hp->Prop
abbrev TE:=St->Hp->VK->Prop
variable{ta tb te tl:TE}
abbrev TT:=St->Hp->(Bool->Hp->Prop)->Prop
variable{tc:TT}
abbrev TA:=St->Hp->(List V->Hp->Prop)->Prop
variable{t:TA}
structure Ends where
 nx:St->Hp->Prop
 rt:VK
 bk:St->Hp->Prop:=λ_ _=>False
 ct:St->Hp->Prop:=λ_ _=>False
abbrev TS:=Ends->St->Hp->Prop
def EP(X:Cx)(pins:List (Addr×Obj))(σ:St)(Q:VK)(u:Value)(s':Shared):Prop:=∃v H',Inv X pins σ H' s'/\RelV v u/\Q v H'
def TP(X:Cx)(pins:List (Addr×Obj))(σ:St)(Q:Bool->Hp->Prop)(b:Bool)(s':Shared):Prop:=∃H',Inv X pins σ H' s'/\Q b H'
def AP(X:Cx)(pins:List (Addr×Obj))(σ:St)(Q:List V->Hp->Prop)(us:List Value)(s':Shared):Prop:=∃vs H',Inv X pins σ H' s'/\Vals vs us/\Q vs H'
def SP(X:Cx)(pins:List (Addr×Obj))(D:Ends)(f:Flow)(s':Shared):Prop:=
 match f with
 |.next=>∃a H',Inv X pins a H' s'/\D.nx a H'
 |.brk=>∃a H',Inv X pins a H' s'/\D.bk a H'
 |.cont=>∃a H',Inv X pins a H' s'/\D.ct a H'
 |.ret u=>∃v a H',Inv X pins a H' s'/\RelV v u/\D.rt v H'
def PE(X:Cx)(e:Expr)(t:TE):Prop:=
 ∀(pins:List (Addr×Obj)) (s:Shared) (σ:St) (H:Hp) (Q:VK),Inv X pins σ H s->t σ H Q->wpAny (model X.prog X.w) X.A (eval e X.env) (EP X pins σ Q) X.xe s
def PT(X:Cx)(e:Expr)(t:TT):Prop:=
 ∀(pins:List (Addr×Obj)) (s:Shared) (σ:St) (H:Hp) (Q:Bool->Hp->Prop),Inv X pins σ H s->t σ H Q->wpAny (model X.prog X.w) X.A (isTrue e X.env (eval e X.env)) (TP X pins σ Q) X.xe s
def PW(X:Cx)(e:Expr)(t:TT):Prop:=
 ∀(whole:Sem Value) (pins:List (Addr×Obj)) (s:Shared) (σ:St) (H:Hp) (Q:Bool->Hp->Prop),Inv X pins σ H s->t σ H Q->wpAny (model X.prog X.w) X.A (isTrue e X.env whole) (TP X pins σ Q) X.xe s
theorem PW.pt{t:TT}(h:PW X e t):PT X e t:=h _
def PA(X:Cx)(es:List Expr)(t:TA):Prop:=
 ∀(pos:Pos) (pins:List (Addr×Obj)) (s:Shared) (σ:St) (H:Hp) (Q:List V->Hp->Prop),Inv X pins σ H s->t σ H Q->wpAny (model X.prog X.w) X.A (spliced (backTo pos (starEach es X.env))) (AP X pins σ Q) X.xe s
def PS(X:Cx)(st:Stmt)(t:TS):Prop:=
 ∀(pins:List (Addr×Obj)) (s:Shared) (σ:St) (H:Hp) (D:Ends),Inv X pins σ H s->t D σ H->wpAny (model X.prog X.w) X.A (exec st X.env) (SP X pins D) X.xe s
def PSs(X:Cx)(st:List Stmt)(t:TS):Prop:=
 ∀(pins:List (Addr×Obj)) (s:Shared) (σ:St) (H:Hp) (D:Ends),Inv X pins σ H s->t D σ H->wpAny (model X.prog X.w) X.A (execs st X.env) (SP X pins D) X.xe s
theorem thn{t:Sem α}{Q Q':α->Shared->Prop}{M:Model}(h:wpAny M A t Q E s)(b:∀a s,Q a s->Q' a s):wpAny M A t Q' E s:=abj h b λ_ _ x=>x
section
theorem bin{a b:Expr}(o:PE X a ta)(n:PE X b tb)(I:Inv X pins σ H s)(h:ta σ H λx H1=>tb σ H1 λy H2=>R x y H2)
   {Q:α->Shared->Prop} {f:Value->Value->Sem α}
  (m:∀v u e x y H2,Inv X pins σ H2 e->RelV x v->RelV y u->R x y H2->wpAny (model X.prog X.w) X.A (f v u) Q X.xe e) :
  wpAny (model X.prog X.w) X.A (eval a X.env) (λv d=>wpAny (model X.prog X.w) X.A (eval b X.env) (λu c=>wpAny (model X.prog X.w) X.A (f v u) Q X.xe c) X.xe d) X.xe s:=by
 refine thn (o pins s σ H _ I h) λv g z=>?_;obtain⟨x,H1,q,j,l⟩:=z;refine thn (n pins g σ H1 _ q l) λu e t=>?_;obtain⟨y,H2,p,i,k⟩:=t;exact m v u e x y H2 p j i k
def dD(i:Nat):TE:=λσ H Q=>∃v,σ[i]?=some (some v)/\Q v H
def tC(v:V):TE:=λ_ H Q=>Q v H
theorem Gv(n:X.N[i]?=some x)(g:Vis X.env.scope x)(hd:autoParam ((x==("__debug__" : Str))=false) L2.aD._auto_1)(d:autoParam ((x==("__classdict__" : Str))=false) L2.aD._auto_1):PE X (.Name x pos) (dD i):=by
 intro pins s σ H Q I h;obtain⟨v,e,h⟩:=h;obtain⟨m,j,hl⟩:=I.loc;obtain⟨u,r,l⟩:=hl i x v n e g;have fin:EP X pins σ Q u s:=⟨v,H,I,r,h⟩;rcases l with ⟨b,k⟩|⟨b,c,f,a⟩
 ·exact wpAny_Name (wpAny_loadName_local I.ok.kind b j k fin) hd
 ·rcases b with b|b
  ·exact wpAny_Name (wpAny_loadName_cell I.ok.kind b f a fin) hd
  ·exact wpAny_Name (wpAny_loadName_free I.ok.kind b f a fin d) hd
theorem Gw{i j pos}:PE X (.Constant (.int i) j pos) (tC (.int i)):=λ_ _ _ H _ I h=>wpAny_Constant_int ⟨.int i,H,I.tok _,⟨_,rfl⟩,h⟩
theorem K4{b j pos}:PE X (.Constant (.bool b) j pos) (tC (.bl b)):=λ_ _ _ H _ I h=>Constant_bool ⟨.bl b,H,I,rfl,h⟩
theorem Gx{j pos}:PE X (.Constant .none j pos) (tC .non):=λ_ _ _ H _ I h=>Constant_none ⟨.non,H,I,rfl,h⟩
theorem Gy{x j pos}:PE X (.Constant (.str x) j pos) (tC (.str x)):=λ_ _ _ H _ I h=>Calls.Constant_str ⟨.str x,H,I.tok _,⟨_,rfl⟩,h⟩
def Gl(X:Cx)(x:Str):Prop:=X.env.kindOf x=some .globalImplicit
theorem ml(I:Inv X pins σ H s)(b:Gl X x)(a:X.mg x=some u)(h:Q u s)
  (hd:autoParam ((x==("__debug__" : Str))=false) L2.aD._auto_1):wpAny (model X.prog X.w) X.A (eval (.Name x pos) X.env) Q E s:=
 Calls.Name_function_global I.ok.kind b (Calls.loadGlobal_global (by rw[I.ok.glob];exact I.mod.glob.keeps I.bk) a h) hd
theorem jb(I:Inv X pins σ H s)(d:Gl X x)(c:X.mg x=none)(a:bootBuiltins x=some u)(h:Q u s)
  (b:autoParam (x ≠ "__name__") L2.aD._auto_1) (hd:autoParam ((x==("__debug__" : Str))=false) L2.aD._auto_1):wpAny (model X.prog X.w) X.A (eval (.Name x pos) X.env) Q E s:=by
 obtain⟨e,h1,h2⟩:=I.mod.blt;exact Calls.Name_function_global I.ok.kind d (Calls.loadGlobal_builtin (by rw[I.ok.glob];exact I.mod.glob.keeps I.bk) c (by rw[I.ok.blt];exact h1.keeps I.bk) ((h2 x b).trans a) h) hd
theorem BB(b:Gl X x)(a:X.mg x=some u)(r:RelV v u)(hd:autoParam ((x==("__debug__" : Str))=false) L2.aD._auto_1):PE X (.Name x pos) (tC v):=
 λ_ _ _ H _ I h=>ml I b a ⟨v,H,I,r,h⟩ hd
theorem BC(d:Gl X x)(c:X.mg x=none)(a:bootBuiltins x=some u)(r:RelV v u)(b:autoParam (x ≠ "__name__") L2.aD._auto_1)(hd:autoParam ((x==("__debug__" : Str))=false) L2.aD._auto_1):PE X (.Name x pos) (tC v):=
 λ_ _ _ H _ I h=>jb I d c a ⟨v,H,I,r,h⟩ b hd
variable {a b:Expr}  
def PC(X:Cx)(op:CmpOp)(a b:Expr)(t:TE):Prop:=
 ∀(pins:List (Addr×Obj)) (s:Shared) (σ:St) (H:Hp) (Q:VK),Inv X pins σ H s->t σ H Q ->
  wpAny (model X.prog X.w) X.A (eval a X.env) (λv d=>wpAny (model X.prog X.w) X.A (eval b X.env) (λu c=>wpAny (model X.prog X.w) X.A (compareOp op v u) (EP X pins σ Q) X.xe c) X.xe d) X.xe s
def tB(t:TE):TT:=λσ H Q=>t σ H λx H1=>∃c,x=.bl c/\Q c H1
theorem MG{t:TE}(h:PC X op a b t)(h1:behindInMarks op b=false:=by first|exact e _ (by decide) (by decide)|rfl):PT X (.Compare a [op] [b] pos) (tB t):=by
 intro pins s σ H Q I hw;refine wpAny_isTrue_Compare1 (thn (h pins s σ H _ I hw) λv l h1=>thn h1 λu k h2=>thn h2 λc j y=>?_) h1;obtain⟨x,H1,i,f,g⟩:=y;obtain⟨d,rfl,q⟩:=g;cases f;exact aaD ⟨H1,i,q⟩
theorem Gz{t:TE}(h:PE X e t)(he:autoParam (∀whole,isTrue e X.env whole=(do let v ← whole;standAt e.pos;holding [v] (truthy v))) L2.aI._auto_1):PT X e (tB t):=by
 intro pins s σ H Q I hw;refine isTrue_plain (thn (h pins s σ H _ I hw) λv f y=>?_) (he _);obtain⟨x,H1,c,a,b⟩:=y;obtain⟨d,rfl,q⟩:=b;cases a;exact aaD ⟨H1,c,q⟩
variable {tA tB':TT} {rest:List Expr}
def K5(t u:TT):TT:=λσ H Q=>t σ H λc H1=>if c=true then u σ H1 Q else Q false H1
def tOr(t u:TT):TT:=λσ H Q=>t σ H λc H1=>if c=true then Q true H1 else u σ H1 Q
def K6(t:TT):TT:=λσ H Q=>t σ H λc H1=>Q (!c) H1
theorem BD(b:PT X a tA):PW X (.BoolOp .And [a] pos) tA:=by
 intro d pins s σ H Q I h;refine isTrue_and (thn (b pins s σ H Q I h) λc f e=>?_)
 cases c with
 |true=>exact isTrue_and_nil e
 |false=>exact e
theorem GA(b:PT X a tA):PW X (.BoolOp .Or [a] pos) tA:=by
 intro d pins s σ H Q I h;refine isTrue_or (thn (b pins s σ H Q I h) λc f e=>?_)
 cases c with
 |false=>exact isTrue_or_nil e
 |true=>exact e
theorem GB(j:PT X a tA)(i:PW X (.BoolOp .And (b::rest) pos) tB'):PW X (.BoolOp .And (a::b::rest) pos) (K5 tA tB'):=by
 intro f pins s σ H Q I h;refine isTrue_and (thn (j pins s σ H _ I h) λc g y=>?_);obtain⟨H1,e,d⟩:=y
 cases c with
 |true=>exact i f pins g σ H1 Q e d
 |false=>exact⟨H1,e,d⟩
theorem K8(j:PT X a tA)(i:PW X (.BoolOp .Or (b::rest) pos) tB'):PW X (.BoolOp .Or (a::b::rest) pos) (tOr tA tB'):=by
 intro f pins s σ H Q I h;refine isTrue_or (thn (j pins s σ H _ I h) λc g y=>?_);obtain⟨H1,e,d⟩:=y
 cases c with
 |true=>exact⟨H1,e,d⟩
 |false=>exact i f pins g σ H1 Q e d
theorem GC(b:PT X a tA):PT X (.UnaryOp .Not a pos) (K6 tA):=by
 intro pins s σ H Q I h;exact isTrue_not (b pins s σ H (λc H1=>Q (!c) H1) I h)
def BF(ta tb:TE):TE:=λσ H Q=>ta σ H λx H1=>∃c,x=.bl c/\if c=true then tb σ H1 Q else Q (.bl false) H1
def K9(ta tb:TE):TE:=λσ H Q=>ta σ H λx H1=>∃c,x=.bl c/\if c=true then Q (.bl true) H1 else tb σ H1 Q
def BH(ta:TE):TE:=λσ H Q=>ta σ H λx H1=>∃c,x=.bl c/\Q (.bl (!c)) H1
theorem GD{op}{t:TE}(h:PE X a t):PE X (.BoolOp op [a] pos) t:=λpins s σ H Q I hw=>BoolOp_one (h pins s σ H Q I hw)
theorem GE(j:PE X a ta)(i:PE X (.BoolOp .And (b::rest) pos) tb):PE X (.BoolOp .And (a::b::rest) pos) (BF ta tb):=by
 intro pins s σ H Q I h;refine BoolOp_and (thn (j pins s σ H _ I h) λv f y=>?_);obtain⟨x,H1,e,g,d⟩:=y;obtain⟨c,rfl,d⟩:=d;cases g;refine aaD ?_
 cases c with
 |true=>exact i pins f σ H1 Q e d
 |false=>exact⟨.bl false,H1,e,rfl,d⟩
theorem La(j:PE X a ta)(i:PE X (.BoolOp .Or (b::rest) pos) tb):PE X (.BoolOp .Or (a::b::rest) pos) (K9 ta tb):=by
 intro pins s σ H Q I h;refine BoolOp_or (thn (j pins s σ H _ I h) λv f y=>?_);obtain⟨x,H1,e,g,d⟩:=y;obtain⟨c,rfl,d⟩:=d;cases g;refine aaD ?_
 cases c with
 |false=>exact i pins f σ H1 Q e d
 |true=>exact⟨.bl true,H1,e,rfl,d⟩
theorem GG(e:PE X a ta):PE X (.UnaryOp .Not a pos) (BH ta):=by
 intro pins s σ H Q I h;refine UnaryOp_ (thn (e pins s σ H _ I h) λv g y=>?_);obtain⟨x,H1,f,d,b⟩:=y;obtain⟨c,rfl,b⟩:=b;cases d;exact not_of (aaD ⟨.bl (!c),H1,f,rfl,b⟩)
def tIf(t:TT)(ta tb:TE):TE:=λσ H Q=>t σ H λc H1=>if c=true then ta σ H1 Q else tb σ H1 Q
theorem wl(i:PT X c tA)(k:PE X a ta)(j:PE X b tb):PE X (.IfExp c a b pos) (tIf tA ta tb):=by
 intro pins s σ H Q I h;refine wpAny_IfExp (thn (i pins s σ H _ I h) λd e y=>?_);obtain⟨H1,g,f⟩:=y
 cases d with
 |true=>exact k pins e σ H1 Q g f
 |false=>exact j pins e σ H1 Q g f
end
def SqL(K:Frag)(H:Hp)(a:Addr)(xs:List V):Prop:=
 Rd H a (.lst xs) ∨
  ∃(o:Obj) (its:Array Value) (n:Nat),K.lookup a=some o/\o.cls=.type "list" /\ o.dict=none/\o.data=.seq its n/\its.size<=sizeLine/\Vals xs its.toList
def SqT(K:Frag)(H:Hp)(a:Addr)(xs:List V):Prop:=
 Rd H a (.tup xs) ∨
  ∃(o:Obj) (its:Array Value) (n:Nat),K.lookup a=some o/\o.cls=.type "tuple" /\ o.data=.seq its n/\its.size<=sizeLine/\Vals xs its.toList
def absV:Value->Option V
 |.none=>some .non
 |.bool b=>some (.bl b)
 |.int i _=>some (.int i)
 |.str x _=>some (.str x)
 |.bytes b _=>some (.byt b)
 |.float b _=>some (.flt b)
 |.ref a=>some (.ref a)
 |.type n=>some (.ty n)
 |_=>none
theorem RelV.abs{x:V}(r:RelV x u):absV u=some x:=by
 cases x with
 |non=>cases r;rfl
 |bl _=>cases r;rfl
 |int _=>obtain⟨t,rfl⟩:=r;rfl
 |str _=>obtain⟨t,rfl⟩:=r;rfl
 |byt _=>obtain⟨t,rfl⟩:=r;rfl
 |flt _=>obtain⟨t,rfl⟩:=r;rfl
 |ref _=>cases r;rfl
 |ty _=>cases r;rfl
theorem RelV.inj{x y:V}{u:Value}(r:RelV x u)(q:RelV y u):x=y:=aai (r.abs.symm.trans q.abs)
theorem Vals.inj{xs ys:List V}{us:List Value}(h:Vals xs us)(h':Vals ys us):xs=ys:=by
 induction h generalizing ys with
 |nil=>cases h';rfl
 |cons r t a=>cases h' with|cons r' t'=>rw[r.inj r',a t']
section
variable       {ys:List V}
theorem SqL.of{K:Frag}(h:H a=some (.lst xs)):SqL K H a xs:=.inl (.inl h)
theorem SqT.of{K:Frag}(h:H a=some (.tup xs)):SqT K H a xs:=.inl (.inl h)
theorem Inv.list(I:Inv X pins σ H s)(h:SqL X.K H a xs):∃its:List Value,Vals xs its/\PlainL s.heap a its.toArray/\xs.length<=sizeLine:=by
 rcases h with h|⟨o,its,n,b,c,hd,hs,d,r⟩
 ·obtain⟨z,its,n,r,e⟩:=h.ok I.hok;exact⟨its,r,⟨_,n,e,rfl,rfl,rfl⟩,z⟩
 ·refine⟨its.toList,r,⟨o,n,I.kIn a o b,c,hd,(by exists hs)⟩,?_⟩;have e:=r.length;simp only[Array.length_toList] at e;nofun
theorem Inv.tuple(I:Inv X pins σ H s)(h:SqT X.K H a xs):∃its:List Value,Vals xs its/\IsTup s.heap a its.toArray/\xs.length<=sizeLine:=by
 rcases h with h|⟨o,its,n,b,c,hs,d,r⟩
 ·obtain⟨z,its,r,p⟩:=h.ok I.hok;exact⟨its,r,p,z⟩
 ·refine⟨its.toList,r,⟨o,I.kIn a o b,c,n,(by exists hs)⟩,?_⟩;have e:=r.length;simp only[Array.length_toList] at e;nofun
theorem Inv.list_inj(I:Inv X pins σ H s)(h:SqL X.K H a xs)(h':SqL X.K H a ys):xs=ys:=by
 obtain⟨its,r,⟨o,n,e,_,_,d⟩,_⟩:=I.list h;obtain⟨its',r',⟨o',g,b,_,_,c⟩,_⟩:=I.list h';rw[e] at b;cases b;rw[d] at c;injection c with f _
 have:its=its':=by simpa using congrArg Array.toList f
 subst this;exact r.inj r'
theorem Inv.tuple_inj(I:Inv X pins σ H s)(h:SqT X.K H a xs)(h':SqT X.K H a ys):xs=ys:=by
 obtain⟨its,r,⟨o,e,_,n,d⟩,_⟩:=I.tuple h;obtain⟨its',r',⟨o',b,_,g,c⟩,_⟩:=I.tuple h';rw[e] at b;cases b;rw[d] at c;injection c with f _
 have:its=its':=by simpa using congrArg Array.toList f
 subst this;exact r.inj r'
end
abbrev Cx.wish(X:Cx)(E:Value->Shared->Prop):Cx:={ X with xe:=E }
abbrev Cx.nox(X:Cx):Cx:=X.wish λ_ _=>False
theorem Cx.Ok.wish(ok:X.Ok)(E:Value->Shared->Prop):(X.wish E).Ok:=
 ⟨ok.mod,ok.kind,ok.glob,ok.blt,ok.above,ok.inj,ok.has,ok.cab,ok.hd,ok.frames,ok.stk,ok.exf,ok.bs,ok.bsz,ok.noex,ok.exfs,ok.funs,ok.frf⟩
theorem Cx.Ok.unwish(ok:(X.wish E).Ok):X.Ok:=
 ⟨ok.mod,ok.kind,ok.glob,ok.blt,ok.above,ok.inj,ok.has,ok.cab,ok.hd,ok.frames,ok.stk,ok.exf,ok.bs,ok.bsz,ok.noex,ok.exfs,ok.funs,ok.frf⟩
theorem Inv.wish(I:Inv X pins σ H s)(E:Value->Shared->Prop):Inv (X.wish E) pins σ H s:=⟨I.ok.wish E,I.os,I.bare,I.base,I.loc,I.cell,I.free,I.freeC,I.pin,I.hok,I.len⟩
theorem Inv.unwish(I:Inv (X.wish E) pins σ H s):Inv X pins σ H s:=⟨I.ok.unwish,I.os,I.bare,I.base,I.loc,I.cell,I.free,I.freeC,I.pin,I.hok,I.len⟩
theorem SP.unwish{D:Ends}{f:Flow}(h:SP (X.wish E) pins D f s'):SP X pins D f s':=by
 cases f with
 |next=>obtain⟨a,H',I,q⟩:=h;exact⟨a,H',I.unwish,q⟩
 |brk=>obtain⟨a,H',I,q⟩:=h;exact⟨a,H',I.unwish,q⟩
 |cont=>obtain⟨a,H',I,q⟩:=h;exact⟨a,H',I.unwish,q⟩
 |ret u=>obtain⟨v,a,H',I,r,q⟩:=h;exact⟨v,a,H',I.unwish,r,q⟩
theorem PSs.nox{st:List Stmt}{t:TS}(h:PSs X.nox st t):PSs X st t:=λpins s σ H D I hw=>
 abj (h pins s σ H D (I.wish _) hw) (λ_ _ q=>q.unwish) λ_ _ z=>False.elim z
section
variable  {st:Stmt} {rest:List Stmt} {t u:TS}   
def BJ:TS:=λD σ H=>D.nx σ H
def Lb(t u:TS):TS:=λD σ H=>t { D with nx:=u D } σ H
theorem BK:PSs X [] BJ:=λ_ _ σ H _ I h=>wpAny_execs_nil ⟨σ,H,I,h⟩
theorem wm(h1:PS X st t)(h2:PSs X rest u):PSs X (st::rest) (Lb t u):=by
 intro pins s σ H D I h;refine wpAny_execs_cons (thn (h1 pins s σ H { D with nx:=u D } I h) λf b q=>?_)
 cases f with
 | next=>
  obtain⟨a,H',c,q⟩:=q;exact h2 pins b a H' D c q
 |ret v=>exact q
 |brk=>exact q
 |cont=>exact q
theorem BL(h1:PS X st t):PSs X [st] t:=by
 intro pins s σ H D I h;refine wpAny_execs_cons (thn (h1 pins s σ H D I h) λf a q=>?_)
 cases f with
 |next=>exact wpAny_execs_nil q
 |ret v=>exact q
 |brk=>exact q
 |cont=>exact q
def qZ:TS:=λD σ H=>D.bk σ H
def BM:TS:=λD σ H=>D.ct σ H
theorem wn:PS X (.Break pos) qZ:=λ_ _ σ H _ I h=>wpAny_Break ⟨σ,H,I,h⟩
theorem mm:PS X (.Continue pos) BM:=λ_ _ σ H _ I h=>wpAny_Continue ⟨σ,H,I,h⟩
theorem Inv.quiet(I:Inv X pins σ H s):interactive X.env=false:=by simp[interactive,I.ok.kind]
def wo(te:TE):TS:=λD σ H=>te σ H λ_ H1=>D.nx σ H1
theorem BN(he:PE X e te)(hs:autoParam (swapsWith e none pos.line X.env=pure false) L2.aR._auto_1):PS X (.Expr e pos) (wo te):=by
 intro pins s σ H D I h;exact wpAny_Expr_any (thn (he pins s σ H _ I h) λv c ⟨x,H1,b,d,a⟩=>⟨σ,H1,b,a⟩) I.quiet hs
def Lc(te:TE):TS:=λD σ H=>te σ H D.rt
theorem GH(he:PE X e te):PS X (.Return (some e) pos) (Lc te):=by
 intro pins s σ H D I h;exact wpAny_Return_some (thn (he pins s σ H _ I h) λv d ⟨x,H1,c,a,b⟩=>⟨x,σ,H1,c,a,b⟩)
def BP:TS:=λD _ H=>D.rt .non H
theorem BQ:PS X (.Return none pos) BP:=λ_ _ σ H _ I h=>wpAny_Return_none ⟨.non,σ,H,I,rfl,h⟩
def Ld(c:TT)(t u:TS):TS:=λD σ H=>c σ H λb H1=>if b=true then t D σ H1 else u D σ H1
theorem Le{a b:List Stmt}(i:PT X c tc)(k:PSs X a t)(j:PSs X b u):PS X (.If c a b pos) (Ld tc t u):=by
 intro pins s σ H D I h;refine wpAny_If (thn (i pins s σ H _ I h) λd e y=>?_);obtain⟨H1,g,f⟩:=y
 cases d with
 |true=>exact k pins e σ H1 D g f
 |false=>exact j pins e σ H1 D g f
def rc:TS:=λ_ _ _=>False
theorem wq:PS X st rc:=λ_ _ _ _ _ _ h=>h.elim
end
abbrev TG:=V->St->Hp->(St->Hp->Prop)->Prop
abbrev TGs:=List V->St->Hp->(St->Hp->Prop)->Prop
def PG(X:Cx)(target:Expr)(t:TG):Prop:=
 ∀(pins:List (Addr×Obj)) (s:Shared) (σ:St) (H:Hp) (v:V) (u:Value) (Q:St->Hp->Prop),Inv X pins σ H s->RelV v u->t v σ H Q ->
  wpAny (model X.prog X.w) X.A (assign target X.env u) (λ_ s'=>∃a H',Inv X pins a H' s'/\Q a H') X.xe s
def PGs(X:Cx)(b:List Expr)(t:TGs):Prop:=
 ∀(pins:List (Addr×Obj)) (s:Shared) (σ:St) (H:Hp) (vs:List V) (us:List Value) (Q:St->Hp->Prop),Inv X pins σ H s->Vals vs us->t vs σ H Q ->
  wpAny (model X.prog X.w) X.A (assignInOrder ((assignEach b X.env).map (·.2)) us) (λ_ s'=>∃a H',Inv X pins a H' s'/\Q a H') X.xe s
abbrev Lf:=V->V->V->Hp->(Hp->Prop)->Prop
def MH(X:Cx)(t:Lf):Prop:=
 ∀(pins:List (Addr×Obj)) (s:Shared) (σ:St) (H:Hp) (o i v:V) (ov a u:Value) (Q:Hp->Prop),Inv X pins σ H s->RelV o ov->RelV i a->RelV v u->t o i v H Q ->
  wpAny (model X.prog X.w) X.A (setItem ov a u) (λ_ s'=>∃H',Inv X pins σ H' s'/\Q H') X.xe s
def fU(i:Nat):TG:=λv σ H Q=>Q (σ.set i (some v)) H
theorem BR(b:X.N.Nodup)(hi:X.N[i]?=some x)(hx:Loc X.env.scope x)(a:autoParam (X.fn x=true∨X.env.scope.names.lookup x=some .local) L2.aF._auto_1):PG X (.Name x pos) (fU i):=by
 intro pins s σ H v u Q I r h;exact wpAny_assign_Name (nB I b hi hx r (λs' c=>⟨_,H,c,h⟩) a)
def Lg:TGs:=λvs σ H Q=>vs=[]/\Q σ H
def BU(t:TG)(u:TGs):TGs:=λvs σ H Q=>∃v r,vs=v::r/\t v σ H λa H'=>u r a H' Q
theorem BV:PGs X [] Lg:=by
 intro pins s σ H vs us Q I r h;obtain⟨e,h⟩:=h;subst e;cases r;exact assignInOrder_nil ⟨σ,H,I,h⟩
theorem wt{t:TG}{u:TGs}(h1:PG X e t)(h2:PGs X es u)
  (hs:autoParam ((assignEach (e::es) X.env).map (·.2)=assign e X.env::(assignEach es X.env).map (·.2)) L2.aR._auto_1):PGs X (e::es) (BU t u):=by
 intro pins s σ H vs us Q I r h;obtain⟨v,i,f,h⟩:=h;subst f
 cases r with
 | cons r c=>
  rw[hs];refine assignInOrder_cons (thn (h1 pins s σ H _ _ _ I r h) λ_ b y=>?_);obtain⟨a,H1,g,d⟩:=y;exact h2 pins b a H1 _ _ Q g c d
def KE(K:Frag)(n:Nat)(t:TGs):TG:=λv σ H Q=>∃a xs,v=.ref a/\SqT K H a xs/\xs.length=n/\t xs σ H Q
theorem GI{t:TGs}(l:X.calm=true)(h:PGs X es t)
  (j:autoParam ((assignEach es X.env).length=n) L2.aR._auto_1) (c:autoParam ((assignEach es X.env).findIdx? (·.1)=none) L2.aR._auto_1):PG X (.Tuple es k pos) (KE X.K n t):=by
 intro pins s σ H v u Q I r hw;obtain⟨a,xs,m,i,hl,hw⟩:=hw;subst m;cases r;obtain⟨its,d,g,q⟩:=I.tuple i;refine assign_Tuple_tuple (I.ok.hd l) g (by simp[j,← hl,d.length]) c λh' f=>?_;have p:Inv X pins σ H { s with heap:=h' }:=I.kept (t':=s.toks) λb o e=>f b o (aak (aag e)) e;exact h pins _ σ H xs _ Q p (by exists d) hw
def Li(to a:TE)(t:Lf):TG:=λv σ H Q=>to σ H λo H1=>a σ H1 λi H2=>t o i v H2 λb=>Q σ b
theorem GJ{o i:Expr}{to b:TE}{t:Lf}(ho:PE X o to)(hi:PE X i b)(hs:MH X t)
  (l:autoParam (∀v,assign (.Subscript o i pos) X.env v=(do
   let ov ← holding [v] (eval o X.env)
   let a ← holding [v,ov] (eval i X.env)
   standAt pos
   holding [v,ov,a] (setItem ov a v)
   release [v,ov,a] [])) L2.aI._auto_1):PG X (.Subscript o i pos) (Li to b t):=by
 intro pins s σ H v u Q I r h;rw[l];refine aaa (aaW (thn (ho pins s σ H _ I h) λov d z=>?_));obtain⟨x,H1,p,f,k⟩:=z;refine aaa (aaW (thn (hi pins d σ H1 _ p k) λa c A=>?_));obtain⟨y,H2,n,e,j⟩:=A;refine aaa (wpAny_standAt (aaa (aaW (thn (hs pins c σ H2 x y v ov a u _ n f e r j) λ_ w B=>?_))));obtain⟨q,m,g⟩:=B;exact wpAny_release ⟨σ,q,m,g⟩
def qU(te:TE)(g:TG):TS:=λD σ H=>te σ H λx H1=>g x σ H1 D.nx
theorem GK{g:TG}(he:PE X e te)(d:PG X tg g)(hs:autoParam (swapsWithSole [tg] e pos.line X.env=pure false) L2.aR._auto_1)(hw:autoParam (swappedStores [tg] e X.env=pure none) L2.aR._auto_1)
  (h1:autoParam ((assignEach [tg] X.env).map (·.2)=[assign tg X.env]) L2.aR._auto_1):PS X (.Assign [tg] e pos) (qU te g):=by
 intro pins s σ H D I h;refine wpAny_Assign_stores (thn (he pins s σ H _ I h) λv a y=>?_) hs hw;obtain⟨x,H1,f,b,c⟩:=y;rw[h1];exact thn (d pins a σ H1 x v _ f b c) λ_ i q=>q
theorem GL(d:X.N.Nodup)(hi:X.N[i]?=some x)(hx:Loc X.env.scope x)(he:PE X e te)(hs:autoParam (swapsWith e (some (.Name x pos')) pos.line X.env=pure false) L2.aR._auto_1)(c:autoParam (X.fn x=true∨X.env.scope.names.lookup x=some .local) L2.aF._auto_1) :
  PS X (.Assign [.Name x pos'] e pos) (qU te (fU i)):=by
 intro pins s σ H D I h;refine wpAny_Assign_Name (thn (he pins s σ H _ I h) λv k z=>?_) hs;obtain⟨y,H1,g,a,b⟩:=z;exact nB g d hi hx a (λj f=>⟨_,H1,f,b⟩) c
def re(c:TT)(tb:TS):TS:=λD σ H=>∃W:Nat->St->Hp->Prop,(∃m,W m σ H)/\∀m σ H,W m σ H ->
 c σ H λb H1=>if b=true then ∃N:St->Hp->Prop,(∀a H',N a H'->∃d,d<m/\W d a H')/\tb { D with nx:=N,ct:=N,bk:=D.nx } σ H1 else D.nx σ H1
theorem wu{tb:TS}(hp:PassesOwn (model X.prog X.w) X.A X.env X.xe)(z:PT X c tc)(A:PSs X body tb):PS X (.While c body [] pos) (re tc tb):=by
 intro pins s σ H D I h;obtain⟨W,⟨y,u⟩,g⟩:=h;refine wpAny_While (codeAny_whileLoop (λn s'=>∃e H',Inv X pins e H' s'/\W n e H') ?_ y ⟨σ,H,I,u⟩);rintro n x ⟨d,H1,B,t⟩;refine aa7 hp (thn (z pins x d H1 _ B (g n d H1 t)) λb w E=>?_);obtain⟨H2,r,k⟩:=E
 cases b with
 | true=>
  obtain⟨N,q,k⟩:=k;rw[if_pos rfl];refine aa7 hp (thn (A pins w d H2 _ r k) λf C j=>?_)
  cases f with
  | next=>
   obtain⟨a,i,p,n3⟩:=j;obtain⟨m,o,l⟩:=q a i n3;exact⟨m,o,a,i,p,l⟩
  | cont=>
   obtain⟨a,i,p,n3⟩:=j;obtain⟨m,o,l⟩:=q a i n3;exact⟨m,o,a,i,p,l⟩
  |brk=>exact j
  |ret v=>exact j
 | false=>
  rw[if_neg abF];exact wpAny_execs_nil ⟨d,H2,r,k⟩
structure It where
 go:Nat->Hp->Prop
 yld:Nat->Hp->V->Hp->Prop
 stop:Nat->Hp->Prop
def rf(X:Cx)(pins:List (Addr×Obj))(H:Hp)(b:Addr):Prop:=
 H b=none/\b≠X.env.locals/\b∉X.fs/\(b∈X.ex∨X.s₀.heap.objs.size<=b)/\(∀x c,X.env.cells.lookup x=some c->c≠b)/\∀p∈X.pn++pins,p.1≠b
theorem Inv.fpOk(I:Inv X pins σ H s)(a:s.heap.objs.size<=b)(d:H' b=none):rf X pins H' b:=by
 refine⟨d,Nat.ne_of_gt (aaq I.lt a),I.nofs a,.inr (aas I.sz a),λx c e z=>?_,λp hp z=>?_⟩
 ·obtain⟨v,q⟩:=I.cell x c e;exact absurd (aaq q.lt (by rw[z];exact a)) (aaX _)
 ·exact absurd (aaq (aag (I.pin p hp).1) (by rw[z];exact a)) (aaX _)
structure Turn(P:Program)(w:World)(K:Frag)(tg:Expr)(J:It)(fp:List Addr)(it:Addr)(tn:Nat->Heap->Prop):Prop where
 mem:it∈fp
 obj:∀i h,tn i h->∀b∈fp,∃o,h.get? b=some o/\∀v,o.data≠.cell v
 keep:∀i h h',tn i h->(∀b∈fp,∀o,h.get? b=some o->h'.get? b=some o)->tn i h'
 item:∀(X:Cx),X.prog=P->X.w=w->X.K=K->X.calm=true->∀(i:Nat) (pins:List (Addr×Obj)) (s:Shared) (σ:St) (H:Hp) (E:Value->Shared->Prop),Inv X pins σ H s->(∀b∈fp,rf X pins H b)->tn i s.heap->J.go i H ->
  wpAny (model P w) X.A (pyNext (.ref it)) (λr s1=>∃u,r=some u /\
   wpAny (model P w) X.A (letOwnedTupleGo tg (.ref it) u) (λ_ s2=>∃x H',Inv X pins σ H' s2/\RelV x u/\J.yld i H x H'/\tn (i+1) s2.heap/\∀b∈fp,H' b=none) E s1) E s
 done:∀(X:Cx),X.prog=P->X.w=w->X.K=K->X.calm=true->∀(i:Nat) (pins:List (Addr×Obj)) (s:Shared) (σ:St) (H:Hp) (E:Value->Shared->Prop),Inv X pins σ H s->(∀b∈fp,rf X pins H b)->tn i s.heap->J.stop i H ->
  wpAny (model P w) X.A (pyNext (.ref it)) (λr s1=>r=none/\Inv X pins σ H s1) E s
 self:∀(A:Around) (i:Nat) (s:Shared) (Q:Value->Shared->Prop) (E:Value->Shared->Prop),tn i s.heap->Q (.ref it) s->wpAny (model P w) A (pyIter (.ref it)) Q E s
abbrev TI:=St->Hp->(It->Hp->Prop)->Prop
def PIE(X:Cx)(pins:List (Addr×Obj))(σ:St)(tg:Expr)(R:It->Hp->Prop)(a:Value)(c:Shared):Prop:=
 ∃(it:Addr) (fp:List Addr) (tn:Nat->Heap->Prop) (J:It) (H':Hp),a=.ref it/\Inv X pins σ H' c/\Turn X.prog X.w X.K tg J fp it tn/\tn 0 c.heap/\(∀b∈fp,rf X pins H' b)/\R J H'
def PI(X:Cx)(tg iter:Expr)(wi:TI):Prop:=
 ∀(pins:List (Addr×Obj)) (s:Shared) (σ:St) (H:Hp) (R:It->Hp->Prop),Inv X pins σ H s->wi σ H R ->
  wpAny (model X.prog X.w) X.A (eval iter X.env) (λv a=>wpAny (model X.prog X.w) X.A (pyIter v) (PIE X pins σ tg R) X.xe a) X.xe s
theorem jK{M:Model}{o:Obj}{n:String}{vs:Array Value}{Q:Unit->Shared->Prop}(ho:s.heap.get? it=some o)(c:o.cls=.type n)(hd:o.data=.fields vs)
    (b:["enumerate", "zip", "dict_itemiterator", "dict_reverseitemiterator", "odict_iterator", "itertools.zip_longest", "itertools.pairwise"].contains n=false) (a:Q () s):wpAny M A (letOwnedTupleGo tg (.ref it) u) Q E s:=by
  unfold letOwnedTupleGo
  cases tg <;> first
    |exact aaf a
    | (cases u <;> first
        |exact aaf a
        | (refine aaa (wpAny_load ho ?_)
           rw[c,hd];show wpAny M A (if (["enumerate", "zip", "dict_itemiterator", "dict_reverseitemiterator", "odict_iterator", "itertools.zip_longest", "itertools.pairwise"].contains n&&vs[0]?==some (rawInt _))=true then _ else _) Q E s;rw[if_neg (by intro h;rw[b,Bool.false_and] at h;cases h)];exact aaf a))
def Itl(K:Frag)(a:Addr):It:=
 ⟨λi H=>∃xs x,SqL K H a xs/\xs[i]?=some x,λi H x H'=>H'=H/\∀xs,SqL K H a xs->xs[i]?=some x,λi H=>∃xs,SqL K H a xs/\xs.length<=i⟩
def Itt(K:Frag)(a:Addr):It:=
 ⟨λi H=>∃xs x,SqT K H a xs/\xs[i]?=some x,λi H x H'=>H'=H/\∀xs,SqT K H a xs->xs[i]?=some x,λi H=>∃xs,SqT K H a xs/\xs.length<=i⟩
def Itr(lo:Int)(n:Nat):It:=⟨λi _=>i<n,λi H x H'=>H'=H/\x=.int (lo+i),λi _=>n<=i⟩
theorem rh{K:Frag}(a it:Addr):Turn P w K tg (Itl K a) [it] it (λi h=>h.IsListIter it a i) where
 mem:=by simp
 obj:=λi h st b hb=>by
  have e:b=it:=(by exists hb);subst e;obtain⟨o,e,c,d⟩:=st;exact⟨o,e,λv z=>by rw[d] at z;cases z⟩
 keep:=λi h h' st k=>st.at λo e=>k it (by simp) o e
 item:=by
  intro X hP hw hK hc i pins s σ H E I hf st hg;subst hP hw hK;obtain⟨xs,x,hq,hx⟩:=hg;obtain⟨its,rv,p,hz⟩:=I.list hq;obtain⟨u,hu,ru⟩:=rv.get hx;obtain⟨f0,f1,f2,f3,f4,f5⟩:=hf it (by simp);refine wpAny_pyNext_list_item st p.isList (x:=u) (by exists hu) λh' st' sb=>?_;have I1:Inv X pins σ H { s with heap:=h' }:=I.turned (t':=s.toks) (λb o hb e=>(sb.2 b hb).trans e) f0 f1 f3 f4 f5;obtain⟨o,e,c,d⟩:=id st';exact⟨u,rfl,jK (s:={ s with heap:=h' }) e c d (by decide) ⟨x,H,I1,ru,⟨rfl,λys hy=>by rw[I.list_inj hy hq];exact hx⟩,st',λb hb=>(hf b hb).1⟩⟩
 done:=by
  intro X hP hw hK hc i pins s σ H E I hf st hg;subst hP hw hK;obtain⟨xs,hq,hx⟩:=hg;obtain⟨its,rv,p,hz⟩:=I.list hq;obtain⟨f0,f1,f2,f3,f4,f5⟩:=hf it (by simp);have hl:=rv.length;exact wpAny_pyNext_list_end (I.ok.hd hc) st p.isList (by simp;nofun) λh' eb=>⟨rfl,I.turned (t':=s.toks) (λb o hb e=>eb b o hb e) f0 f1 f3 f4 f5⟩
 self:=λ_ _ _ _ _ st h=>wpAny_pyIter_listiter st h
theorem pD{K:Frag}(a it:Addr):Turn P w K tg (Itt K a) [it] it (λi h=>h.IsTupleIter it a i) where
 mem:=by simp
 obj:=λi h st b hb=>by
  have e:b=it:=(by exists hb);subst e;obtain⟨o,e,c,d⟩:=st;exact⟨o,e,λv z=>by rw[d] at z;cases z⟩
 keep:=λi h h' st k=>st.at λo e=>k it (by simp) o e
 item:=by
  intro X hP hw hK hc i pins s σ H E I hf st hg;subst hP hw hK;obtain⟨xs,x,hq,hx⟩:=hg;obtain⟨its,rv,p,hz⟩:=I.tuple hq;obtain⟨u,hu,ru⟩:=rv.get hx;obtain⟨f0,f1,f2,f3,f4,f5⟩:=hf it (by simp);refine wpAny_pyNext_tuple_item st (show s.heap.IsTuple a its.toArray from p) (x:=u) (by exists hu) λh' st' sb=>?_;have I1:Inv X pins σ H { s with heap:=h' }:=I.turned (t':=s.toks) (λb o hb e=>(sb.2 b hb).trans e) f0 f1 f3 f4 f5;obtain⟨o,e,c,d⟩:=id st';exact⟨u,rfl,jK (s:={ s with heap:=h' }) e c d (by decide) ⟨x,H,I1,ru,⟨rfl,λys hy=>by rw[I.tuple_inj hy hq];exact hx⟩,st',λb hb=>(hf b hb).1⟩⟩
 done:=by
  intro X hP hw hK hc i pins s σ H E I hf st hg;subst hP hw hK;obtain⟨xs,hq,hx⟩:=hg;obtain⟨its,rv,p,hz⟩:=I.tuple hq;obtain⟨f0,f1,f2,f3,f4,f5⟩:=hf it (by simp);have hl:=rv.length;exact wpAny_pyNext_tuple_end (I.ok.hd hc) st (show s.heap.IsTuple a its.toArray from p) (by simp;nofun) λh' eb=>⟨rfl,I.turned (t':=s.toks) (λb o hb e=>eb b o hb e) f0 f1 f3 f4 f5⟩
 self:=λ_ _ _ _ _ st h=>wpAny_pyIter_tupleiter st h
theorem pE{K:Frag}(it:Addr)(lo:Int)(n:Nat):Turn P w K tg (Itr lo n) [it] it (λi h=>IsRangeIter h it (lo+(i:Nat)*1) ((n:Int) - (i:Nat)) 1) where
 mem:=by simp
 obj:=λi h st b hb=>by
  have e:b=it:=(by exists hb);subst e
  exact⟨_,st,λv z=>by
   have z':Data.fields _=Data.cell v:=z;cases z'⟩
 keep:=λi h h' st k=>k it (by simp) _ st
 item:=by
  intro X hP hw hK hc i pins s σ H E I hf st hg;subst hP hw hK;obtain⟨f0,f1,f2,f3,f4,f5⟩:=hf it (by simp);have W:=Walks.range (prog:=X.prog) (w:=X.w) (I.ok.hd hc) it lo 1 n;refine W.item i s _ _ hg st λv h' tk hv st' kk=>?_;obtain⟨t,rfl⟩:=hv;have I1:Inv X pins σ H { s with heap:=h',toks:=tk }:=I.turned (λb o hb e=>kk b o (by exists hb) e) f0 f1 f3 f4 f5;refine⟨_,rfl,jK (s:={ s with heap:=h',toks:=tk }) (n := "range_iterator") st' rfl rfl (by decide) ⟨.int (lo+i),H,I1,⟨t,?_⟩,⟨rfl,rfl⟩,st',λb hb=>(hf b hb).1⟩⟩;rw[Int.mul_one]
 done:=by
  intro X hP hw hK hc i pins s σ H E I hf st hg;subst hP hw hK;obtain⟨f0,f1,f2,f3,f4,f5⟩:=hf it (by simp);exact wpAny_pyNext_range_end (I.ok.hd hc) st (by have:n<=i:=hg;nofun) λh' eb=>⟨rfl,I.turned (t':=s.toks) (λb o hb e=>eb b o hb e) f0 f1 f3 f4 f5⟩
 self:=λ_ _ _ _ _ st h=>wpAny_pyIter_rangeiter st h
def wv(K:Frag)(tl:TE):TI:=λσ H R=>tl σ H λx H1=>∃a,x=.ref a/\(∃xs,SqL K H1 a xs)/\R (Itl K a) H1
def KF(K:Frag)(tl:TE):TI:=λσ H R=>tl σ H λx H1=>∃a,x=.ref a/\(∃xs,SqT K H1 a xs)/\R (Itt K a) H1
theorem BX(hl:PE X l tl):PI X tg l (wv X.K tl):=by
 intro pins s σ H R I h;refine thn (hl pins s σ H _ I h) λv c y=>?_;obtain⟨x,H1,d,f,g⟩:=y;obtain⟨a,e,⟨xs,i⟩,q⟩:=g;subst e;cases f;obtain⟨its,k,p,m⟩:=d.list i;refine wpAny_pyIter_list p.isList ?_;refine⟨c.heap.objs.size,[c.heap.objs.size],_,_,H1,rfl,d.kept (t':=c.toks) λb o e=>Heap.get?_push_of_some _ e,rh a _,⟨_,Heap.get?_push_size _ rfl,rfl,rfl⟩,λb j=>?_,q⟩;have e:b=c.heap.objs.size:=(by exists j);subst e;exact d.fpOk (aac _) (d.hok.fresh (aac _))
theorem GM(hl:PE X l tl):PI X tg l (KF X.K tl):=by
 intro pins s σ H R I h;refine thn (hl pins s σ H _ I h) λv c y=>?_;obtain⟨x,H1,d,f,g⟩:=y;obtain⟨a,e,⟨xs,i⟩,q⟩:=g;subst e;cases f;obtain⟨its,k,p,m⟩:=d.tuple i;refine wpAny_pyIter_tuple (show c.heap.IsTuple a its.toArray from p) ?_;refine⟨c.heap.objs.size,[c.heap.objs.size],_,_,H1,rfl,d.kept (t':=c.toks) λb o e=>Heap.get?_push_of_some _ e,pD a _,⟨_,Heap.get?_push_size _ rfl,rfl,rfl⟩,λb j=>?_,q⟩;have e:b=c.heap.objs.size:=(by exists j);subst e;exact d.fpOk (aac _) (d.hok.fresh (aac _))
theorem nD{R:It->Hp->Prop}{lo hi:Int}{t u v:Tok}{tk:Nat}(I:Inv X pins σ H s)(h1:-(2 ^ 62)<=lo)(h2:lo<2 ^ 62)(f:-(2 ^ 62)<=hi)(d:hi<2 ^ 62)
  (q:R (Itr lo (hi - lo).toNat) H):wpAny (model X.prog X.w) X.A (pyIter (.ref s.heap.objs.size)) (PIE X pins σ tg R) E { s with heap:=s.heap.push { cls:=.type "range", data:=.fields #[.int lo t,.int hi u,.int 1 v] },toks:=tk }:=by
 refine wpAny_pyIter_range (IsRange.new ..) (small_one h1 h2 f d) ?_;have a:Inv X pins σ H { s with heap:=s.heap.push { cls:=.type "range", data:=.fields #[.int lo t,.int hi u,.int 1 v] },toks:=tk }:=I.kept λb o e=>Heap.get?_push_of_some _ e
 refine⟨(s.heap.push { cls:=.type "range", data:=.fields #[.int lo t,.int hi u,.int 1 v] }).objs.size,[(s.heap.push { cls:=.type "range", data:=.fields #[.int lo t,.int hi u,.int 1 v] }).objs.size],_,_,H,rfl,
  a.kept (t':=tk) λb o e=>Heap.get?_push_of_some _ e,pE _ lo (hi - lo).toNat,?_,λb c=>?_,q⟩
 ·have i:lo+((0:Nat):Int)*1=lo:=by simp
  have g:(((hi - lo).toNat:Nat):Int) - ((0:Nat):Int)=Builtin.Range.rangeSize lo hi 1:=by rw[rangeSize_one];split <;> nofun
  show IsRangeIter _ _ (lo+((0:Nat):Int)*1) ((((hi - lo).toNat:Nat):Int) - ((0:Nat):Int)) 1;rw[i,g];exact Heap.get?_push_size _ rfl
 ·have e:b=(s.heap.push { cls:=.type "range", data:=.fields #[.int lo t,.int hi u,.int 1 v] }).objs.size:=(by exists c);subst e;exact a.fpOk (aac _) (a.hok.fresh (aac _))
def BY(ta:TA):TI:=λσ H R=>ta σ H λvs H1=>∃j:Int,vs=[.int j]/\-(2 ^ 62)<=j/\j<2 ^ 62/\R (Itr 0 j.toNat) H1
def BZ(ta:TA):TI:=λσ H R=>ta σ H λvs H1=>∃i j:Int,vs=[.int i,.int j]/\(-(2 ^ 62)<=i/\i<2 ^ 62/\-(2 ^ 62)<=j/\j<2 ^ 62)/\R (Itr i (j - i).toNat) H1
theorem rj{a:Expr}{ta:TA}(i:Gl X "range")(g:X.mg "range" = none)(k:PA X [a] ta)(hs:autoParam (starEach [a] X.env=[(false,eval a X.env)]) L2.aR._auto_1):PI X tg (.Call (.Name "range" p) [a] [] pos) (BY ta):=by
 intro pins s σ H R I h;refine Call_ (jb I i g boot_range (aa9 (thn (k pos pins s σ H _ I h) λus m y=>?_) hs rfl));obtain⟨vs,H1,l,d,b⟩:=y;obtain⟨j,e,b,f,q⟩:=b;subst e
 cases d with
 | cons r c=>
  cases c;obtain⟨t,rfl⟩:=r;exact call_range_1 (nD l (by nofun) (by nofun) b f (by exists q))
theorem rl{a b:Expr}{ta:TA}(o:Gl X "range")(n:X.mg "range" = none)(u:PA X [a,b] ta)(hs:autoParam (starEach [a,b] X.env=[(false,eval a X.env),(false,eval b X.env)]) L2.aR._auto_1)(c:autoParam (starEach [b] X.env=[(false,eval b X.env)]) L2.aR._auto_1) :
  PI X tg (.Call (.Name "range" p) [a,b] [] pos) (BZ ta):=by
 intro pins s σ H R I h;refine Call_ (jb I o n boot_range (aa9 (thn (u pos pins s σ H _ I h) λus w y=>?_) (by rw[hs,c]) (by rw[c];rfl)));obtain⟨vs,H1,v,g,f⟩:=y;obtain⟨i,j,e,⟨f,m,l,k⟩,q⟩:=f;subst e
 cases g with
 | cons r d=>
  cases d with
  | cons r' d=>
   cases d;obtain⟨t,rfl⟩:=r;obtain⟨t',rfl⟩:=r';exact call_range_2 (nD v f m l k q)
def Lj(wi:TI)(g:TG)(tb:TS):TS:=λD σ H=>wi σ H λJ H1=>∃W:Nat->Nat->St->Hp->Prop,(∃m,W 0 m σ H1)/\∀i m σ H,W i m σ H ->
 (J.stop i H/\D.nx σ H)∨(J.go i H/\∃N:St->Hp->Prop,(∀a H',N a H'->∃c,c<m/\W (i+1) c a H')/\∀x H',J.yld i H x H'->g x σ H' λb H2=>tb { D with nx:=N,ct:=N,bk:=D.nx } b H2)
def jc(fp:List Addr)(h:Heap):List (Addr×Obj):=fp.filterMap λb=>(h.get? b).map λo=>(b,o)
theorem eF{o:Obj}(a:b∈fp)(e:h.get? b=some o):(b,o)∈jc fp h:=List.mem_filterMap.mpr ⟨b,a,by rw[e];rfl⟩
theorem rm{p:Addr×Obj}(hp:p∈jc fp h):p.1∈fp/\h.get? p.1=some p.2:=by
 obtain⟨b,a,e⟩:=List.mem_filterMap.mp hp
 cases q:h.get? b with
 |none=>rw[q] at e;cases e
 | some o=>
  rw[q] at e;have c:(b,o)=p:=aai e;subst c;exact⟨a,q⟩
theorem Inv.pinned(I:Inv X pins σ H s)(f:∀b∈fp,rf X pins H b)(ho:∀b∈fp,∃o,s.heap.get? b=some o/\∀v,o.data≠.cell v):Inv X (pins++jc fp s.heap) σ H s:=
 I.pins_of λp hp=>(abA.mp hp).elim (λz=>I.pin p (aal _ z)) λz=>by
  obtain⟨a,e⟩:=rm z;obtain⟨g,f1,f2,_⟩:=f p.1 a;obtain⟨o,c,d⟩:=ho p.1 a;rw[e] at c;cases c;exact⟨e,g,f1,f2,d⟩
theorem Inv.unpinned{pl:List (Addr×Obj)}(I:Inv X (pins++pl) σ H s):Inv X pins σ H s:=I.pins_of λp hp=>I.pin p (aal _ (aaw _ hp))
theorem GN{iter:Expr}{wi:TI}{g:TG}{tb:TS}(hp:PassesOwn (model X.prog X.w) X.A X.env X.xe)(Y:X.calm=true)(hi:PI X tg iter wi)(hg:PG X tg g)(l:PSs X body tb)
  (hs:autoParam (∀x,foldedSetIterable iter X.env x=pure x) L2.aI._auto_1):PS X (.For tg iter body [] pos) (Lj wi g tb):=by
 intro pins s σ H D I h;refine wpAny_For (thn (hi pins s σ H _ I h) λv s1 h1=>thn h1 λitv s2 h2=>?_) hs;obtain⟨it,fp,tn,J,H2,e,I2,T,M,f2,W,⟨m0,w0⟩,z⟩:=h2;subst e
 -- R L true of K w B through K V
 have k:∀{H':Hp},(∀b∈fp,H' b=none)->∀b∈fp,rf X pins H' b:=λhn b l=>⟨hn b l,(f2 b l).2⟩;refine codeAny_forLoop_any (λn s'=>∃i j H',Inv X pins j H' s'/\tn i s'.heap/\(∀b∈fp,H' b=none)/\W i n j H') ?_ m0 ⟨0,σ,H2,I2,M,λb l=>(f2 b l).1,w0⟩;rintro n U ⟨i,c,F,Z,A,E,w3⟩;rcases z i n c F w3 with ⟨stop,qn⟩|⟨go,N,hN,step⟩
 ·refine aa7 hp (thn (T.done X rfl rfl rfl Y i pins U c F X.xe Z (k E) A stop) λr s4 r=>?_);obtain⟨hr,I4⟩:=r;subst hr;exact wpAny_execs_nil ⟨c,F,I4,qn⟩
 ·refine aa7 hp (thn (T.item X rfl rfl rfl Y i pins U c F X.xe Z (k E) A go) λr s4 x0=>?_);obtain⟨u,hr,h4⟩:=x0;subst hr;refine aa7 hp (thn h4 λ_ S x1=>?_);obtain⟨x,H5,I5,r5,y5,y,P⟩:=x1;have Q:=I5.pinned (k P) (T.obj _ _ y);refine aa7 hp (thn (hg _ S c H5 x u _ Q r5 (step x H5 y5)) λ_ s6 x2=>?_);obtain⟨G,H6,I6,q6⟩:=x2;refine aa7 hp (thn (l _ s6 G H6 _ I6 q6) λf O t=>?_)
  have again:∀{a:St} {q:Hp},Inv X (pins++jc fp S.heap) a q O->N a q->∃m,m<n/\∃i j H',Inv X pins j H' O/\tn i O.heap/\(∀b∈fp,H' b=none)/\W i m j H':=fun {a q} p C=>by
   obtain⟨m',hm,w7⟩:=hN a q C;refine⟨m',hm,i+1,a,q,p.unpinned,T.keep _ _ _ y λb l o e=>(p.pin (b,o) (aal _ (aal _ (eF l e)))).1,λb l=>?_,w7⟩;obtain⟨o,e,d⟩:=T.obj _ _ y b l;exact(p.pin (b,o) (aal _ (aal _ (eF l e)))).2.1
  cases f with
  |next=>obtain ⟨a,q,p,C⟩:=t;exact again p C
  |cont=>obtain ⟨a,q,p,C⟩:=t;exact again p C
  |brk=>obtain ⟨a,q,p,t⟩:=t;exact ⟨a,q,p.unpinned,t⟩
  |ret v=>obtain ⟨x7,a,q,p,r7,t⟩:=t;exact ⟨x7,a,q,p.unpinned,r7,t⟩
abbrev R2:=V->V->Hp->VK->Prop
variable{r r':R2}
def OpR(X:Cx)(f:Value->Value->Sem Value)(r:R2):Prop:=
 ∀(pins:List (Addr×Obj)) (s:Shared) (σ:St) (H:Hp) (x y:V) (v u:Value) (Q:VK),Inv X pins σ H s->RelV x v->RelV y u->r x y H Q ->
  wpAny (model X.prog X.w) X.A (f v u) (EP X pins σ Q) X.xe s
def UnR(X:Cx)(f:Value->Sem Value)(r:V->Hp->VK->Prop):Prop:=
 ∀(pins:List (Addr×Obj)) (s:Shared) (σ:St) (H:Hp) (x:V) (v:Value) (Q:VK),Inv X pins σ H s->RelV x v->r x H Q ->
  wpAny (model X.prog X.w) X.A (f v) (EP X pins σ Q) X.xe s
def CallR(X:Cx)(f:Value)(r:List V->Hp->VK->Prop):Prop:=
 ∀(pins:List (Addr×Obj)) (s:Shared) (σ:St) (H:Hp) (xs:List V) (us:List Value) (Q:VK),Inv X pins σ H s->Vals xs us->r xs H Q ->
  wpAny (model X.prog X.w) X.A (call f us) (EP X pins σ Q) X.xe s
def TruR(X:Cx)(r:V->Hp->(Bool->Hp->Prop)->Prop):Prop:=
 ∀(pins:List (Addr×Obj)) (s:Shared) (σ:St) (H:Hp) (x:V) (v:Value) (Q:Bool->Hp->Prop),Inv X pins σ H s->RelV x v->r x H Q ->
  wpAny (model X.prog X.w) X.A (truthy v) (TP X pins σ Q) X.xe s
def tOp(r:R2)(ta tb:TE):TE:=λσ H Q=>ta σ H λx H1=>tb σ H1 λy H2=>r x y H2 Q
def tUn(r:V->Hp->VK->Prop)(ta:TE):TE:=λσ H Q=>ta σ H λx H1=>r x H1 Q
def rI(C:Int->Int->Prop)(g:Int->Int->V):R2:=λx y H Q=>∃i j,x=.int i/\y=.int j/\C i j/\Q (g i j) H
def rI0(g:Int->Int->V):R2:=λx y H Q=>∃i j,x=.int i/\y=.int j/\Q (g i j) H
def rU(g:Int->V):V->Hp->VK->Prop:=λx H Q=>∃i,x=.int i/\Q (g i) H
section
variable  {a b:Expr} {tc:TE} 
theorem Lk(o:PE X a ta)(n:PE X b tb)(I:Inv X pins σ H s)
  (h:ta σ H λx H1=>tb σ H1 λy H2=>R x y H2)  
  (m:∀v u e x y H2,Inv X pins σ H2 e->RelV x v->RelV y u->R x y H2->wpAny (model X.prog X.w) X.A (f v u) Q X.xe e) :
  wpAny (model X.prog X.w) X.A (eval a X.env) (λv d=>wpAny (model X.prog X.w) X.A (eval b X.env) (λu c=>wpAny (model X.prog X.w) X.A (f v u) Q X.xe c) X.xe d) X.xe s:=by
 refine thn (o pins s σ H _ I h) λv g z=>?_;obtain⟨x,H1,q,j,l⟩:=z;refine thn (n pins g σ H1 _ q l) λu e t=>?_;obtain⟨y,H2,p,i,k⟩:=t;exact m v u e x y H2 p j i k
theorem Ll{op:Operator}(ho:OpR X (binaryOp op) r)(g:PE X a ta)(f:PE X b tb):PE X (.BinOp a op b pos) (tOp r ta tb):=by
 intro pins s σ H Q I h;exact wpAny_BinOp (Lk g f I h λv u c x y H2 i e d q=>ho pins c σ H2 x y v u Q i e d q)
theorem Lm{op:UnaryOp}{r:V->Hp->VK->Prop}(ho:UnR X (unaryOp op) r)(e:PE X a ta):PE X (.UnaryOp op a pos) (tUn r ta):=by
 intro pins s σ H Q I h;exact UnaryOp_ (thn (e pins s σ H _ I h) λv b ⟨x,H1,f,c,d⟩=>ho pins b σ H1 x v Q f c d)
theorem opI{C:Int->Int->Prop}
  (rule:∀(i j:Int) (t u:Tok) (s:Shared) (Q:Value->Shared->Prop) (E:Value->Shared->Prop),C i j->Q (.int (g i j) s.toks) { s with toks:=s.toks+1 }->wpAny (model X.prog X.w) X.A (f (.int i t) (.int j u)) Q E s) :
  OpR X f (rI C λi j=>.int (g i j)):=by
 intro pins s σ H x y v u Q I b a h;obtain⟨i,j,rfl,rfl,c,q⟩:=h;obtain⟨t,rfl⟩:=b;obtain⟨t',rfl⟩:=a;exact rule i j t t' s _ _ c ⟨.int (g i j),H,I.tok _,⟨_,rfl⟩,q⟩
theorem MI 
  (rule:∀(i j:Int) (t u:Tok) (s:Shared) (Q:Value->Shared->Prop) (E:Value->Shared->Prop),Q (.int (g i j) s.toks) { s with toks:=s.toks+1 }->wpAny (model X.prog X.w) X.A (f (.int i t) (.int j u)) Q E s) :
  OpR X f (rI0 λi j=>.int (g i j)):=by
 intro pins s σ H x y v u Q I b a h;obtain⟨i,j,rfl,rfl,q⟩:=h;obtain⟨t,rfl⟩:=b;obtain⟨t',rfl⟩:=a;exact rule i j t t' s _ _ ⟨.int (g i j),H,I.tok _,⟨_,rfl⟩,q⟩
theorem KG{g:Int->Int->Bool}
  (rule:∀(i j:Int) (t u:Tok) (s:Shared) (Q:Value->Shared->Prop) (E:Value->Shared->Prop),Q (.bool (g i j)) s->wpAny (model X.prog X.w) X.A (f (.int i t) (.int j u)) Q E s) :
  OpR X f (rI0 λi j=>.bl (g i j)):=by
 intro pins s σ H x y v u Q I b a h;obtain⟨i,j,rfl,rfl,q⟩:=h;obtain⟨t,rfl⟩:=b;obtain⟨t',rfl⟩:=a;exact rule i j t t' s _ _ ⟨.bl (g i j),H,I,rfl,q⟩
def Gf(i j:Int):Prop:=0<j/\j<1073741824
def Gg(i j:Int):Prop:=0<=j/\j<=1000000/\i.natAbs<2 ^ 64
def CMul(i j:Int):Prop:=(-(2 ^ 64)<i/\i<2 ^ 64)∨(-(2 ^ 64)<j/\j<2 ^ 64)
theorem CMul.ok{i j:Int}(h:CMul i j):IntMulOk i j:=by
 rcases h with ⟨h1,h2⟩|⟨h1,h2⟩
 ·exact .of_left (intBits_le_64 h1 h2)
 ·exact .of_right (intBits_le_64 h1 h2)
theorem GO:OpR X (binaryOp .Add) (rI0 λi j=>.int (i+j)):=MI λ_ _ _ _ _ _ _ q=>add_int q
theorem GP:OpR X (binaryOp .Sub) (rI0 λi j=>.int (i - j)):=MI λ_ _ _ _ _ _ _ q=>sub_int q
theorem GQ:OpR X (binaryOp .Mult) (rI CMul λi j=>.int (i*j)):=opI λ_ _ _ _ _ _ _ a q=>mul_int q a.ok
theorem B5:OpR X (binaryOp .FloorDiv) (rI Gf λi j=>.int (i / j)):=opI λi j _ _ _ _ _ a q=>by
 have h1:(0:Int)<j:=a.1;have h2:j<1073741824:=a.2;exact floordiv_int (by nofun) (by rw[Int.fdiv_eq_ediv_of_nonneg i (by nofun)];exact q) (.inl (PyProof.noPylong_small (by nofun)))
theorem GR:OpR X (binaryOp .Mod) (rI (λ_ j=>0<j) λi j=>.int (i % j)):=opI λi j _ _ _ _ _ a q=>by
 have h1:(0:Int)<j:=a;exact mod_int' (by nofun) (by rw[Int.fmod_eq_emod_of_nonneg i (by nofun)];exact q)
theorem GS:OpR X (binaryOp .Pow) (rI Gg λi j=>.int (i ^ j.toNat)):=opI λ_ _ _ _ _ _ _ a q=>pow_int_small a.1 a.2.1 a.2.2 q
theorem unI{f:Value->Sem Value}{g:Int->Int}
  (rule:∀(i:Int) (t:Tok) (s:Shared) (Q:Value->Shared->Prop) (E:Value->Shared->Prop),Q (.int (g i) s.toks) { s with toks:=s.toks+1 }->wpAny (model X.prog X.w) X.A (f (.int i t)) Q E s) :
  UnR X f (rU λi=>.int (g i)):=by
 intro pins s σ H x v Q I a h;obtain⟨i,rfl,q⟩:=h;obtain⟨t,rfl⟩:=a;exact rule i t s _ _ ⟨.int (g i),H,I.tok _,⟨_,rfl⟩,q⟩
theorem GT:UnR X (unaryOp .USub) (rU λi=>.int (-i)):=unI λ_ _ _ _ _ q=>neg_int q
end
def MJ:V->V->Bool
 |.non,.non=>true|.non,.int _=>true|.int _,.non=>true|.non,.bl _=>true|.bl _,.non=>true|.non,.str _=>true|.str _,.non=>true
 |.int _,.int _=>true|.bl _,.bl _=>true|.str _,.str _=>true|.byt _,.byt _=>true
 |.int _,.str _=>true|.str _,.int _=>true|.bl _,.str _=>true|.str _,.bl _=>true
 |_,_=>false
def rEq:R2:=λx y H Q=>MJ x y=true/\Q (.bl (decide (x=y))) H
def rNe:R2:=λx y H Q=>MJ x y=true/\Q (.bl (!decide (x=y))) H
theorem rn{i j:Int}:decide (V.int i=V.int j)=(i==j):=by
 rw[abd,decide_eq_true_iff,beq_iff_eq];exact⟨λh=>by cases h;rfl,λh=>by rw[h]⟩
theorem Ay{i j:Bool}:decide (V.bl i=V.bl j)=(i==j):=by
 rw[abd,decide_eq_true_iff,beq_iff_eq];exact⟨λh=>by cases h;rfl,λh=>by rw[h]⟩
theorem rp{i j:Str}:decide (V.str i=V.str j)=(i==j):=by
 rw[abd,decide_eq_true_iff,beq_iff_eq];exact⟨λh=>by cases h;rfl,λh=>by rw[h]⟩
theorem rq{i j:Array UInt8}:decide (V.byt i=V.byt j)=(i.toList==j.toList):=by
 rw[abd,decide_eq_true_iff,beq_iff_eq];exact⟨λh=>by cases h;rfl,λh=>by rw[Array.toList_inj.mp h]⟩
section
variable  {a b:Expr} {tc:TE} 
theorem aN{Q:VK}{k a:Bool}(I:Inv X pins σ H s)(q:Q (.bl k) H)(e:k=a):EP X pins σ Q (.bool a) s:=by
 subst e;exact⟨.bl k,H,I,rfl,q⟩
theorem Ln:OpR X (compareOp .Eq) rEq:=by
 intro pins s σ H x y v u Q I b a h;obtain⟨hs,q⟩:=h
 cases x with
 | non=>
  cases b
  cases y with
  |non=>cases a;exact PySem.EqNone.eq_none_none (aN I q (by simp))
  |bl j=>cases a;exact PySem.EqNone.eq_none_bool (aN I q (by simp))
  |int j=>obtain ⟨t',rfl⟩:=a;exact PySem.EqNone.eq_none_int (aN I q (by simp))
  |str j=>obtain ⟨t',rfl⟩:=a;exact PySem.EqNone.eq_none_str (aN I q (by simp))
  |_=>exact absurd (show false=true from hs) abF
 | bl i=>
  cases b
  cases y with
  |non=>cases a;exact PySem.EqNone.eq_bool_none (aN I q (by simp))
  |bl j=>cases a;exact eq_bool (aN I q Ay)
  |str j=>obtain ⟨t',rfl⟩:=a;exact PySem.EqMixed.eq_bool_str (aN I q (by simp))
  |_=>exact absurd (show false=true from hs) abF
 | int i=>
  obtain⟨t,rfl⟩:=b
  cases y with
  |non=>cases a;exact PySem.EqNone.eq_int_none (aN I q (by simp))
  |int j=>obtain ⟨t',rfl⟩:=a;exact eq_int (aN I q rn)
  |str j=>obtain ⟨t',rfl⟩:=a;exact PySem.EqMixed.eq_int_str (aN I q (by simp))
  |_=>exact absurd (show false=true from hs) abF
 | str i=>
  obtain⟨t,rfl⟩:=b
  cases y with
  |non=>cases a;exact PySem.EqNone.eq_str_none (aN I q (by simp))
  |bl j=>cases a;exact PySem.EqMixed.eq_str_bool (aN I q (by simp))
  |int j=>obtain ⟨t',rfl⟩:=a;exact PySem.EqMixed.eq_str_int (aN I q (by simp))
  |str j=>obtain ⟨t',rfl⟩:=a;exact eq_str (aN I q rp)
  |_=>exact absurd (show false=true from hs) abF
 | byt i=>
  obtain⟨t,rfl⟩:=b
  cases y with
  |byt j=>obtain ⟨t',rfl⟩:=a;exact PySem.W.eq_bytes (aN I q rq)
  |_=>exact absurd (show false=true from hs) abF
 |_=>cases y <;> exact absurd (show false=true from hs) abF
theorem Lo:OpR X (compareOp .NotEq) rNe:=by
 intro pins s σ H x y v u Q I b a h;obtain⟨hs,q⟩:=h
 cases x with
 | non=>
  cases b
  cases y with
  |non=>cases a;exact PySem.EqNone.ne_none_none (aN I q (by simp))
  |bl j=>cases a;exact PySem.EqNone.ne_none_bool (aN I q (by simp))
  |int j=>obtain ⟨t',rfl⟩:=a;exact PySem.EqNone.ne_none_int (aN I q (by simp))
  |str j=>obtain ⟨t',rfl⟩:=a;exact PySem.EqNone.ne_none_str (aN I q (by simp))
  |_=>exact absurd (show false=true from hs) abF
 | bl i=>
  cases b
  cases y with
  |non=>cases a;exact PySem.EqNone.ne_bool_none (aN I q (by simp))
  |bl j=>cases a;exact ne_bool (aN I q (congrArg not Ay))
  |str j=>obtain ⟨t',rfl⟩:=a;exact PySem.EqMixed.ne_bool_str (aN I q (by simp))
  |_=>exact absurd (show false=true from hs) abF
 | int i=>
  obtain⟨t,rfl⟩:=b
  cases y with
  |non=>cases a;exact PySem.EqNone.ne_int_none (aN I q (by simp))
  |int j=>obtain ⟨t',rfl⟩:=a;exact ne_int (aN I q (congrArg not rn))
  |str j=>obtain ⟨t',rfl⟩:=a;exact PySem.EqMixed.ne_int_str (aN I q (by simp))
  |_=>exact absurd (show false=true from hs) abF
 | str i=>
  obtain⟨t,rfl⟩:=b
  cases y with
  |non=>cases a;exact PySem.EqNone.ne_str_none (aN I q (by simp))
  |bl j=>cases a;exact PySem.EqMixed.ne_str_bool (aN I q (by simp))
  |int j=>obtain ⟨t',rfl⟩:=a;exact PySem.EqMixed.ne_str_int (aN I q (by simp))
  |str j=>obtain ⟨t',rfl⟩:=a;exact ne_str (aN I q (congrArg not rp))
  |_=>exact absurd (show false=true from hs) abF
 | byt i=>
  obtain⟨t,rfl⟩:=b
  cases y with
  |byt j=>obtain ⟨t',rfl⟩:=a;exact PySem.W.ne_bytes (aN I q (congrArg not rq))
  |_=>exact absurd (show false=true from hs) abF
 |_=>cases y <;> exact absurd (show false=true from hs) abF
theorem Lp:OpR X (compareOp .Lt) (rI0 λi j=>.bl (decide (i<j))):=KG λ_ _ _ _ _ _ _ q=>lt_int q
theorem Lq:OpR X (compareOp .LtE) (rI0 λi j=>.bl (decide (i<=j))):=KG λ_ _ _ _ _ _ _ q=>le_int q
theorem Lr:OpR X (compareOp .Gt) (rI0 λi j=>.bl (decide (j<i))):=KG λ_ _ _ _ _ _ _ q=>gt_int q
theorem Ls:OpR X (compareOp .GtE) (rI0 λi j=>.bl (decide (j<=i))):=KG λ_ _ _ _ _ _ _ q=>ge_int q
theorem rA:OpR X (compareOp .In) (λx y H Q=>∃i j,x=.str i/\y=.str j/\Q (.bl (!(Builtin.Str.occurrences j i 0 j.length 1).isEmpty)) H):=by
 intro pins s σ H x y v u Q I b a h;obtain⟨i,j,rfl,rfl,q⟩:=h;obtain⟨t,rfl⟩:=b;obtain⟨t',rfl⟩:=a;exact in_str (aN I q rfl)
theorem GU:OpR X (compareOp .Is) (λx y H Q=>y=.non/\Q (.bl (decide (x=.non))) H):=by
 intro pins s σ H x y v u Q I a b h;obtain⟨rfl,q⟩:=h;cases b;refine is_none_gen (aN I q ?_)
 cases x <;> first
  |(cases a;rfl)
  |(obtain ⟨t,rfl⟩:=a;rfl)
theorem B6:OpR X (compareOp .IsNot) (λx y H Q=>y=.non/\Q (.bl (!decide (x=.non))) H):=by
 intro pins s σ H x y v u Q I a b h;obtain⟨rfl,q⟩:=h;cases b;refine isnot_none_gen (aN I q ?_)
 cases x <;> first
  |(cases a;rfl)
  |(obtain ⟨t,rfl⟩:=a;rfl)
theorem OpR.or(h:OpR X f r)(h':OpR X f r'):OpR X f (λx y H Q=>r x y H Q∨r' x y H Q):=by
 intro pins s σ H x y v u Q I b a q;rcases q with q|q
 ·exact h pins s σ H x y v u Q I b a q
 ·exact h' pins s σ H x y v u Q I b a q
theorem B7(ho:OpR X (compareOp op) r)(i:PE X a ta)(g:PE X b tb)(f:behindInMarks op b=false):PE X (.Compare a [op] [b] pos) (tOp r ta tb):=by
 intro pins s σ H Q I h;exact wpAny_Compare1 (Lk i g I h λv u c x y H2 j e d q=>ho pins c σ H2 x y v u Q j e d q) f
def rB(t:TE):TT:=λσ H Q=>t σ H λx H'=>∃k,x=.bl k/\Q k H'
theorem B8(ho:OpR X (compareOp op) r)(q:PE X a ta)(p:PE X b tb)(o:behindInMarks op b=false):PT X (.Compare a [op] [b] pos) (rB (tOp r ta tb)):=by
 intro pins s σ H Q I h
 refine wpAny_isTrue_Compare1 (thn (q pins s σ H _ I h) λv f ⟨x,H1,A,j,n⟩=>thn (p pins f σ H1 _ A n) λu d ⟨y,H2,w,i,m⟩=>
  thn (ho pins d σ H2 x y v u _ w j i m) λc C ⟨z,B,t,g,k,e,l⟩=>?_) o
 subst e;cases g;exact aaD ⟨B,t,l⟩
def kE(r r':R2)(ta tb tc:TE):TE:=λσ H Q=>ta σ H λx H1=>tb σ H1 λy H2=>r x y H2 λz a=>∃k,z=.bl k /\
 (if k=true then tc σ a λb c=>r' y b c Q else Q (.bl false) a)
theorem ww(ho:OpR X (compareOp op) r)(f:OpR X (compareOp op') r')(K:PE X a ta)(J:PE X b tb)(G:PE X c tc)
  (F:lastMarks [op,op'] [b,c]=false:=by with_unfolding_all rfl):PE X (.Compare a [op,op'] [b,c] pos) (kE r r' ta tb tc):=by
 intro pins s σ H Q I h
 refine Compare_chain (thn (K pins s σ H _ I h) λv t ⟨x,H1,N,B,E⟩=>chain_link (thn (J pins t σ H1 _ N E) λu q ⟨y,H2,M,g,D⟩=>
  thn (ho pins q σ H2 x y v u _ M B g D) λd p ⟨z,l,j,A,k,e,i⟩=>?_)) F
 subst e;cases A;refine aaD ?_
 cases k with
 |false=>exact ite_ff ⟨.bl false,l,j,rfl,i⟩
 |true=>exact ite_tt (chain_last (thn (G pins p σ l _ j i) λn o ⟨m,O,L,w,C⟩=>f pins o σ O y m u n Q L g w C))
theorem fB(ho:OpR X (compareOp op) r)(f:OpR X (compareOp op') r')(N:PE X a ta)(M:PE X b tb)(L:PE X c tc)
  (K:lastMarks [op,op'] [b,c]=false:=by with_unfolding_all rfl):PT X (.Compare a [op,op'] [b,c] pos) (rB (kE r r' ta tb tc)):=by
 intro pins s σ H Q I h
 refine isTrue_chain (thn (N pins s σ H _ I h) λv t ⟨x,H1,U,C,G⟩=>test_link (thn (M pins t σ H1 _ U G) λu q ⟨y,H2,T,g,F⟩=>
  thn (ho pins q σ H2 x y v u _ T C g F) λd p ⟨z,l,j,B,k,e,i⟩=>?_)) K
 subst e;cases B;refine aaD ?_
 cases k with
 | false=>
  obtain⟨k',P,J⟩:=i;cases P;exact ite_ff ⟨l,j,J⟩
 | true=>
  refine ite_tt (test_last (thn (L pins p σ l _ j i) λn o ⟨m,W,S,A,E⟩=>thn (f pins o σ W y m u n _ S g A E) λd' Z d=>?_));obtain⟨Y,V,R,w,k2,O,D⟩:=d;subst O;cases w;exact aaD ⟨V,R,D⟩
def KH(K:Frag)(x:V)(H:Hp)(k:Bool):Prop:=
 match x with
 |.non=>k=false
 |.bl b=>k=b
 |.int i=>k=(i != 0)
 |.str y=>y.length<=sizeLine/\k=((y.length:Int) != 0)
 |.byt y=>y.size<=sizeLine/\k=((y.size:Int) != 0)
 |.ref p=>(∃xs,SqL K H p xs/\k=!xs.isEmpty)∨(∃xs,SqT K H p xs/\k=!xs.isEmpty)∨∃kvs,H p=some (.dK kvs)/\k=!kvs.isEmpty
 |_=>False
theorem pF{κ:Type}{kvs:List (κ×V)}{vs:List (κ×Value)}(r:KV kvs vs):(!vs.isEmpty)=!kvs.isEmpty:=by
 cases r <;> rfl
theorem jd{its:List Value}(r:Vals xs its):(!its.toArray.isEmpty)=!xs.isEmpty:=by
 cases r <;> simp
theorem gM:(sizeLine:Nat)<2 ^ 63:=by rw[sizeLine_eq];decide
theorem GV:TruR X (λx H Q=>∃k,KH X.K x H k/\Q k H):=by
 intro pins s σ H x v Q I d h;obtain⟨k,e,q⟩:=h;have hl:=gM;have hs:sizeLine=16777216:=sizeLine_eq
 cases x with
 | non=>
  cases d;have a:k=false:=e;subst a;exact truthy_none ⟨H,I,q⟩
 | bl b=>
  cases d;have a:k=b:=e;subst a;exact aaD ⟨H,I,q⟩
 | int i=>
  obtain⟨t,rfl⟩:=d;have a:k=(i != 0):=e;subst a;exact PySem.P.truthy_int ⟨H,I,q⟩
 | str y=>
  obtain⟨t,rfl⟩:=d;obtain⟨j,a⟩:y.length<=sizeLine/\k=((y.length:Int) != 0):=e;subst a;exact PySem.P.truthy_str (by nofun) ⟨H,I.tok _,q⟩
 | byt y=>
  obtain⟨t,rfl⟩:=d;obtain⟨j,a⟩:y.size<=sizeLine/\k=((y.size:Int) != 0):=e;subst a;exact PySem.W.truthy_bytes (by nofun) ⟨H,I.tok _,q⟩
 | ref p=>
  cases d;have a:(∃xs,SqL X.K H p xs/\k=!xs.isEmpty)∨(∃xs,SqT X.K H p xs/\k=!xs.isEmpty)∨∃kvs,H p=some (.dK kvs)/\k=!kvs.isEmpty:=e;rcases a with ⟨xs,f,a⟩|⟨xs,f,a⟩|⟨kvs,f,a⟩
  ·subst a;obtain⟨its,r,pl,g⟩:=I.list f;have c:=r.length;exact wpAny_truthy_list pl.isList (by simp only[List.size_toArray];nofun) ⟨H,I.tok _,by rw[jd r];exact q⟩
  ·subst a;obtain⟨its,r,pl,g⟩:=I.tuple f;have c:=r.length;exact truthy_tuple pl (by simp only[List.size_toArray];nofun) ⟨H,I.tok _,by rw[jd r];exact q⟩
  ·subst a;obtain⟨g,l,vs,r,m⟩:kvs.length<=sizeLine/\(p==sysModules)=false/\∃vs,KV kvs vs/\s.heap.DictOf (ax X.prog X.w) p vs:=I.hok p _ f;have c:kvs.length=vs.length:=aa2 r;exact wpAny_truthy_dict l m (by nofun) ⟨H,I.tok _,by rw[pF r];exact q⟩
 |_=>exact(show False from e).elim
theorem nE(e:PE X a ta)(he:∀whole,isTrue a X.env whole=(do let v ← whole;standAt a.pos;holding [v] (truthy v))) :
  PT X a (λσ H Q=>ta σ H λx H'=>∃k,KH X.K x H' k/\Q k H'):=by
 intro pins s σ H Q I h;exact isTrue_plain (thn (e pins s σ H _ I h) λv b ⟨x,H1,f,c,d⟩=>GV pins b σ H1 x v Q f c d) (he _)
theorem pG:OpR X (binaryOp .Add) (λx y H Q=>∃i j,x=.str i/\y=.str j/\i.length+j.length<=sizeLine/\Q (.str (i++j)) H):=by
 intro pins s σ H x y v u Q I b a h;obtain⟨i,j,rfl,rfl,c,q⟩:=h;obtain⟨t,rfl⟩:=b;obtain⟨t',rfl⟩:=a;exact add_str (λt' tk=>⟨.str (i++j),H,I.tok _,⟨_,rfl⟩,q⟩) c
theorem fE{x:V}(r:Vals [x] us):∃u,us=[u]/\RelV x u:=by
 cases r with
 |cons b a=>cases a;exact⟨_,rfl,b⟩
theorem wx{x:V}(r:Vals [x,y] us):∃u a,us=[u,a]/\RelV x u/\RelV y a:=by
 cases r with
 | cons e d=>
  cases d with
  |cons c b=>cases b;exact ⟨_,_,rfl,e,c⟩
theorem rC(b:X.calm=true):CallR X (.builtin "max") (λxs H Q=>∃i j,xs=[.int i,.int j]/\Q (.int (if j > i then j else i)) H):=by
 intro pins s σ H xs us Q I r h;obtain⟨i,j,rfl,q⟩:=h;obtain⟨u,c,rfl,⟨t,rfl⟩,⟨t',rfl⟩⟩:=wx r;refine max_two_ints (I.ok.hd b) λh' tk k=>⟨_,H,I.kept k,?_,q⟩;by_cases a:j > i
 ·rw[if_pos a,if_pos a];exact⟨_,rfl⟩
 ·rw[if_neg a,if_neg a];exact⟨_,rfl⟩
theorem rD(b:X.calm=true):CallR X (.builtin "min") (λxs H Q=>∃i j,xs=[.int i,.int j]/\Q (.int (if j<i then j else i)) H):=by
 intro pins s σ H xs us Q I r h;obtain⟨i,j,rfl,q⟩:=h;obtain⟨u,c,rfl,⟨t,rfl⟩,⟨t',rfl⟩⟩:=wx r;refine min_two_ints (I.ok.hd b) λh' tk k=>⟨_,H,I.kept k,?_,q⟩;by_cases a:j<i
 ·rw[if_pos a,if_pos a];exact⟨_,rfl⟩
 ·rw[if_neg a,if_neg a];exact⟨_,rfl⟩
end
structure ObjM(h:Heap)(x dx C:Addr)(mA:Str->Option Value):Prop where
 obj:h.get? x=some (PySem.W.instObj C dx)
 ns:h.Ns1 dx mA
 ne:dx≠x
theorem rE(n:h.Ns1 dx mA):∃od,h.get? dx=some od/\∀name,PySem.W.lookIn name od=some (mA name):=by
 obtain⟨o,es,ep,ho,hd,f,_,d⟩:=n;refine⟨o,ho,λname=>?_⟩;have e:=d name;unfold nsFind findBy at e;rw[← Array.find?_toList] at e;unfold PySem.W.lookIn;rw[hd];dsimp only;split
 ·rename_i y q;rw[q] at e;exact congrArg some e
 ·rename_i q;rw[q] at e
  have a:es.toList.any (·.refKey)=false:=by
   rw[List.any_eq_false];intro y c;obtain⟨z,t,b⟩:=f y (Array.mem_toList_iff.mp c);simp[DictEntry.refKey,b]
  have g:¬es.toList.any (·.refKey)=true:=by rw[a];exact abF
  rw[if_neg g];exact congrArg some e
theorem ObjM.look{x:Addr}(I:ObjM h x dx C mA):∃od,PySem.W.InstAt h x (PySem.W.instObj C dx) C (some od)/\∀name,PySem.W.lookIn name od=some (mA name):=
 let ⟨od,ho,hl⟩:=rE I.ns
 ⟨od,⟨I.obj,rfl,rfl,ho⟩,hl⟩
section
variable      {K:Frag} {x f:Addr}   {v:Value}
theorem B9{expr:Bool}(X:K.In s.heap)(I:ObjM s.heap x dx C mA)(c:PySem.W.plainGet K C name=true)(hh:PySem.W.hasDictIn K C=true)
  (d:PySem.W.findIn K (.ref C) name=some none) (b:mA name=some v) (a:PySem.W.handedIn v=true) (h:Q v { s with toks:=s.toks+1 }) :
  wpAny (model prog w) A (getAttr (.ref x) name expr) Q E s:=by
 obtain⟨od,J,hl⟩:=I.look;exact PySem.W.get_value X J (PySem.W.plainGet_of c).1 (PySem.W.findObj_own hh d rfl (by rw[hl,b])) a h
theorem wy{Q:Value×List Value->Shared->Prop}(X:K.In s.heap)(I:ObjM s.heap x dx C mA)(a:PySem.W.plainGet K C name=true)
  (d:PySem.W.findIn K (.ref C) name=some (some (.ref f))) (c:PySem.W.isFn K (.ref f)=true) (b:mA name=none) (h:Q (.ref f,[.ref x]) s) :
  wpAny (model prog w) A (getMethod (.ref x) name pl) Q E s:=by
 obtain⟨od,J,hl⟩:=I.look;exact PySem.W.method_fn X J (PySem.W.plainGet_of a).1 (PySem.W.plainGet_of a).2 d (beq_iff_eq.mp c) (by show (PySem.W.lookIn name od).map (·.isSome)=some false;rw[hl,b];rfl) h
theorem Ca{ns:List Str}{Q:Unit->Shared->Prop}(X:K.In s.heap)(I:ObjM s.heap x dx C mA)
  (hs:PySem.W.findIn K (.ref C) "__setattr__" = some (some (.builtin "object.__setattr__"))) (hp:PySem.W.plainOver K C=true) (k:PySem.W.takerIn K C name=some none) (hh:PySem.W.hasDictIn K C=true)
  (hw:PySem.Within mA ns) (hsz:ns.length<=sizeLine)
  (h:∀h',ObjM h' x dx C (λy=>if y=name then some v else mA y)->Heap.SameBut dx s.heap h'->Q () { s with heap:=h',toks:=s.toks+2 }) :
  wpAny (model prog w) A (setAttr (.ref x) name v) Q E s:=by
 obtain⟨od,J,hl⟩:=I.look;refine PySem.W.set_plain X J hs (PySem.W.osa_open (s:={ s with toks:=s.toks+1 }) (r:=none) X J hp k λb=>?_);obtain⟨p,l,g⟩:=PySem.W.any_some hh;have j:s.heap.get? x=some ⟨.ref C,some dx,.plain,#[]⟩:=I.obj;refine aaa (aaf (aaa (aaa (wpAny_loadPart j (aaa (PySem.W.Looks.here (s:={ s with toks:=s.toks+1 }) (PySem.W.looks_clsIn X l) ?_))))));rw[g];refine aaf (a:=some dx) (aaa (aaf (aaa ?_)));refine wpAny_nsSet1 (s:={ s with toks:=s.toks+1 }) I.ns λh' d c=>?_;obtain⟨o,m,n,e,f,i⟩:=d.count (PySem.Within.cons name v hw);refine aaa (wpAny_lookBehind e (by rw[f];exact pastItsLine_dict (aas i (by rw[abI];nofun))) ?_);exact aaf (h _ ⟨(c.2 _ (Ne.symm I.ne)).trans I.obj,d,I.ne⟩ c)
theorem wz{R:Result->Shared->Prop}{vs:List Value}(X:K.In s.heap)(a:PySem.W.makesIn K C=true)
  (hi:PySem.W.findIn K (.ref C) "__init__" = some (some (.ref f))) (b:PySem.W.typeIn K (.ref f)=some (.type "function"))
  (h:codeAny (model prog w) (A.under (.builtin "type.__call__" ⟨.ref C::vs,kw⟩)) (.call (.ref f) ⟨.ref (s.heap.objs.size+1)::vs,kw⟩) (PySem.W.InitBack (s.heap.objs.size+1) R)
   { s with heap:=(s.heap.push PySem.W.emptyDict).push (PySem.W.instObj C s.heap.objs.size) }) :
  codeAny (model prog w) A (.call (.ref C) ⟨vs,kw⟩) R s:=by
 obtain⟨hh,g,d,t,os⟩:=s;exact PySem.W.make_core (PySem.W.makes_of X a) (PySem.W.looks_findIn X hi) (λself=>PySem.W.bind_fn X self b) (.inl rfl) h
end
def fF(f:Str)(v:V):List (Str×V)->List (Str×V)
 |[]=>[(f,v)]
 |(g,x)::r=>if g=f then (g,v)::r else (g,x)::fF f v r
theorem gN(f g:Str)(v:V):∀fs:List (Str×V),(fF f v fs).lookup g=if g=f then some v else fs.lookup g
 | []=>by
  show List.lookup g [(f,v)]=_;by_cases h:g=f
  ·have a:(g==f)=true:=beq_iff_eq.mpr h;simp only[List.lookup,a,if_pos h]
  ·have a:(g==f)=false:=beq_eq_false_iff_ne.mpr h;simp only[List.lookup,a,if_neg h]
 | (k,x)::r=>by
  have c:=gN f g v r;rw[show fF f v ((k,x)::r)=(if k=f then (k,v)::r else (k,x)::fF f v r) from rfl];by_cases b:k=f
  ·rw[if_pos b];by_cases h:g=k
   ·have a:(g==k)=true:=beq_iff_eq.mpr h;simp only[List.lookup,a,if_pos (h.trans b)]
   ·have a:(g==k)=false:=beq_eq_false_iff_ne.mpr h;simp only[List.lookup,a,if_neg (λe:g=f=>h (e.trans b.symm))]
  ·rw[if_neg b];by_cases h:g=k
   ·have a:(g==k)=true:=beq_iff_eq.mpr h;simp only[List.lookup,a,if_neg (λe:g=f=>b (h.symm.trans e))]
   ·have a:(g==k)=false:=beq_eq_false_iff_ne.mpr h;simp only[List.lookup,a];exact c
theorem gO(f:Str)(v:V):∀fs:List (Str×V),f∈(fF f v fs).map (·.1)/\∀g,g∈fs.map (·.1)->g∈(fF f v fs).map (·.1)
 |[]=>⟨by simp[fF],λg h=>by simp at h⟩
 | (k,x)::r=>by
  obtain⟨c,b⟩:=gO f v r;rw[show fF f v ((k,x)::r)=(if k=f then (k,v)::r else (k,x)::fF f v r) from rfl];by_cases a:k=f
  ·rw[if_pos a];subst a;exact⟨by simp,λg h=>(by exists h)⟩
  ·rw[if_neg a];refine⟨?_,λg h=>?_⟩
   ·rw[abC];exact aae _ c
   ·rw[abC] at h ⊢;rcases abH.mp h with e|e
    ·exact abH.mpr (.inl e)
    ·exact aae _ (b g e)
theorem gP(f:Str)(v:V):∀fs:List (Str×V),(fF f v fs).length<=fs.length+1
 |[]=>by simp[fF]
 | (k,x)::r=>by
  have b:=gP f v r;rw[show fF f v ((k,x)::r)=(if k=f then (k,v)::r else (k,x)::fF f v r) from rfl];by_cases a:k=f
  ·rw[if_pos a,abI,abI];nofun
  ·rw[if_neg a,abI,abI];nofun
theorem RelO.some_of{o:Option Value}(r:RelO (some v) o):∃u,o=some u/\RelV v u:=by
 cases o with
 |none=>exact(show False from r).elim
 |some u=>exact⟨u,rfl,r⟩
theorem RelO.none_of{o:Option Value}(r:RelO none o):o=none:=by
 cases o with
 |none=>rfl
 |some u=>exact(show False from r).elim
theorem rF(r:RelV v u):PySem.W.handedIn u=true:=by
 cases v with
 |non=>cases (show u=Value.none from r);rfl
 |bl b=>cases (show u=Value.bool b from r);rfl
 |int i=>obtain⟨t,e⟩:=(show ∃t,u=Value.int i t from r);cases e;rfl
 |str x=>obtain⟨t,e⟩:=(show ∃t,u=Value.str x t from r);cases e;rfl
 |byt b=>obtain⟨t,e⟩:=(show ∃t,u=Value.bytes b t from r);cases e;rfl
 |flt b=>obtain⟨t,e⟩:=(show ∃t,u=Value.float b t from r);cases e;rfl
 |ref a=>cases (show u=Value.ref a from r);rfl
 |ty n=>cases (show u=Value.type n from r);rfl
section
variable      {fs fs':List (Str×V)}
theorem jL(hok:HOk P w H h)(e:H a=some (.ins C dx fs)):∃mA,ObjM h a dx C mA/\(∀f,RelO (fs.lookup f) (mA f))/\PySem.Within mA (fs.map (·.1))/\fs.length<=1000/\H dx=some (.own a):=by
 obtain⟨d,z,ne,ob,mA,n,r,q⟩:=(show ObjOk P w H h a (.ins C dx fs) from hok a _ e);exact⟨mA,⟨ob,n,ne⟩,r,q,z,d⟩
end
structure Cls(K:Frag)(C:Addr):Prop where
 pg:PySem.W.plainGet K C Str.empty=true
 hd:PySem.W.hasDictIn K C=true
 po:PySem.W.plainOver K C=true
 sa:PySem.W.findIn K (.ref C) "__setattr__" = some (some (.builtin "object.__setattr__"))
theorem Cls.get{K:Frag}(c:Cls K C)(f:Str):PySem.W.plainGet K C f=true:=c.pg
def NoAttr(K:Frag)(C:Addr)(f:Str):Prop:=PySem.W.findIn K (.ref C) f=some none
theorem NoAttr.taker{K:Frag}{f:Str}(n:NoAttr K C f):PySem.W.takerIn K C f=some none:=by
 unfold PySem.W.takerIn;rw[show PySem.W.findIn K (.ref C) f=some none from n];rfl
structure Meth(K:Frag)(C:Addr)(m:Str)(f:Addr):Prop where
 at_:PySem.W.findIn K (.ref C) m=some (some (.ref f))
 fn:PySem.W.isFn K (.ref f)=true
 kp:PySem.W.keepIn K (.ref f)=true
section
variable       {fs:List (Str×V)} {f:Str}   
theorem je{b:Bool}(I:Inv X pins σ H s)(e:H a=some (.ins C dx fs))(c:Cls X.K C)(n:NoAttr X.K C f)(l:fs.lookup f=some v)
  (h:∀u s',Inv X pins σ H s'->RelV v u->Q u s'):wpAny (model X.prog X.w) A (getAttr (.ref a) f b) Q E s:=by
 obtain⟨mA,O,r,_,_,_⟩:=jL I.hok e;obtain⟨u,hu,d⟩:=RelO.some_of (v:=v) (o:=mA f) (by rw[← l];exact r f);exact B9 I.kIn O (c.get f) c.hd n hu (rF d) (h u _ (I.tok _) d)
theorem fV{g:Addr}{Q:Value×List Value->Shared->Prop}(I:Inv X pins σ H s)(e:H a=some (.ins C dx fs))(c:Cls X.K C)(k:Meth X.K C m g)(l:fs.lookup m=none)
  (h:Q (.ref g,[.ref a]) s):wpAny (model X.prog X.w) A (getMethod (.ref a) m pl) Q E s:=by
 obtain⟨mA,O,r,_,_,_⟩:=jL I.hok e;have b:mA m=none:=RelO.none_of (by rw[← l];exact r m);exact wy I.kIn O (c.get m) k.at_ k.fn b h
theorem jf{Q:Unit->Shared->Prop}(I:Inv X pins σ H s)(e:H a=some (.ins C dx fs))(c:Cls X.K C)(n:NoAttr X.K C f)(hl:fs.length<1000)(j:RelV y u)
  (h:∀s',Inv X pins σ (upd H a (.ins C dx (fF f y fs))) s'->Q () s'):wpAny (model X.prog X.w) A (setAttr (.ref a) f u) Q E s:=by
 obtain⟨mA,O,r,wi,_,ho⟩:=jL I.hok e;have k:(fs.map (·.1)).length<=sizeLine:=by rw[abz,sizeLine_eq];nofun
 refine Ca I.kIn O c.sa c.po n.taker c.hd wi k λh' d i=>h _ ?_;have hd:∃o,h'.get? dx=some o:=let ⟨o,_,_,p,_⟩:=d.ns;⟨o,p⟩;refine I.write (x:=a) (e:=dx) (by rw[e];exact True.intro) (.inr ho) (λb q m z=>(i.2 b m).trans z) hd ?_;refine⟨by rw[ai O.ne];exact ho,?_,O.ne,d.obj,_,d.ns,λg=>?_,λg l=>?_⟩
 ·have:=gP f y fs;nofun
 ·show RelO ((fF f y fs).lookup g) (if g=f then some u else mA g);rw[gN];by_cases q:g=f
  ·rw[if_pos q,if_pos q];exact j
  ·rw[if_neg q,if_neg q];exact r g
 ·by_cases q:g=f
  ·rw[q];exact(gO f y fs).1
  ·refine(gO f y fs).2 g (wi g λz=>l ?_);show (if g=f then some u else mA g)=none;rw[if_neg q];exact z
theorem Inv.made(I:Inv X pins σ H s):Inv X pins σ (upd (upd H s.heap.objs.size (.own (s.heap.objs.size+1))) (s.heap.objs.size+1) (.ins C s.heap.objs.size []))
  { s with heap:=(s.heap.push PySem.W.emptyDict).push (PySem.W.instObj C s.heap.objs.size) }:=by
 have c:(s.heap.push PySem.W.emptyDict).get? s.heap.objs.size=some PySem.W.emptyDict:=Heap.get?_push_size s.heap rfl
 have g:((s.heap.push PySem.W.emptyDict).push (PySem.W.instObj C s.heap.objs.size)).get? (s.heap.objs.size+1)=some (PySem.W.instObj C s.heap.objs.size):=by
  have:=Heap.get?_push_size (s.heap.push PySem.W.emptyDict) (o:=PySem.W.instObj C s.heap.objs.size) rfl
  rwa [abp] at this
 have f:(s.heap.push PySem.W.emptyDict).Ns s.heap.objs.size (λ_=>none):=⟨PySem.W.emptyDict,#[],_,c,rfl,(λe he=>absurd he (by simp)),λ_=>rfl⟩;have i:=I.laid (a:=s.heap.objs.size) (o:=.own (s.heap.objs.size+1)) (h':=s.heap.push PySem.W.emptyDict) (t':=s.toks) (λb u q=>Heap.get?_push_of_some _ q) (aac _) ⟨_,c⟩;refine i.laid (a:=s.heap.objs.size+1) (o:=.ins C s.heap.objs.size []) (t':=s.toks) (λb u q=>Heap.get?_push_of_some _ q) (Nat.le_of_eq (abp _ _)) ?_;have ne:s.heap.objs.size≠s.heap.objs.size+1:=aak (aaA _);refine⟨by rw[ai ne,af],aan _,ne,g,λ_=>none,(Heap.Ns1.of_empty f).at λo q=>Heap.get?_push_of_some _ q,λ_=>True.intro,λy d=>absurd rfl d⟩
theorem Cb{env:Env}(b:attributeBase e f env (eval e env)=eval e env)
  (h:wpAny (model prog w) A (eval e env) (λo a=>wpAny (model prog w) A (getAttr o f true) Q E a) E s):wpAny (model prog w) A (eval (.Attribute e f pos) env) Q E s:=
 Attribute_any_ h (by rw[arm_eval_Attribute,b])
end
def wA(K:Frag)(ta:TE)(f:Str):TE:=λσ H Q=>ta σ H λx H1=>∃a C dx fs v,x=.ref a/\H1 a=some (.ins C dx fs)/\Cls K C/\NoAttr K C f/\fs.lookup f=some v/\Q v H1
def KI(K:Frag)(ta tv:TE)(f:Str):TS:=λD σ H=>tv σ H λy H1=>ta σ H1 λx H2=>∃a C dx fs,x=.ref a/\H2 a=some (.ins C dx fs)/\Cls K C/\NoAttr K C f/\fs.length<1000 /\
 D.nx σ (upd H2 a (.ins C dx (fF f y fs)))
def MK(X:Cx)(op:Operator)(rd:V->V->Hp->VK->Prop):Prop:=
 ∀(pins:List (Addr×Obj)) (s:Shared) (σ:St) (H:Hp) (x y:V) (u v:Value) (Q:VK),Inv X pins σ H s->RelV x u->RelV y v->rd x y H Q->wpAny (model X.prog X.w) X.A (inplaceOp op u v) (EP X pins σ Q) X.xe s
def mo(K:Frag)(ta tv:TE)(rd:V->V->Hp->VK->Prop)(f:Str):TS:=λD σ H=>ta σ H λx H1=>∃a C dx fs v,x=.ref a/\H1 a=some (.ins C dx fs)/\Cls K C/\NoAttr K C f/\fs.lookup f=some v /\
 tv σ H1 λy H2=>rd v y H2 λz c=>∃b fs',c a=some (.ins C b fs')/\fs'.length<1000/\D.nx σ (upd c a (.ins C b (fF f z fs')))
section
variable  {o value:Expr} {f:Str} {tpos:Pos} {tv:TE}
theorem GW(he:PE X e ta)(g:attributeBase e f X.env (eval e X.env)=eval e X.env):PE X (.Attribute e f pos) (wA X.K ta f):=by
 intro pins s σ H Q I h;refine Cb g (thn (he pins s σ H _ I h) λu p y=>?_);obtain⟨x,H1,k,b,a,C,dx,fs,v,ex,i,c,n,l,q⟩:=y;subst ex;obtain rfl:u=Value.ref a:=b;exact je k i c n l λm o j d=>⟨v,H1,j,d,q⟩
theorem GX(j:PE X o ta)(i:PE X value tv)(hs:swapsWith value (some (.Attribute o f pos')) pos.line X.env=pure false):PS X (.Assign [.Attribute o f pos'] value pos) (KI X.K ta tv f):=by
 intro pins s σ H D I h;refine plainObj_wpAny_Assign_Attribute (thn (i pins s σ H _ I h) λu b ⟨y,H1,r,d,q⟩=>thn (j pins b σ H1 _ r q) λov v z=>?_) hs;obtain⟨x,H2,p,e,a,C,dx,fs,ex,k,c,n,l,g⟩:=z;subst ex;obtain rfl:ov=Value.ref a:=e;exact jf p k c n l d λt m=>⟨σ,_,m,g⟩
theorem rG{op:Operator}{rd:V->V->Hp->VK->Prop}(B:PE X o ta)(A:PE X value tv)(b:MK X op rd):PS X (.AugAssign (.Attribute o f tpos) op value pos) (mo X.K ta tv rd f):=by
 intro pins s σ H D I h;refine wpAny_AugAssign_AttributeAny (thn (B pins s σ H _ I h) λov Q N=>?_);obtain⟨x,H1,M,m,a,C,dx,fs,v,ex,E,c,n,l,q⟩:=N;subst ex;obtain rfl:ov=Value.ref a:=m;refine je M E c n l λu i L p=>thn (A pins i σ H1 _ L q) λe g ⟨y,H2,K,k,t⟩=>thn (b pins g σ H2 v y u e _ K p k t) λN P O=>?_;obtain⟨z,R,J,j,F,fs',d,w,r⟩:=O;exact jf J d c n w j λO G=>⟨σ,_,G,r⟩
def Lu:V->V->Hp->VK->Prop:=λx y H Q=>∃i j,x=.int i/\y=.int j/\Q (.int (i+j)) H
theorem GY:MK X .Add Lu:=by
 rintro pins s σ H x y u v Q I b a ⟨i,j,rfl,rfl,q⟩;obtain⟨t,rfl⟩:=(show ∃t,u=Value.int i t from b);obtain⟨t',rfl⟩:=(show ∃t',v=Value.int j t' from a);exact PyProof.Rows.iadd_int ⟨.int (i+j),H,I.tok _,⟨_,rfl⟩,q⟩
theorem Cc{args:List Expr}(he:PE X e te)(I:Inv X pins σ H s)
  (h:te σ H λx H1=>∃a C dx fs g,x=.ref a/\H1 a=some (.ins C dx fs)/\Cls X.K C/\Meth X.K C m g/\fs.lookup m=none /\
   ∀b,Inv X pins σ H1 b->wpAny (model X.prog X.w) X.A (callWith pos (.ref g) [.ref a] (backTo pos (starEach args X.env)) (backToKw pos (keywordEach [] X.env))) Q X.xe b)
  (j:eval (.Call (.Attribute e m apos) args [] pos) X.env=(do
   let ov ← eval e X.env
   standAt apos.atName
   let (f,first) ← holding [ov] (getMethod ov m pl)
   callWith pos f first (backTo pos (starEach args X.env)) (backToKw pos (keywordEach [] X.env)))) :
  wpAny (model X.prog X.w) X.A (eval (.Call (.Attribute e m apos) args [] pos) X.env) Q X.xe s:=by
 refine PySem.W.methodCall_KW (pl:=pl) (thn (he pins s σ H _ I h) λu b y=>?_) j;obtain⟨x,H1,d,i,a,C,dx,fs,g,ex,n,c,k,l,q⟩:=y;subst ex;obtain rfl:u=Value.ref a:=i;exact fV d n c k l (q b d)
end
section
variable         {c:Value} {b:Bool}
inductive TyOf(K:Frag)(H:Hp):V->Value->Prop where
 |non:TyOf K H .non (.type "NoneType")
 |bl (x:Bool):TyOf K H (.bl x) (.type "bool")
 |int (i:Int):TyOf K H (.int i) (.type "int")
 |str (x:Str):TyOf K H (.str x) (.type "str")
 |flt (x:UInt64):TyOf K H (.flt x) (.type "float")
 |lst {a:Addr} {xs:List V} (e:H a=some (.lst xs)):TyOf K H (.ref a) (.type "list")
 |frz {a:Addr} {o:Obj} {xs:List V} (e:H a=some (.frz o (.lst xs))):TyOf K H (.ref a) (.type "list")
 |tup {a:Addr} {xs:List V} (e:H a=some (.tup xs)):TyOf K H (.ref a) (.type "tuple")
 |dK {a:Addr} {kvs:List (Key×V)} (e:H a=some (.dK kvs)):TyOf K H (.ref a) (.type "dict")
 |dT {a:Addr} {kvs:List (List Key×V)} (e:H a=some (.dT kvs)):TyOf K H (.ref a) (.type "dict")
 | ins {a C dx:Addr} {fs:List (Str×V)} (e:H a=some (.ins C dx fs)) (cl:Cls K C) (ha:PySem.W.findIn K (.ref C) "__class__" = some (some (.builtin "object.__class__")))
   (hn:PySem.W.specialIn K (.builtin "object.__class__") "__get__" = some (some (.builtin "getset_descriptor.__get__"))) (htk:PySem.W.takesIn K (.builtin "object.__class__")=some true)
   (hm:PySem.W.mroIn K C (.type "object")=some true):TyOf K H (.ref a) (.ref C)
theorem fG{x:V}{t:Value}(I:Inv X pins σ H s)(d:RelV x u)(ty:TyOf X.K H x t)(e:PySem.W.kitOne X.K t c=some b)(h:∀tk,Q (.bool b) { s with toks:=tk }) :
  wpAny (model X.prog X.w) A (call (.builtin "isinstance") [u,c]) Q E s:=by
 cases ty with
 |non=>cases (show u=Value.none from d);exact aav PySem.W.kitx_none I.kIn True.intro e (λz=>nomatch z) h
 |bl y=>cases (show u=Value.bool y from d);exact aav PySem.W.kitx_bool I.kIn True.intro e (λz=>nomatch z) h
 |int i=>obtain⟨t,q⟩:=(show ∃t,u=Value.int i t from d);cases q;exact aav PySem.W.kitx_int I.kIn True.intro e (λz=>nomatch z) h
 |str y=>obtain⟨t,q⟩:=(show ∃t,u=Value.str y t from d);cases q;exact aav PySem.W.kitx_str I.kIn True.intro e (λz=>nomatch z) h
 |flt y=>obtain⟨t,q⟩:=(show ∃t,u=Value.float y t from d);cases q;exact aav PySem.W.kitx_float I.kIn True.intro e (λz=>nomatch z) h
 | @lst a xs f=>
  cases (show u=Value.ref a from d);obtain⟨_,_,n,_,h1⟩:=(show ObjOk X.prog X.w H s.heap a (.lst xs) from I.hok a _ f);exact aav PySem.W.kitx_list I.kIn ⟨_,h1,rfl⟩ e (λz=>nomatch z) h
 | @frz a ob xs f=>
  cases (show u=Value.ref a from d);obtain⟨_,_,_,n,_,h1⟩:=(show ObjOk X.prog X.w H s.heap a (.frz ob (.lst xs)) from I.hok a _ f);exact aav PySem.W.kitx_list I.kIn ⟨_,h1,rfl⟩ e (λz=>nomatch z) h
 | @tup a xs f=>
  cases (show u=Value.ref a from d);obtain⟨_,_,_,p⟩:=(show ObjOk X.prog X.w H s.heap a (.tup xs) from I.hok a _ f);obtain⟨o,h1,h2,_⟩:=p;exact aav PySem.W.kitx_tuple I.kIn ⟨o,h1,h2⟩ e (λz=>nomatch z) h
 | @dK a kvs f=>
  cases (show u=Value.ref a from d);obtain⟨_,_,vs,_,p⟩:=(show ObjOk X.prog X.w H s.heap a (.dK kvs) from I.hok a _ f);obtain⟨o,es,ep,h1,h2,_⟩:=p;exact aav abn I.kIn ⟨o,h1,h2.1⟩ e (λz=>nomatch z) h
 | @dT a kvs f=>
  cases (show u=Value.ref a from d);obtain⟨_,_,xs,_,o,es,ep,h1,h2,_⟩:=(show ObjOk X.prog X.w H s.heap a (.dT kvs) from I.hok a _ f);exact aav abn I.kIn ⟨o,h1,h2.1⟩ e (λz=>nomatch z) h
 | @ins a C dx fs f cl l j g k=>
  cases (show u=Value.ref a from d);obtain⟨mA,O,_⟩:=jL I.hok f;obtain⟨od,J,_⟩:=O.look;exact aav (PySem.W.kitx_own (cl.get _) cl.hd l j g k) I.kIn J e (λz=>nomatch z) h
end
structure Room(k:Nat)(A:Around):Prop where
 hd:A.handled=none
 dp:A.depth+3*k+5<recursionLimit
 un:A.units+16*k+200<cLine
 gd:A.guards=some []
theorem Room.mono(r:Room k A)(h:j<=k):Room j A:=⟨r.hd,by have:=r.dp;nofun,by have:=r.un;nofun,r.gd⟩
theorem Room.deeper(r:Room (k+1) A)(env:Env):Room k (A.deeper env):=
 ⟨r.hd,by have:=r.dp;show A.depth+1+3*k+5<_;nofun,by have:=r.un;show A.units+3+16*k+200<_;nofun,r.gd⟩
theorem pH :(A.under (.builtin "type.__call__" ⟨.ref C::us,kw⟩)).depth=A.depth+1:=by
 first|rfl|simp[Around.under,Code.weight,Code.isCreation,Code.isGuard,Code.isCaller,Code.frames,Code.isFrame,guardIds]
theorem pJ :(A.under (.builtin "type.__call__" ⟨.ref C::us,kw⟩)).units=A.units+1:=by
 first|rfl|simp[Around.under,Code.cUnits,Code.frames,Code.isFrame]
theorem Room.make(r:Room (k+1) A)(C:Addr)(us:List Value)(kw:List (Str×Value)):Room k (A.under (.builtin "type.__call__" ⟨.ref C::us,kw⟩)):=
 ⟨r.hd,by have:=r.dp;rw[pH];nofun,by have:=r.un;rw[pJ];nofun,r.gd⟩
theorem Room.depth(r:Room k A):A.depth<recursionLimit:=by have:=r.dp;nofun
theorem Room.units(r:Room k A):A.units+64<cLine:=by have:=r.un;nofun
def kB:TA:=λ_ H Q=>Q [] H
def eP(ta:TE)(tr:TA):TA:=λσ H Q=>ta σ H λx H1=>tr σ H1 λxs H2=>Q (x::xs) H2
theorem Az:PA X [] kB:=λ_ _ _ _ H Q I h=>Calls.spliced_nil ⟨[],H,I,.nil,h⟩
theorem Cd(g:PE X e te)(hr:PA X es t)(hs:autoParam (starEach (e::es) X.env=(false,eval e X.env)::starEach es X.env) L2.aR._auto_1):PA X (e::es) (eP te t):=by
 intro pos pins s σ H Q I h;rw[hs];show wpAny _ _ (spliced ((false,eval e X.env)::backTo pos (starEach es X.env))) _ _ s;refine Calls.spliced_cons (thn (g pins s σ H _ I h) λu a y=>?_);obtain⟨x,H1,j,c,f⟩:=y;exact thn (hr pos pins a σ H1 _ j f) λus k ⟨xs,H2,i,b,d⟩=>⟨x::xs,H2,i,.cons c b,d⟩
def KJ(t:TA):TE:=λσ H Q=>t σ H λxs H1=>xs.length<=sizeLine/\∀p,H1 p=none->Q (.ref p) (upd H1 p (.tup xs))
def KL(t:TA):TE:=λσ H Q=>t σ H λxs H1=>xs.length<=sizeLine/\∀p,H1 p=none->Q (.ref p) (upd H1 p (.lst xs))
theorem GZ{d}(h:PA X es t):PE X (.Tuple es d pos) (KJ t):=by
 intro pins s σ H Q I f;refine wpAny_Tuple_spliced (thn (h pos pins s σ H _ I f) λus a ⟨xs,H1,c,r,z,q⟩=>⟨by rw[← r.length];exact z,?_⟩);have g:H1 a.heap.objs.size=none:=c.hok.fresh (aac _);refine⟨.ref a.heap.objs.size,upd H1 a.heap.objs.size (.tup xs),c.laid (t':=a.toks) (λb u e=>Heap.get?_push_of_some _ e) (aac _) ?_,rfl,q _ g⟩;exact⟨z,us,r,⟨_,Heap.get?_push_size _ rfl,rfl,_,rfl⟩⟩
theorem G0(h:PA X es t):PE X (.List es pos) (KL t):=by
 intro pins s σ H Q I d;refine wpAny_List_spliced (thn (h pos pins s σ H _ I d) λus a ⟨xs,H1,c,r,z,q⟩=>⟨by rw[← r.length];exact z,?_⟩);have f:H1 a.heap.objs.size=none:=c.hok.fresh (aac _);refine⟨.ref a.heap.objs.size,upd H1 a.heap.objs.size (.lst xs),c.laid (t':=a.toks) (λb u e=>Heap.get?_push_of_some _ e) (aac _) ?_,rfl,q _ f⟩;exact⟨z,us,0,r,Heap.get?_push_size _ rfl⟩
abbrev Sp:=List V->Hp->VK->XK->Prop
variable{sp:Sp}
abbrev CXT:=List Env->Hp->Shared->XK->Value->Shared->Prop
variable{CX:CXT}
structure Env0(P:Program)(w:World)(K:Frag)(mg:Str->Option Value)(base:Heap)(A:Around)(outer:List Env)(s:Shared)(H:Hp):Prop where
 frames:A.frames=some outer
 mod:Mod K mg base
 bs:∀b o,base.get? b=some o->s.heap.get? b=some o/\H b=none
 bsz:base.objs.size<=s.heap.objs.size
 funs:s.heap.FunFrames base outer
 frf:∀b∈frs outer,H b=none
 hok:HOk P w H s.heap
 bare:AllBare s.gens
def CE(outer:List Env)(P:Program)(w:World)(H:Hp)(s:Shared)(Q:VK)(u:Value)(s':Shared):Prop:=
 ∃v H',s'.os=s.os/\AllBare s'.gens/\Un (frs outer) [] H H' s.heap s'.heap/\HOk P w H' s'.heap/\RelV v u/\Q v H'
def CR(CX:CXT)(outer:List Env)(P:Program)(w:World)(H:Hp)(s:Shared)(Q:VK)(E:XK)(r:Result)(s':Shared):Prop:=
 match r with
 |.ok (.ret u)=>CE outer P w H s Q u s'
 |.ok _=>False
 |.error e=>CX outer H s E e s'
structure FnOk(P:Program)(w:World)(K:Frag)(mg:Str->Option Value)(base:Heap)(CX:CXT)(k:Nat)(f:Addr)(fd:FuncData)(ps:List Str)(sp:Sp):Prop where
 len:∀vs H Q E,sp vs H Q E->vs.length=ps.length
 run:∀(A:Around) (outer:List Env) (s:Shared) (H:Hp) (args:Args) (us:List Value) (vs:List V) (Q:VK) (E:XK),Room k A->Env0 P w K mg base A outer s H->BindsTo s fd args (ps.zip us)->Vals vs us->sp vs H Q E ->
  codeAny (model P w) A (.call (.ref f) args) (CR CX outer P w H s Q E) s
theorem FnOk.imp{K:Frag}{f:Addr}{a:Sp}(F:FnOk P w K mg base CX k f fd ps sp)
  (h:∀vs H Q E,a vs H Q E->sp vs H Q E):FnOk P w K mg base CX k f fd ps a:=
 ⟨λvs H Q E q=>F.len vs H Q E (h _ _ _ _ q),λA outer s H args us vs Q E hr he c b hs=>F.run A outer s H args us vs Q E hr he c b (h _ _ _ _ hs)⟩
theorem Env0.make{K:Frag}(e:Env0 P w K mg base A outer s H)(C:Addr)(us:List Value)(kw:List (Str×Value)) :
  Env0 P w K mg base (A.under (.builtin "type.__call__" ⟨.ref C::us,kw⟩)) outer s H:=⟨by first|exact e.frames|(simpa [Around.under,Code.envs,Code.isFrame,pushEnvs] using e.frames),e.mod,e.bs,e.bsz,e.funs,e.frf,e.hok,e.bare⟩
theorem Inv.env0(I:Inv X pins σ H s):Env0 X.prog X.w X.K X.mg X.base X.A X.stack s H:=
 ⟨I.ok.frames,I.ok.mod,I.bs,aas I.ok.bsz I.sz,I.stack,I.stkFree,I.hok,I.bare⟩
theorem Inv.after{Q:VK}(I:Inv X pins σ H s)(h:CE X.stack X.prog X.w H s Q u s'):EP X pins σ Q u s':=by
 obtain⟨v,H',os,bare,un,hok,r,q⟩:=h;obtain⟨hh,g,d,t,a⟩:=s';obtain rfl:a=s.os:=os;exact⟨v,H',I.call (h':=hh) (g':=g) (d':=d) (t':=t) (ch:=[]) un hok bare (λb z=>absurd z (by simp)),r,q⟩
def pK(sp:Sp)(dvs:List V)(E:XK)(t:TA):TE:=λσ H Q=>t σ H λvs H1=>sp (vs++dvs) H1 Q E
def mq(C:Addr)(m:Str)(sp:Sp)(dvs:List V)(E:XK)(ta:TE)(t:TA):TE:=λσ H Q=>ta σ H λx H1=>∃a dx fs,x=.ref a/\H1 a=some (.ins C dx fs)/\fs.lookup m=none /\
 t σ H1 λvs H2=>sp (x::(vs++dvs)) H2 Q E
def Ce(C:Addr)(sp:Sp)(dvs:List V)(E:XK)(t:TA):TE:=λσ H Q=>t σ H λvs H1=>∀x dx,H1 x=none->H1 dx=none->dx≠x ->
 sp (.ref x::(vs++dvs)) (upd (upd H1 dx (.own x)) x (.ins C dx [])) (λv H2=>v=.non/\Q (.ref x) H2) E
def Binds(K:Frag)(fd:FuncData)(ps:List Str)(ds:List Value):Prop:=
 ∀(s:Shared) (us:List Value),K.In s.heap->(us++ds).length=ps.length->BindsTo s fd ⟨us,[]⟩ (ps.zip (us++ds))
theorem Binds.all{K:Frag}(h:∀us:List Value,us.length=ps.length->bindArgs fd ⟨us,[]⟩=pure (ps.zip us)):Binds K fd ps []:=λs us _ hl=>by
 rw[aao] at hl ⊢;exact .of_eq (h us hl)
def gQ(CX:CXT)(X:Cx)(E:XK):Prop:=∀(pins:List (Addr×Obj)) (σ:St) (H:Hp) (s:Shared) (e:Value) (s':Shared),Inv X pins σ H s->CX X.stack H s E e s'->X.xe e s'
section
variable    {f:Addr}    {dvs:List V} {ds:List Value} {E:XK}   {o:Expr}   
theorem rH{Q:VK}(F:FnOk X.prog X.w X.K X.mg X.base CX k f fd ps sp)(hr:Room k X.A)(c:Binds X.K fd ps ds)(hd:Vals dvs ds)(hx:gQ CX X E)
  (I:Inv X pins σ H s) (r:Vals vs us) (h:sp (vs++dvs) H Q E):wpAny (model X.prog X.w) X.A (call (.ref f) us) (EP X pins σ Q) X.xe s:=by
 have b:Vals (vs++dvs) (us++ds):=r.append hd;have hl:(us++ds).length=ps.length:=by rw[← b.length];exact F.len _ _ _ _ h
 refine wpAny_call (codeAny_mono (F.run X.A X.stack s H ⟨us,[]⟩ (us++ds) (vs++dvs) Q E hr I.env0 (c s us I.kIn hl) b h) λr s' a=>?_)
 cases r with
 |error e=>exact hx pins σ H s e s' I a
 | ok fl=>
  cases fl with
  |ret u=>exact I.after a
  |next=>exact False.elim a
  |brk=>exact False.elim a
  |cont=>exact False.elim a
theorem Cf(F:FnOk X.prog X.w X.K X.mg X.base CX k f fd ps sp)(hr:Room k X.A)(i:Gl X x)(d:X.mg x=some (.ref f))(g:PySem.W.keepIn X.K (.ref f)=true)(j:Binds X.K fd ps ds)(hd:Vals dvs ds)(hx:gQ CX X E)
  (l:PA X (e::es) t) (b:autoParam ((x==("__debug__" : Str))=false) L2.aD._auto_1) (he:autoParam (starEach (e::es) X.env=(false,eval e X.env)::starEach es X.env) L2.aR._auto_1) (a:autoParam ((backTo pos (starEach es X.env)).any (·.1)=false) L2.aR._auto_1) :
  PE X (.Call (.Name x p) (e::es) [] pos) (pK sp dvs E t):=by
 intro pins s σ H Q I h;refine wpAny_Call_Name_kw (ml I i d ?_ b);refine PySem.W.callWith_K (h₀:=X.base) I.ok.mod.kin g (thn (l pos pins s σ H _ I h) λus m ⟨vs,H1,c,r,q⟩=>⟨c.kIn,?_⟩) he a;exact rH F hr j hd hx c r q
theorem Cg(he:PE X o ta)(c:Cls X.K C)(g:Meth X.K C m f)(F:FnOk X.prog X.w X.K X.mg X.base CX k f fd ps sp)(hr:Room k X.A)(y:Binds X.K fd ps ds)(hd:Vals dvs ds)(hx:gQ CX X E)(z:PA X (e::es) t)
  (b:autoParam (starEach (e::es) X.env=(false,eval e X.env)::starEach es X.env) L2.aR._auto_1) (d:autoParam ((backTo pos (starEach es X.env)).any (·.1)=false) L2.aR._auto_1)
  (w:autoParam (eval (.Call (.Attribute o m apos) (e::es) [] pos) X.env=(do
   let ov ← eval o X.env
   standAt apos.atName
   let (f,first) ← holding [ov] (getMethod ov m pl)
   callWith pos f first (backTo pos (starEach (e::es) X.env)) (backToKw pos (keywordEach [] X.env)))) L2.aR._auto_1) :
  PE X (.Call (.Attribute o m apos) (e::es) [] pos) (mq C m sp dvs E ta t):=by
 intro pins s σ H Q I h;refine PySem.W.methodCall_KW (pl:=pl) (thn (he pins s σ H _ I h) λu n D=>?_) w;obtain⟨x,H1,j,p,a,dx,fs,ex,A,l,q⟩:=D;subst ex;obtain rfl:u=Value.ref a:=p;refine fV j A c g l ?_;refine PySem.W.callWith_K (first:=[.ref a]) (h₀:=X.base) I.ok.mod.kin g.kp (thn (z pos pins n σ H1 _ j q) λus B ⟨vs,H2,i,r,v⟩=>⟨i.kIn,?_⟩) b d;exact rH (us:=.ref a::us) (vs:=.ref a::vs) F hr y hd hx i (.cons rfl r) v
theorem wB(he:PE X o ta)(c:Cls X.K C)(d:Meth X.K C m f)(F:FnOk X.prog X.w X.K X.mg X.base CX k f fd ps sp)(hr:Room k X.A)(i:Binds X.K fd ps ds)(hd:Vals dvs ds)(hx:gQ CX X E)
  (g:autoParam (eval (.Call (.Attribute o m apos) [] [] pos) X.env=(do
   let ov ← eval o X.env
   standAt apos.atName
   let (f,first) ← holding [ov] (getMethod ov m pl)
   callWith pos f first (backTo pos (starEach [] X.env)) (backToKw pos (keywordEach [] X.env)))) L2.aR._auto_1) :
  PE X (.Call (.Attribute o m apos) [] [] pos) (mq C m sp dvs E ta kB):=by
 intro pins s σ H Q I h;refine PySem.W.methodCall_KW (pl:=pl) (thn (he pins s σ H _ I h) λu n y=>?_) g;obtain⟨x,H1,b,e,a,dx,fs,ex,j,l,q⟩:=y;subst ex;obtain rfl:u=Value.ref a:=e;refine fV b j c d l ?_;exact PySem.W.callWith_K0 (first:=[.ref a]) b.kIn d.kp (rH (us:=[.ref a]) (vs:=[.ref a]) F hr i hd hx b (.cons rfl .nil) q)
structure Mk(K:Frag)(C f:Addr):Prop where
 makes:PySem.W.makesIn K C=true
 init:PySem.W.findIn K (.ref C) "__init__" = some (some (.ref f))
 fn:PySem.W.isFn K (.ref f)=true
 kp:PySem.W.keepIn K (.ref C)=true
theorem wC{Q:VK}(M:Mk X.K C f)(F:FnOk X.prog X.w X.K X.mg X.base CX k f fd ps sp)(hr:Room (k+1) X.A)(j:Binds X.K fd ps ds)(hd:Vals dvs ds)
  (hx:gQ CX X E) (I:Inv X pins σ H s) (r:Vals vs us)
  (h:∀x dx,H x=none->H dx=none->dx≠x->sp (.ref x::(vs++dvs)) (upd (upd H dx (.own x)) x (.ins C dx [])) (λv H2=>v=.non/\Q (.ref x) H2) E) :
  wpAny (model X.prog X.w) X.A (call (.ref C) us) (EP X pins σ Q) X.xe s:=by
 have d:=h (s.heap.objs.size+1) s.heap.objs.size (I.hok.fresh (aaU _)) (I.hok.fresh (aac _)) (aak (aaA _));have b:=Inv.made (C:=C) I;have c:Vals (V.ref (s.heap.objs.size+1)::(vs++dvs)) (Value.ref (s.heap.objs.size+1)::(us++ds)):=.cons rfl (r.append hd)
 have hl:(Value.ref (s.heap.objs.size+1)::us++ds).length=ps.length:=by
  have e:=c.length;rw[F.len _ _ _ _ d] at e;exact e.symm
 refine wpAny_call (wz (f:=f) I.kIn M.makes M.init (beq_iff_eq.mp M.fn) (codeAny_mono (F.run _ X.stack _ _ ⟨Value.ref (s.heap.objs.size+1)::us,[]⟩ (Value.ref (s.heap.objs.size+1)::(us++ds)) _ _ E (hr.make C us [])
  (b.env0.make C us []) (j _ (Value.ref (s.heap.objs.size+1)::us) b.kIn hl) c d) λr s' a=>?_))
 cases r with
 |error e=>exact hx pins σ _ _ e s' b a
 | ok fl=>
  cases fl with
  | ret u=>
   obtain⟨v,H',m,g,l,i⟩:=b.after a;subst l;exact⟨g,⟨V.ref (s.heap.objs.size+1),H',m,rfl,i⟩⟩
  |next=>exact False.elim a
  |brk=>exact False.elim a
  |cont=>exact False.elim a
theorem Ch(M:Mk X.K C f)(F:FnOk X.prog X.w X.K X.mg X.base CX k f fd ps sp)(hr:Room (k+1) X.A)(g:Gl X x)(d:X.mg x=some (.ref C))(i:Binds X.K fd ps ds)(hd:Vals dvs ds)(hx:gQ CX X E)
  (j:PA X (e::es) t) (b:autoParam ((x==("__debug__" : Str))=false) L2.aD._auto_1) (he:autoParam (starEach (e::es) X.env=(false,eval e X.env)::starEach es X.env) L2.aR._auto_1) (a:autoParam ((backTo pos (starEach es X.env)).any (·.1)=false) L2.aR._auto_1) :
  PE X (.Call (.Name x p) (e::es) [] pos) (Ce C sp dvs E t):=by
 intro pins s σ H Q I h;refine wpAny_Call_Name_kw (ml I g d ?_ b);refine PySem.W.callWith_K (h₀:=X.base) I.ok.mod.kin M.kp (thn (j pos pins s σ H _ I h) λus l ⟨vs,H1,c,r,q⟩=>⟨c.kIn,?_⟩) he a;exact wC M F hr i hd hx c r q
end
section
variable    {f:Addr}  {ks:List Str}  {E:XK}  {kpos:Pos} {o:Expr}  {kws:List Keyword}  {tk:TA} {nm:Option Str}
variable {g:List Value->List Value->List Value} {gV:List V->List V->List V}
end
structure FnScope(N P:List Str)(sc:Scope):Prop where
 kind:sc.kind=.function
 co:sc.isCoroutine=false
 gen:sc.isGenerator=false
 nd:N.Nodup
 pre:N.take P.length=P
 par:∀x∈P,sc.names.lookup x=some .local∨sc.names.lookup x=some .cell
 nofree:∀y∈sc.names,y.2≠.free
theorem kF{kindOf:Str->Option NameKind}{x:Str}:∀{binds:List (Str×Value)} {m:Str->Option Value},(∀v,(x,v)∉binds)->bindL kindOf binds m x=m x
 |[],_,_=>rfl
 | (n,v)::r,m,h=>by
  unfold bindL;rw[kF λw hw=>h w (aae _ hw)];split
  ·have:x≠n:=by rintro rfl;exact h v aab
   simp[this]
  ·rfl
theorem kG{kindOf:Str->Option NameKind}{x:Str}:∀{binds:List (Str×Value)} {m:Str->Option Value},(∀v,(x,v)∉binds)->bindC kindOf binds m x=m x
 |[],_,_=>rfl
 | (n,v)::r,m,h=>by
  unfold bindC;rw[kG λw hw=>h w (aae _ hw)];split
  ·rfl
  ·have:x≠n:=by rintro rfl;exact h v aab
   simp[this]
theorem kH{kindOf:Str->Option NameKind}{x:Str}{v:Value}:∀{P:List Str} {vs:List Value} {i:Nat} {m:Str->Option Value},P.Nodup->P[i]?=some x->vs[i]?=some v->kindOf x=some .local ->
  bindL kindOf (P.zip vs) m x=some v
 |[],_,_,_,_,h,_,_=>by simp at h
 |_::_,[],_,_,_,_,h,_=>by simp at h
 | p::P,w::vs,0,m,nd,h1,h2,a=>by
  simp at h1 h2;subst h1;subst h2;show bindL kindOf ((p,w)::P.zip vs) m p=_;unfold bindL;rw[kF λv b=>(List.nodup_cons.mp nd).1 (List.of_mem_zip b).1,if_pos a];simp
 | p::P,w::vs,i+1,m,nd,h1,h2,a=>by
  show bindL kindOf ((p,w)::P.zip vs) m x=_;unfold bindL;exact kH (i:=i) (abJ.mp nd).2 (by exists h1) (by exists h2) a
theorem kI{kindOf:Str->Option NameKind}{x:Str}{v:Value}:∀{P:List Str} {vs:List Value} {i:Nat} {m:Str->Option Value},P.Nodup->P[i]?=some x->vs[i]?=some v->kindOf x≠some .local ->
  bindC kindOf (P.zip vs) m x=some v
 |[],_,_,_,_,h,_,_=>by simp at h
 |_::_,[],_,_,_,_,h,_=>by simp at h
 | p::P,w::vs,0,m,nd,h1,h2,a=>by
  simp at h1 h2;subst h1;subst h2;show bindC kindOf ((p,w)::P.zip vs) m p=_;unfold bindC;rw[kG λv b=>(List.nodup_cons.mp nd).1 (List.of_mem_zip b).1,if_neg a];simp
 | p::P,w::vs,i+1,m,nd,h1,h2,a=>by
  show bindC kindOf ((p,w)::P.zip vs) m x=_;unfold bindC;exact kI (i:=i) (abJ.mp nd).2 (by exists h1) (by exists h2) a
def start(N:List Str)(vs:List V):St:=vs.map some++List.replicate (N.length - vs.length) none
def rJ(CX:CXT)(P:Program)(w:World)(K:Frag)(mg:Str->Option Value)(base:Heap)(N:List Str)(qual:Str)(scope:Scope)(f:Addr)(cd:Value)(A:Around)(outer:List Env)(s:Shared)(H:Hp)(E:XK):Cx where
 prog:=P
 w:=w
 K:=K
 mg:=mg
 base:=base
 A:=A.deeper (envOfC qual scope s.heap.objs.size f cd)
 N:=N
 s₀:=s
 H₀:=H
 env:=envOfC qual scope s.heap.objs.size f cd
 outer:=outer
 stack:=envOfC qual scope s.heap.objs.size f cd::outer
 ex:=[]
 calm:=true
 fn:=λ_=>true
 pn:=[]
 xe:=λe s'=>wpAny (model P w) (A.deeper (envOfC qual scope s.heap.objs.size f cd)) (leaving (envOfC qual scope s.heap.objs.size f cd) e) (λ_ s''=>CX outer H s E e s'') (λe' s''=>CX outer H s E e' s'') s'
theorem nF{a:Scope}(h:a.names.lookup x=some .cell):∃c,(cellsFrom n a.names []).lookup x=some c:=by
 have q:=PySem.W.cellsFrom_some a.names n [] (.inl h);exact abR.mp q
theorem rK{K:Frag}{f:Addr}{m:Value}{o:Shared}{E:XK}
  (S:FnScope N ps scope) (hd:A.handled=none) (d:Env0 P w K mg base A outer s H) (hl:vs.length=ps.length) (r:Vals vs us)
  (x:InCallC s s.heap.objs.size (bindL (envOfC qual scope s.heap.objs.size f m).kindOf (ps.zip us) λ_=>none) (cellsFrom (s.heap.objs.size+1) scope.names []) (bindC (envOfC qual scope s.heap.objs.size f m).kindOf (ps.zip us) λ_=>none) o) :
  Inv (rJ CX P w K mg base N qual scope f m A outer s H E) [] (start N vs) H o:=by
 have C:ps.length<=N.length:=by have:=congrArg List.length S.pre;rw[abD] at this;nofun
 obtain⟨h1,tk,rfl,t⟩:=x.done;have g:∀b:Addr,b∉(rJ CX P w K mg base N qual scope f m A outer s H E).ex:=λb z=>absurd (show b∈([]:List Addr) from z) (by simp)
 refine⟨⟨d.mod,S.kind,rfl,rfl,aac _,λy z c h1 h2=>?_,λy j=>?_,λy c _ h=>?_,λ_=>hd,Around.frames_deeper d.frames,.inr ⟨rfl,rfl⟩,λb z=>absurd z (g b),d.bs,d.bsz,λb _ _=>g b,λb z=>absurd z (g b),d.funs,d.frf⟩,
  rfl,d.bare,Un.kept t,⟨_,x.toInCall.ns,λi y v h1 h2 F=>?_⟩,λy c h=>⟨_,x.cell y c h⟩,d.hok.fresh (aac _),λy c h=>?_,λp hp=>absurd (show p∈([]:List (Addr×Obj)) from hp) (by simp),d.hok.kept t,?_⟩
 ·exact name_of_addr x.apart (aaL h1) (aaL h2)
 ·have j:scope.names.lookup y=some .cell∨scope.names.lookup y=some .free:=j;rcases j with j|j
  ·exact nF j
  ·exact absurd rfl (S.nofree _ (aaL j))
 ·exact ab1 (x.above y c (aaL h))
 ·have hi:i<vs.length:=by
   unfold start at h2;by_cases hi:i<vs.length
   ·exact hi
   ·rw[List.getElem?_append_right (by exists hi)] at h2;rw[List.getElem?_replicate] at h2;split at h2 <;> cases h2
  have D:vs[i]?=some v:=by
   unfold start at h2;rw[List.getElem?_append_left (by exists hi),List.getElem?_map] at h2
   cases e:vs[i]? with
   |none=>rw[e] at h2;cases h2
   |some a=>rw[e] at h2;cases h2;rfl
  obtain⟨u,hu,B⟩:=r.get D
  have hp:ps[i]?=some y:=by
   rw[← S.pre,List.getElem?_take_of_lt (by nofun)];exact h1
  have l:ps.Nodup:=by rw[← S.pre];exact S.nd.sublist (aa1 _ _)
  refine⟨u,B,?_⟩;rcases S.par y (List.mem_of_getElem? hp) with k|k
  ·exact .inl ⟨k,kH l hp hu k⟩
  ·obtain⟨c,e⟩:=nF (n:=s.heap.objs.size+1) k;refine .inr ⟨.inl k,c,e,?_⟩;have q:=x.cell y c e;rw[kI l hp hu (by show scope.names.lookup y≠_;rw[k];decide)] at q;exact q
 ·exact d.hok.fresh (ab1 (x.above y c (aaL h)))
 ·unfold start;show _=N.length;rw[abB,abz,aaG];nofun
theorem Lw{K:Frag}{f:Addr}{a:Arguments}{B kV doc pm cdv ct oc:Value}{an od:Option Addr}
  {osl:Array (Option Value)}   (lk:K.lookup f=some ⟨oc,od,.func (PySem.W.fnOf name qual a body scope B kV doc pm an cdv ct),osl⟩) (p:PySem.W.codeIn K cdv qual=true) (S:FnScope N ps scope)
  (len:∀vs H Q E,sp vs H Q E->vs.length=ps.length)
  (g:∀(A:Around) (outer:List Env) (s:Shared) (H:Hp) (vs:List V) (Q:VK) (E:XK),Room k (A.deeper (envOfC qual scope s.heap.objs.size f cdv))->sp vs H Q E ->
   ∃t,PSs (rJ CX P w K mg base N qual scope f cdv A outer s H E) body t/\t { nx:=λ_ H'=>Q .non H',rt:=Q } (start N vs) H) :
  FnOk P w K mg base CX (k+1) f (PySem.W.fnOf name qual a body scope B kV doc pm an cdv ct) ps sp:=by
 refine⟨len,λA outer s H args us vs Q E hr j L r i=>?_⟩;have hl:=len _ _ _ _ i;have C:K.In s.heap:=j.mod.kin.keeps λb o e=>(j.bs b o e).1;have m:s.heap.NoLimit:=j.mod.nolimit.keeps λb o e=>(j.bs b o e).1
 have d:∀y∈ps.zip us,scope.names.lookup y.1=some .local∨(scope.names.lookup y.1=some .cell/\((cellsFrom (s.heap.objs.size+1) scope.names []).lookup y.1).isSome=true):=fun⟨n,v⟩ D=>by
  rcases S.par n (List.of_mem_zip D).1 with q|q
  ·exact .inl q
  ·exact .inr ⟨q,PySem.W.cellsFrom_some _ _ _ (.inl q)⟩
 refine codeAny_call_function hr.depth (C _ _ lk) rfl S.co S.gen rfl (PySem.W.codeRec_of C p) (L _ _ _ _ ?_);refine wpAny_newFunctionEnv_cells S.kind d λenv he z x=>?_;subst he;refine⟨m.keeps x.toInCall.keep,codeAny_func ?_⟩;obtain⟨t,F,G⟩:=g A outer s H vs Q E (hr.deeper _) i;have I:Inv (rJ CX P w K mg base N qual scope f cdv A outer s H E) [] (start N vs) H z:=rK S hr.hd j hl r x;refine abj (F [] z (start N vs) H _ I G) (λfl s' hs=>?_) λe s' hs=>hs
 have fin:∀{c:St} {H':Hp} {v:V} {u:Value},Inv (rJ CX P w K mg base N qual scope f cdv A outer s H E) [] c H' s'->RelV v u->Q v H'->CE outer P w H s Q u s':=
  fun {c H' v u} J l q=>⟨v,H',J.os,J.bare,J.base,J.hok,l,q⟩
 cases fl with
 | ret u=>
  obtain⟨v,c,H',J,l,q⟩:=hs;exact fin J l q
 | next=>
  obtain⟨c,H',J,q⟩:=hs;exact fin (v:=V.non) (u:=Value.none) J rfl q
 | brk=>
  obtain⟨_,_,_,q⟩:=hs;exact False.elim q
 | cont=>
  obtain⟨_,_,_,q⟩:=hs;exact False.elim q
section
variable       {id T:String} {r:List V->Hp->VK->Prop}
def tCB(r:List V->Hp->VK->Prop)(t:TA):TE:=λσ H Q=>t σ H λvs H1=>r vs H1 Q
theorem wD(l:CallR X (.builtin id) r)(k:Gl X x)(j:X.mg x=none)(g:bootBuiltins x=some (.builtin id))(m:PA X (e::es) t)(i:autoParam (x ≠ "__name__") L2.aD._auto_1)(b:autoParam ((x==("__debug__" : Str))=false) L2.aD._auto_1)
  (he:autoParam (starEach (e::es) X.env=(false,eval e X.env)::starEach es X.env) L2.aR._auto_1) (a:autoParam ((backTo pos (starEach es X.env)).any (·.1)=false) L2.aR._auto_1):PE X (.Call (.Name x p) (e::es) [] pos) (tCB r t):=by
 intro pins s σ H Q I h;refine wpAny_Call_Name_kw (jb I k j g ?_ i b);exact PyProof.Rows.callWith_builtin1 (thn (m pos pins s σ H _ I h) λus c ⟨vs,H1,n,d,f⟩=>l pins c σ H1 vs us Q n d f) he a
theorem rL(l:CallR X (.type T) r)(k:Gl X x)(j:X.mg x=none)(g:bootBuiltins x=some (.type T))(m:PA X (e::es) t)(i:autoParam (x ≠ "__name__") L2.aD._auto_1)(b:autoParam ((x==("__debug__" : Str))=false) L2.aD._auto_1)
  (he:autoParam (starEach (e::es) X.env=(false,eval e X.env)::starEach es X.env) L2.aR._auto_1) (a:autoParam ((backTo pos (starEach es X.env)).any (·.1)=false) L2.aR._auto_1):PE X (.Call (.Name x p) (e::es) [] pos) (tCB r t):=by
 intro pins s σ H Q I h;refine wpAny_Call_Name_kw (jb I k j g ?_ i b);exact aa9 (thn (m pos pins s σ H _ I h) λus c ⟨vs,H1,n,d,f⟩=>l pins c σ H1 vs us Q n d f) he a
end
end L2
namespace HT
open PySem PyProof.Rows
variable{t sl:Addr}{Q:Value->Shared->Prop}{vl vu:Value}{lo hi:Option Int}
section
open PySem.SeqAt
open PySem.AutoSeq1 (wpAny_loadPart')
open PySem.MeetsSeq PySem.MeetsSeq2 PySem.MeetsSeq3
end
section
variable {prog:Program} {w:World} {A:Around} {E:Value->Shared->Prop} {s:Shared}
theorem cat_tup{b:Addr}{vs ws:List Value}(m:IsTup s.heap t vs.toArray)(o:IsTup s.heap b ws.toArray)(i:vs≠[])
  (h1:ws=[]->Q (.ref t) s) (h2:ws≠[]->Q (.ref s.heap.objs.size) { s with heap:=s.heap.push { cls:=.type "tuple", data:=.seq (vs++ws).toArray } })
  (hsz:vs.length+ws.length<=sizeLine):wpAny (model prog w) A (binaryOp .Add (.ref t) (.ref b)) Q E s:=by
 obtain⟨⟨cls,k,data,sl⟩,ho,j,n,hd⟩:=id m;obtain⟨⟨l,g,data2,c⟩,a,f,n2,d⟩:=id o;simp only at j hd f d;subst j hd f d;have e:vs.toArray++ws.toArray=(vs++ws).toArray:=by simp
 by_cases hw:ws=[]
 ·exact concat_meets ⟨_,ho,rfl⟩ ⟨_,a,rfl⟩ noFill_tuple_add seq_tuple_add PySem.F.slot_tuple_add PySem.F.entry_tuple_add (PySem.F.args_tuple_add_2 _ _)
   (tuple_addW1 t b vs.toArray ws.toArray n n2 k g sl c (by exists i) (by simp[hw])) ⟨ho,a,h1 hw⟩
 ·refine concat_meets ⟨_,ho,rfl⟩ ⟨_,a,rfl⟩ noFill_tuple_add seq_tuple_add PySem.F.slot_tuple_add PySem.F.entry_tuple_add (PySem.F.args_tuple_add_2 _ _)
   (tuple_addW2 t b vs.toArray ws.toArray n n2 k g sl c (by exists i) (by exists hw) (by rw[abK,abK];exact hsz)) ⟨ho,a,?_⟩
  rw[e];exact h2 hw
def sIx(n d:Nat):Option Int->Nat
 |none=>d
 |some v=>if v<0 then (v+(n:Int)).toNat else min v.toNat n
theorem sIx_none(n d:Nat):sIx n d none=d:=rfl
theorem sIx_nat(n d k:Nat):sIx n d (some (k:Int))=min k n:=by
 show (if (k:Int)<0 then ((k:Int)+(n:Int)).toNat else min (k:Int).toNat n)=min k n;rw[if_neg (by nofun),Int.toNat_natCast]
theorem sIx_le(n d:Nat)(hd:d<=n)(o:Option Int):sIx n d o<=n:=by
 cases o with
 |none=>exact hd
 | some v=>
  show (if v<0 then (v+(n:Int)).toNat else min v.toNat n)<=n;by_cases a:v<0
  ·rw[if_pos a];nofun
  ·rw[if_neg a];exact Nat.min_le_right _ _
theorem clip_eq(v:Int)(n d:Nat):(if v<0 then max (v+(n:Int)) 0 else min v (n:Int))=((sIx n d (some v):Nat):Int):=by
 show (if v<0 then max (v+(n:Int)) 0 else min v (n:Int))=(((if v<0 then (v+(n:Int)).toNat else min v.toNat n):Nat):Int);by_cases a:v<0
 ·simp only[if_pos a];nofun
 ·simp only[if_neg a];nofun
theorem pL(lo hi:Option Int)(n:Nat):Builtin.Slice.sliceAdjust lo hi 1 (n:Int)=(((sIx n 0 lo:Nat):Int),((sIx n n hi:Nat):Int)):=by
 have h1:¬((1:Int)<0):=by nofun
 unfold Builtin.Slice.sliceAdjust;simp only[h1,if_false];refine Prod.ext ?_ ?_
 ·cases lo with
  |none=>rfl
  |some v=>exact clip_eq v n 0
 ·cases hi with
  |none=>rfl
  |some v=>exact clip_eq v n n
theorem pM(i j:Nat):Builtin.Slice.slicePlaces (i:Int) (j:Int) 1=j - i:=by
 unfold Builtin.Slice.slicePlaces;have h1:(1:Int) > 0:=by nofun
 simp only[h1,if_true,Int.ediv_one];split <;> nofun
theorem jg{v:Value}{o:Option Int}{Q:Option Int->Shared->Prop}(p:IsPart v o)(h:Q o s):wpAny (model prog w) A (Builtin.Slice.slicePartIndex v) Q E s:=by
 cases p with
 |none=>exact slicePart_none h
 |int i t=>exact slicePart_int h
theorem dE{n:Nat}{Q:Int×Int×Nat->Shared->Prop}(hs:s.heap.IsSliceOf sl vl vu .none)(pl:IsPart vl lo)(c:IsPart vu hi)
  (h:Q (((sIx n 0 lo:Nat):Int),1,sIx n n hi - sIx n 0 lo) s):wpAny (model prog w) A (Builtin.Slice.sliceApplied (.ref sl) (pure (n:Int))) Q E s:=by
 obtain⟨os,a,d,b⟩:=id hs;unfold Builtin.Slice.sliceApplied Builtin.Slice.sliceFields;refine aaa (aaa (wpAny_field a b (x:=vl) rfl (aaa (wpAny_field a b (x:=vu) rfl (aaa (wpAny_field a b (x:=.none) rfl (aaf ?_)))))));refine aaa (slicePart_none ?_);show wpAny _ _ (if ((1:Int)==0)=true then _ else _) _ _ s;rw[if_neg (by decide)];refine aaa (jg pl (aaa (jg c (aaa (aaf ?_)))));show wpAny _ _ (match Builtin.Slice.sliceAdjust lo hi 1 (n:Int) with|(lo,hi)=>pure (lo,(1:Int),Builtin.Slice.slicePlaces lo hi 1)) _ _ s;rw[pL lo hi n];show wpAny _ _ (pure (((sIx n 0 lo:Nat):Int),(1:Int),Builtin.Slice.slicePlaces ((sIx n 0 lo:Nat):Int) ((sIx n n hi:Nat):Int) 1)) _ _ s;rw[pM];exact aaf h
theorem wF(xs:Array Value)(i k:Nat):((List.range k).filterMap λ(m:Nat)=>xs[((i:Int)+(m:Int)*1).toNat]?).toArray=((xs.toList.drop i).take k).toArray:=by
 have e:(λ(m:Nat)=>xs[((i:Int)+(m:Int)*1).toNat]?)=λm=>xs[i+m]?:=by
  funext m
  have:((i:Int)+(m:Int)*1).toNat=i+m:=by nofun
  rw[this]
 rw[e];have:=pick_run xs i k;rw[List.filterMap_map] at this;have a:((λx=>xs[x]?) ∘ λx=>i+x)=λm=>xs[i+m]?:=rfl;rw[a] at this;rw[this]
theorem getItem_tuple_cut{items:Array Value}(b:IsTup s.heap t items)(hs:s.heap.IsSliceOf sl vl vu .none)(pl:IsPart vl lo)(g:IsPart vu hi)
  (hw:¬(sIx items.size 0 lo=0/\sIx items.size items.size hi=items.size))
  (h:Q (.ref s.heap.objs.size) { s with heap:=s.heap.push { cls:=.type "tuple", data:=.seq ((items.toList.drop (sIx items.size 0 lo)).take (sIx items.size items.size hi - sIx items.size 0 lo)).toArray } })
  (hsz:items.size<=sizeLine):wpAny (model prog w) A (getItem (.ref t) (.ref sl)) Q E s:=by
 have a:sizeOk (.seq ((items.toList.drop (sIx items.size 0 lo)).take (sIx items.size items.size hi - sIx items.size 0 lo)).toArray):=by
  show ((items.toList.drop (sIx items.size 0 lo)).take (sIx items.size items.size hi - sIx items.size 0 lo)).toArray.size<=sizeLine;rw[abK,abD,abU,abO];omega
 have l:sIx items.size items.size hi<=items.size:=sIx_le _ _ (aac _) hi;obtain⟨os,c,e,i⟩:=id hs;have f:s.TypeIs (.ref sl) "slice" := ⟨os,c,e⟩;unfold getItem
 try with_reducible refine aaW ?_
 first|refine aaa (aaf ?_)|skip
 refine aaa (wpAny_sequenceKey b.typeIs (by decide) ?_)
 refine aaa (wpAny_callSpecial?_slot (name:=Str.ofString "__getitem__") b.typeIs aa0
  (aay aa0 b.typeIs entry_tuple_getitem ?_ (args_tuple_getitem _ _)))
 show wpAny _ _ (Builtin.Tuple.tupleItemsOf (.ref t) >>= _) _ _ s;refine aaa (tupleItemsOf_ b ?_);refine aaa (wpAny_typeOf f ?_);rw[if_pos (by decide)];refine aaa (dE hs pl g ?_)
 have d:¬((((sIx items.size 0 lo:Nat):Int)==0&&(1:Int)==1&&(sIx items.size items.size hi - sIx items.size 0 lo)==items.size)=true):=by
  intro q;rw[abP,abP] at q;have k:((sIx items.size 0 lo:Nat):Int)=0:=eq_of_beq q.1.1;have j:sIx items.size items.size hi - sIx items.size 0 lo=items.size:=eq_of_beq q.2;exact hw ⟨by omega,by omega⟩
 show wpAny _ _ (if (((sIx items.size 0 lo:Nat):Int)==0&&(1:Int)==1&&(sIx items.size items.size hi - sIx items.size 0 lo)==items.size)=true then _ else _) _ _ s;rw[if_neg d,wF]
 first
  |exact aaa (m:=Builtin.Tuple.tupleExact _) (aaF (aaf ⟨_,rfl,aaf h⟩) a)
  |exact aaa (m:=Builtin.Tuple.tupleExact _) (aaF (aaa (aaf (aaf ⟨_,rfl,aaf h⟩))) a)
  |exact aaa (aaa (m:=Builtin.Tuple.tupleExact _) (aaF (aaf (aaf ⟨_,rfl,aaf h⟩)) a))
  |exact aaa (aaa (m:=Builtin.Tuple.tupleExact _) (aaF (aaf ⟨_,rfl,aaf h⟩) a))
end
end HT
namespace L2
open PySem PySem.Spec PyProof.Rows
variable{X:Cx}{e:Expr}{pos apos cpos:Pos}{r:V->Option Int->Option Int->Hp->VK->Prop}{xs:List (List Key×Addr×Value)}{us its its':List Value}{n j t':Nat}{i:Int}{α:Type}{pins:List (Addr×Obj)}{σ:St}{H H':Hp}{s:Shared}{ys:List V}{A:Around}{y x d:V}{u v:Value}{T:String}{o:Option V}{b a:Addr}{w:World}{E Q:Value->Shared->Prop}{P:Program}{k:Key}{kvs:List (List Key×V)}{h':Heap}{td ty tv:TE}{trs:List (TE×TE)}
abbrev TO:=St->Hp->(Option Int->Hp->Prop)->Prop
def PO(X:Cx)(e:Option Expr)(t:TO):Prop:=
 ∀(pins:List (Addr×Obj)) (s:Shared) (σ:St) (H:Hp) (Q:Option Int->Hp->Prop),Inv X pins σ H s->t σ H Q ->
  wpAny (model X.prog X.w) X.A (evalPart e X.env) (λu s'=>∃o H',Inv X pins σ H' s'/\IsPart u o/\Q o H') X.xe s
def mr:TO:=λ_ H Q=>Q none H
def Ci(t:TE):TO:=λσ H Q=>t σ H λx H1=>∃i,x=.int i/\Q (some i) H1
section
variable   {te:TE} {lo hi:Option Expr} {tl th:TO} {p2:Pos}
theorem Cj:PO X none mr:=by
 intro pins s σ H Q I h;rw[evalPart_none];exact aaf ⟨none,H,I,.none,h⟩
theorem Ck(h:PE X e te):PO X (some e) (Ci te):=by
 intro pins s σ H Q I hw;rw[evalPart_some];refine thn (h pins s σ H _ I hw) λu d y=>?_;obtain⟨x,H1,c,a,b⟩:=y;obtain⟨i,rfl,q⟩:=b;obtain⟨t,rfl⟩:=a;exact⟨some i,H1,c,.int i t,q⟩
def SlR(X:Cx)(r:V->Option Int->Option Int->Hp->VK->Prop):Prop:=
 ∀(pins:List (Addr×Obj)) (s:Shared) (σ:St) (H:Hp) (x:V) (v vl vu:Value) (lo hi:Option Int) (sl:Addr) (Q:VK),Inv X pins σ H s->RelV x v->s.heap.IsSliceOf sl vl vu .none->IsPart vl lo->IsPart vu hi->r x lo hi H Q ->
  ∃T id,typeLookup (.type T) "__getitem__" = pure (some (.builtin id))/\s.TypeIs v T/\wpAny (model X.prog X.w) X.A (getItem v (.ref sl)) (EP X pins σ Q) X.xe s
theorem SlR.or{r':V->Option Int->Option Int->Hp->VK->Prop}(h:SlR X r)(h':SlR X r'):SlR X (λx lo hi H Q=>r x lo hi H Q∨r' x lo hi H Q):=by
 intro pins s σ H x v vl vu lo hi sl Q I a hs pl b q;rcases q with q|q
 ·exact h pins s σ H x v vl vu lo hi sl Q I a hs pl b q
 ·exact h' pins s σ H x v vl vu lo hi sl Q I a hs pl b q
def tSl(r:V->Option Int->Option Int->Hp->VK->Prop)(te:TE)(tl th:TO):TE:=λσ H Q=>te σ H λx H1=>tl σ H1 λl H2=>th σ H2 λu a=>r x l u a Q
theorem nG(hr:SlR X r)(he:PE X e te)(hl:PO X lo tl)(hu:PO X hi th):PE X (.Subscript e (.Slice lo hi none p2) pos) (tSl r te tl th):=by
 intro pins s σ H Q I h;refine Subscript_ (thn (he pins s σ H _ I h) λv f b=>?_);obtain⟨x,H1,z,g,k⟩:=b;refine wpAny_Slice (thn (hl pins f σ H1 _ z k) λvl d ⟨l,H2,y,pl,j⟩=>thn (hu pins d σ H2 _ y j) λvu a B=>?_);obtain⟨u,c,w,m,i⟩:=B;rw[evalPart_none];refine aaf ?_;have t:Inv X pins σ c { a with heap:=a.heap.push { cls:=.type "slice", data:=.fields #[vl,vu,.none] } }:=w.kept (t':=a.toks) λb ob q=>Heap.get?_push_of_some _ q;obtain⟨T,id,p,n,o⟩:=hr pins { a with heap:=a.heap.push { cls:=.type "slice", data:=.fields #[vl,vu,.none] } } σ c x v vl vu l u a.heap.objs.size Q t g (Heap.IsSliceOf.new ..) pl m i;show wpAny (model X.prog X.w) X.A (subscriptTail e (.Slice lo hi none p2) v (.ref a.heap.objs.size)) (EP X pins σ Q) X.xe { a with heap:=a.heap.push { cls:=.type "slice", data:=.fields #[vl,vu,.none] } };exact tail_any (ops:=[.ref a.heap.objs.size,v]) n p o (by with_unfolding_all rfl)
def Gh(xs:List V)(lo hi:Option Int):List V:=(xs.drop (HT.sIx xs.length 0 lo)).take (HT.sIx xs.length xs.length hi - HT.sIx xs.length 0 lo)
theorem gR(xs:List V)(lo hi:Option Int):(Gh xs lo hi).length<=xs.length:=by
 unfold Gh;rw[abD,abU];nofun
def ML(K:Frag):V->Option Int->Option Int->Hp->VK->Prop:=λx lo hi H Q=>∃a xs,x=.ref a/\SqT K H a xs /\
 ¬(HT.sIx xs.length 0 lo=0/\HT.sIx xs.length xs.length hi=xs.length)/\∀p,H p=none->Q (.ref p) (upd H p (.tup (Gh xs lo hi)))
theorem G1:SlR X (ML X.K):=by
 intro pins s σ H x v vl vu lo hi sl Q I f hs pl g h;obtain⟨a,xs,rfl,i,hw,q⟩:=h;cases f;obtain⟨its,r,e,d⟩:=I.tuple i;have c:its.toArray.size=xs.length:=by rw[abK];exact r.length.symm
 refine⟨"tuple", _,PyProof.Rows.slot_tuple_getitem.lookup,e.typeIs,?_⟩;refine HT.getItem_tuple_cut e hs pl g (by rw[c];exact hw) ?_ (by rw[c];exact d);rw[c];refine⟨.ref s.heap.objs.size,_,I.laid (t':=s.toks) (o:=.tup (Gh xs lo hi)) (λb ob q=>Heap.get?_push_of_some _ q) (aac _) ?_,rfl,q _ (I.hok.fresh (aac _))⟩;exact⟨aas (gR xs lo hi) d,_,(r.drop (HT.sIx xs.length 0 lo)).take (HT.sIx xs.length xs.length hi - HT.sIx xs.length 0 lo),IsTup.new _ _⟩
def G2(K:Frag):R2:=λx y H Q=>∃a b xs ys,x=.ref a/\y=.ref b/\SqT K H a xs/\SqT K H b ys/\xs≠[]/\xs.length+ys.length<=sizeLine /\
 (ys=[]->Q (.ref a) H)/\(ys≠[]->∀p,H p=none->Q (.ref p) (upd H p (.tup (xs++ys))))
theorem Vals.nil_iff{xs:List V}(r:Vals xs us):us=[]↔xs=[]:=by
 cases r with
 |nil=>simp
 |cons _ _=>simp
theorem Cm:OpR X (binaryOp .Add) (G2 X.K):=by
 intro pins s σ H x y v u Q I i g h;obtain⟨a,b,xs,ys,rfl,rfl,p,n,m,f,k,j⟩:=h;cases i;cases g;obtain⟨its,d,l,_⟩:=I.tuple p;obtain⟨e,c,p2,_⟩:=I.tuple n;refine HT.cat_tup l p2 (λz=>m (d.nil_iff.mp z)) (λz=>⟨.ref a,H,I,rfl,k (c.nil_iff.mp z)⟩) (λz=>?_) (by rw[← d.length,← c.length];exact f);refine⟨.ref s.heap.objs.size,_,I.laid (t':=s.toks) (o:=.tup (xs++ys)) (λb ob q=>Heap.get?_push_of_some _ q) (aac _) ?_,rfl,j (λw=>z (c.nil_iff.mpr w)) _ (I.hok.fresh (aac _))⟩;exact⟨by rw[abB];exact f,_,d.append c,IsTup.new _ _⟩
end
def ixN(n:Nat)(i:Int):Option Nat:=if 0<=i then (if i<n then some i.toNat else none) else if -(n:Int)<=i then some (i+n).toNat else none
def atI{α:Type}(xs:List α)(i:Int):Option α:=(ixN xs.length i).bind λj=>xs[j]?
theorem rM(h:ixN n i=some j):seqIndex? i n=some j/\j<n/\-(n:Int)<=i/\i<n:=by
 unfold ixN at h;by_cases a:0<=i
 ·rw[if_pos a] at h;by_cases h1:i<n
  ·rw[if_pos h1] at h;have e:i.toNat=j:=aai h;exact⟨by rw[seqIndex_of a h1,e],by nofun,by nofun,h1⟩
  ·rw[if_neg h1] at h;cases h
 ·rw[if_neg a] at h;by_cases h1:-(n:Int)<=i
  ·rw[if_pos h1] at h;have e:(i+n).toNat=j:=aai h;exact⟨by rw[seqIndex_neg (by nofun) h1,e],by nofun,h1,by nofun⟩
  ·rw[if_neg h1] at h;cases h
theorem mv{xs:List α}{v:α}(h:atI xs i=some v):∃j,seqIndex? i xs.length=some j/\xs[j]?=some v/\j<xs.length/\-(xs.length:Int)<=i/\i<xs.length:=by
 unfold atI at h
 cases e:ixN xs.length i with
 |none=>rw[e] at h;cases h
 | some j=>
  rw[e] at h;obtain⟨h1,h2,b,a⟩:=rM e;exact⟨j,h1,h,h2,b,a⟩
theorem cn{xs:List α}{v:α}(h:xs[j]?=some v):atI xs (j:Int)=some v:=by
 have a:j<xs.length:=(List.getElem?_eq_some_iff.mp h).1
 have e:ixN xs.length (j:Int)=some j:=by
  unfold ixN;rw[if_pos (by nofun),if_pos (by nofun)];simp
 unfold atI;rw[e];exact h
theorem nH(xs:List α)(v:α):atI (xs++[v]) (-1)=some v:=by
 have hl:(xs++[v]).length=xs.length+1:=by simp
 have e:ixN (xs++[v]).length (-1)=some xs.length:=by
  unfold ixN;rw[hl,if_neg (by decide),if_pos (by nofun)]
  congr 1
  nofun
 unfold atI;rw[e];show (xs++[v])[xs.length]?=some v;simp
def Cn(b:Expr):Prop:=∀o i,subscripted b false o i=operate [o,i] (getItem o i)
def IxR(X:Cx)(r:R2):Prop:=
 ∀(value slice:Expr) (pins:List (Addr×Obj)) (s:Shared) (σ:St) (H:Hp) (x y:V) (v u:Value) (Q:VK),Inv X pins σ H s->RelV x v->RelV y u->r x y H Q ->
  subscripted slice false v u=operate [v,u] (getItem v u)->wpAny (model X.prog X.w) X.A (subscriptTail value slice v u) (EP X pins σ Q) X.xe s
def MtR(X:Cx)(id:String)(r:V->List V->Hp->VK->Prop):Prop:=
 ∀(pins:List (Addr×Obj)) (s:Shared) (σ:St) (H:Hp) (x:V) (xs:List V) (v:Value) (us:List Value) (Q:VK),Inv X pins σ H s->RelV x v->Vals xs us->r x xs H Q ->
  wpAny (model X.prog X.w) X.A (call (.builtin id) (v::us)) (EP X pins σ Q) X.xe s
section
variable  {a b:Expr} {ta tb:TE} 
theorem IxR.or{r r':R2}(h:IxR X r)(h':IxR X r'):IxR X (λx y H Q=>r x y H Q∨r' x y H Q):=by
 intro value slice pins s σ H x y v u Q I b a q hs;rcases q with q|q
 ·exact h value slice pins s σ H x y v u Q I b a q hs
 ·exact h' value slice pins s σ H x y v u Q I b a q hs
theorem Lx{r:R2}(hr:IxR X r)(g:PE X a ta)(f:PE X b tb)(hs:Cn b):PE X (.Subscript a b pos) (tOp r ta tb):=by
 intro pins s σ H Q I h;exact Subscript_ (Lk g f I h λv u c x y H2 i e d q=>hr a b pins c σ H2 x y v u Q i e d q (hs _ _))
def MM(K:Frag):R2:=λx y H Q=>∃p xs i v,x=.ref p/\y=.int i/\SqL K H p xs/\atI xs i=some v/\Q v H
def MN(K:Frag):R2:=λx y H Q=>∃p xs i v,x=.ref p/\y=.int i/\SqT K H p xs/\atI xs i=some v/\Q v H
def MO:R2:=λx y H Q=>∃z i c,x=.str z/\y=.int i/\z.length<=sizeLine/\atI z.cps.toList i=some c/\Q (.str ⟨#[c]⟩) H
theorem Co:IxR X (MM X.K):=by
 intro value slice pins s σ H x y v u Q I f e h hs;obtain⟨p,xs,i,z,rfl,rfl,g,he,q⟩:=h;cases f;obtain⟨t,rfl⟩:=e;obtain⟨its,r,pl,m⟩:=I.list g;obtain⟨j,h1,h2,o,l,k⟩:=mv he;obtain⟨w,d,a⟩:=r.get h2;have hl:=r.length;have n:=gM;have fin:EP X pins σ Q w s:=⟨z,H,I,a,q⟩;by_cases c:0<=i
 ·have b:i.toNat=j:=by
   rw[seqIndex_of c k] at h1;exact aai h1
  exact item_listR pl.isList c (by nofun) (by rw[b];simpa using d) fin hs
 ·have b:(i+(its.toArray.size:Int)).toNat=j:=by
   rw[seqIndex_neg (by nofun) l] at h1;rw[abK,← hl];exact aai h1
  exact subscriptTail_builtinR (x:=w) pl.isList.typeIs slot_list_getitem.lookup
   (wpAny_getItem_list_neg (Q:=λr s'=>r=w/\EP X pins σ Q r s') pl.isList (by nofun) (by rw[abK] <;> nofun) (by nofun) (by rw[b];simpa using d) ⟨rfl,fin⟩) hs
theorem G3:IxR X (MN X.K):=by
 intro value slice pins s σ H x y v u Q I c b h hs;obtain⟨p,xs,i,z,rfl,rfl,d,he,q⟩:=h;cases c;obtain⟨t,rfl⟩:=b;obtain⟨its,r,pl,f⟩:=I.tuple d;obtain⟨j,h1,h2,m,l,k⟩:=mv he;obtain⟨w,e,a⟩:=r.get h2;have hl:=r.length;have g:=gM;have fin:EP X pins σ Q w s:=⟨z,H,I,a,q⟩
 exact subscriptTail_builtinR (x:=w) pl.typeIs slot_tuple_getitem.lookup
  (getItem_tuple (j:=j) (Q:=λr s'=>r=w/\EP X pins σ Q r s') pl (by nofun) (by nofun) (by rw[abK,← hl];exact h1) (by exists e) ⟨rfl,fin⟩) hs
theorem G4:IxR X MO:=by
 intro value slice pins s σ H x y v u Q I b a h hs;obtain⟨z,i,c,rfl,rfl,k,he,q⟩:=h;obtain⟨t,rfl⟩:=b;obtain⟨t',rfl⟩:=a;obtain⟨j,h1,h2,m,e,d⟩:=mv he;have hl:z.cps.toList.length=z.length:=by simp[Str.length]
 rw[hl] at h1 e d;have l:=gM
 exact tail_any (typeIs_str s z t) slot_str_getitem.lookup (getItem_str (c:=c) (by
  have g:decide (i < -(2 ^ 63:Int))=false:=decide_eq_false (by nofun);have f:decide (i ≥ 2 ^ 63)=false:=decide_eq_false (by nofun);rw[g,f,Bool.or_false]) (by rw[h1];simpa using h2) ⟨.str ⟨#[c]⟩,H,I.tok _,⟨_,rfl⟩,q⟩) hs
def rIx(K:Frag):R2:=λx y H Q=>MM K x y H Q∨MN K x y H Q∨MO x y H Q
theorem G5:IxR X (rIx X.K):=Co.or (G3.or G4)
theorem pN(its:List Value)(n j:Nat)(u:Value):Obj.mapSeq (·.setIfInBounds j u) { cls:=.type "list", data:=.seq its.toArray n }={ cls:=.type "list", data:=.seq (its.set j u).toArray n }:=by
 simp[Obj.mapSeq]
theorem Inv.lst{pins:List (Addr×Obj)}{σ:St}{H:Hp}{s:Shared}{p:Addr}{xs:List V}(I:Inv X pins σ H s)(h:H p=some (.lst xs)) :
  ∃(its:List Value) (n:Nat),Vals xs its/\s.heap.get? p=some { cls:=.type "list", data:=.seq its.toArray n }/\xs.length<=sizeLine:=by
 obtain⟨z,its,n,r,e⟩:=I.hok p _ h;exact⟨its,n,r,e,z⟩
theorem Inv.lstUpd{p:Addr}{xs:List V}{a:Nat}{f:Obj->Obj}(I:Inv X pins σ H s)(h:H p=some (.lst xs))
  (ho:s.heap.get? p=some { cls:=.type "list", data:=.seq its.toArray n }) (c:f { cls:=.type "list", data:=.seq its.toArray n }={ cls:=.type "list", data:=.seq its'.toArray a }) (r:Vals ys its') (d:ys.length<=sizeLine) (t:Nat) :
  Inv X pins σ (upd H p (.lst ys)) { s with heap:=s.heap.update p f,toks:=t }:=by
 have e:(s.heap.update p f).get? p=some { cls:=.type "list", data:=.seq its'.toArray a }:=by
  rw[Heap.get?_update_self f ho (by rw[c] <;> rfl),c]
 refine I.write (x:=p) (e:=p) (by rw[h];trivial) (.inl rfl) (λb u g q=>(Heap.get?_update_other _ _ (Ne.symm g)).trans q) ⟨_,e⟩ ?_;exact⟨d,its',a,r,e⟩
def Cp:V->V->V->Hp->(Hp->Prop)->Prop:=λo i v H Q=>∃p xs k j,o=.ref p/\i=.int k/\H p=some (.lst xs)/\ixN xs.length k=some j/\Q (upd H p (.lst (xs.set j v)))
theorem wG:MH X Cp:=by
 intro pins s σ H o i v ov x u Q I g l f h;obtain⟨p,xs,k,j,rfl,rfl,hp,w,q⟩:=h;cases g;obtain⟨t,rfl⟩:=l;obtain⟨its,n,r,ho,m⟩:=I.lst hp;obtain⟨h1,h2,c,b⟩:=rM w;have hl:=r.length;have y:=gM
 have e:Inv X pins σ (upd H p (.lst (xs.set j v))) { s with heap:=s.heap.update p (Obj.mapSeq (·.setIfInBounds j u)) }:=
  I.lstUpd hp ho (pN its n j u) (r.set f j) (by rw[aaI];exact m) s.toks
 by_cases d:0<=k
 ·have a:k.toNat=j:=by
   rw[seqIndex_of d b] at h1;exact aai h1
  exact PySem.W.ki_setAt ho d (by nofun) (by rw[abK,← hl];exact b) (by rw[a];exact⟨_,e,q⟩)
 ·have a:(k+(its.toArray.size:Int)).toNat=j:=by
   rw[seqIndex_neg (by nofun) c] at h1;rw[abK,← hl];exact aai h1
  exact PySem.W.ki_setBack ho (by nofun) (by rw[abK,← hl];exact c) (by nofun) (by rw[a];exact⟨_,e,q⟩)
theorem kJ(lo hi:Option Int)(n:Nat):(sliceBounds lo hi none n).1=((HT.sIx n 0 lo:Nat):Int)/\(sliceBounds lo hi none n).2.1=((HT.sIx n n hi:Nat):Int)/\(sliceBounds lo hi none n).2.2=1:=by
 refine⟨?_,?_,rfl⟩
 ·cases lo with
  |none=>simp [sliceBounds,HT.sIx]
  | some i=>
   simp only[sliceBounds,HT.sIx,Option.getD_none,show (1:Int) > 0 by decide,if_true];by_cases h:i<0
   ·simp only[h,if_true] <;> nofun
   ·simp only[h,if_false] <;> nofun
 ·cases hi with
  |none=>simp [sliceBounds,HT.sIx]
  | some i=>
   simp only[sliceBounds,HT.sIx,Option.getD_none,show (1:Int) > 0 by decide,if_true];by_cases h:i<0
   ·simp only[h,if_true] <;> nofun
   ·simp only[h,if_false] <;> nofun
theorem jM(its:List Value)(lo hi:Option Int):slicePick its.toArray lo hi none=((its.drop (HT.sIx its.length 0 lo)).take (HT.sIx its.length its.length hi - HT.sIx its.length 0 lo)).toArray:=by
 obtain⟨h1,h2,a⟩:=kJ lo hi its.toArray.size;unfold slicePick;rw[h1,h2,a];simp only[sliceRange_one,pick_run,List.size_toArray] <;> rfl
def MP(K:Frag):V->Option Int->Option Int->Hp->VK->Prop:=λx lo hi H Q=>∃a xs,x=.ref a/\SqL K H a xs/\∀p,H p=none->Q (.ref p) (upd H p (.lst (Gh xs lo hi)))
theorem Cq:SlR X (MP X.K):=by
 intro pins s σ H x v vl vu lo hi sl Q I e hs pl f h;obtain⟨a,xs,rfl,i,q⟩:=h;cases e;obtain⟨its,r,d,g⟩:=I.list i;have c:=r.length;refine⟨"list", _,slot_list_getitem.lookup,d.isList.typeIs,?_⟩;refine wpAny_getItem_list_slice d.isList hs pl f .none (by simp) ?_ (by rw[List.size_toArray] <;> nofun);rw[jM,← c];refine⟨.ref s.heap.objs.size,_,I.laid (t':=s.toks) (o:=.lst (Gh xs lo hi)) (λb ob q=>Heap.get?_push_of_some _ q) (aac _) ?_,rfl,q _ (I.hok.fresh (aac _))⟩;exact⟨aas (gR xs lo hi) g,_,0,(r.drop (HT.sIx xs.length 0 lo)).take (HT.sIx xs.length xs.length hi - HT.sIx xs.length 0 lo),Heap.get?_push_size _ rfl⟩
def gT:V->Bool
 |.non=>true
 |.bl _=>true
 |.int _=>true
 |.str _=>true
 |_=>false
def eqV:V->V->Bool
 |.non,.non=>true
 |.bl a,.bl b=>a==b
 |.bl a,.int b=>(if a then 1 else 0)==b
 |.int a,.bl b=>a==(if b then 1 else 0)
 |.int a,.int b=>a==b
 |.str a,.str b=>a==b
 |_,_=>false
theorem G6(d:RelV y u)(c:RelV x v)(f:gT y=true)(e:gT x=true):SeqAt.EqAt A s u v (eqV y x):=by
 cases y with
 | non=>
  cases d
  cases x with
  |non=>cases c;exact SeqAt.EqAt.same _
  |bl b=>cases c;exact SeqAt.EqAt.none_bool b
  |int b=>obtain ⟨t,rfl⟩:=c;exact SeqAt.EqAt.none_int b t
  |str b=>obtain ⟨t,rfl⟩:=c;exact SeqAt.EqAt.none_str b t
  |_=>exact absurd (show false=true from e) abF
 | bl a=>
  cases d
  cases x with
  |non=>cases c;exact SeqAt.EqAt.bool_none a
  |bl b=>cases c;exact SeqAt.EqAt.bool_bool a b
  |int b=>obtain ⟨t,rfl⟩:=c;exact SeqAt.EqAt.bool_int a b t
  |str b=>obtain ⟨t,rfl⟩:=c;exact SeqAt.EqAt.bool_str a b t
  |_=>exact absurd (show false=true from e) abF
 | int a=>
  obtain⟨t',rfl⟩:=d
  cases x with
  |non=>cases c;exact SeqAt.EqAt.int_none a t'
  |bl b=>cases c;exact SeqAt.EqAt.int_bool a t' b
  |int b=>obtain ⟨t,rfl⟩:=c;exact SeqAt.EqAt.int_int a t' b t
  |str b=>obtain ⟨t,rfl⟩:=c;exact SeqAt.EqAt.int_str a t' b t
  |_=>exact absurd (show false=true from e) abF
 | str a=>
  obtain⟨t',rfl⟩:=d
  cases x with
  |non=>cases c;exact SeqAt.EqAt.str_none a t'
  |bl b=>cases c;exact SeqAt.EqAt.str_bool a t' b
  |int b=>obtain ⟨t,rfl⟩:=c;exact SeqAt.EqAt.str_int a t' b t
  |str b=>obtain ⟨t,rfl⟩:=c;exact SeqAt.EqAt.str_str a t' b t
  |_=>exact absurd (show false=true from e) abF
 |_=>exact absurd (show false=true from f) abF
def eqU(x:V)(u:Value):Bool:=match u with
 |.none=>eqV .non x
 |.bool b=>eqV (.bl b) x
 |.int i _=>eqV (.int i) x
 |.str z _=>eqV (.str z) x
 |_=>false
theorem AA(r:RelV y u)(f:gT y=true):eqU x u=eqV y x:=by
 cases y with
 |non=>cases r;rfl
 |bl b=>cases r;rfl
 |int i=>obtain⟨t,rfl⟩:=r;rfl
 |str z=>obtain⟨t,rfl⟩:=r;rfl
 |_=>exact absurd (show false=true from f) abF
theorem gU{x:V}:∀{xs:List V} {us:List Value},Vals xs us->xs.all gT=true->us.any (eqU x)=xs.any λy=>eqV y x
 |_,_,.nil,_=>rfl
 | y::xs,u::us,.cons r t,f=>by
  rw[aaJ,abP] at f;rw[abx,abx,AA r f.1,gU t f.2]
theorem fH{A:Around}{s:Shared}{x:V}{v:Value}(a:RelV x v)(b:gT x=true):∀{xs:List V} {us:List Value},Vals xs us->xs.all gT=true->∀u∈us,SeqAt.EqAt A s u v (eqU x u)
 |_,_,.nil,_=>λu hu=>by cases hu
 | y::xs,u::us,.cons r t,f=>λc hu=>by
  rw[aaJ,abP] at f;rcases abH.mp hu with rfl|hu
  ·rw[AA r f.1];exact G6 r a f.1 b
  ·exact fH a b t f.2 c hu
def inV(x:V)(xs:List V):Bool:=xs.any λy=>eqV y x
def rIn(K:Frag)(neg:Bool):R2:=λx y H Q=>∃p xs,y=.ref p/\(SqL K H p xs∨SqT K H p xs)/\gT x=true/\xs.all gT=true/\Q (.bl (if neg then !inV x xs else inV x xs)) H
theorem rN:OpR X (compareOp .In) (rIn X.K false):=by
 intro pins s σ H x y v u Q I b d h;obtain⟨p,xs,rfl,a,c,fs,q⟩:=h;cases d;rcases a with a|a
 ·obtain⟨its,r,pl,e⟩:=I.list a;refine SeqAt.in_listAt (eqU x) pl.isList (λw hw=>fH b c r fs w (by exists hw)) ⟨.bl _,H,I,rfl,?_⟩;rw[show its.toArray.any (eqU x)=its.any (eqU x) by simp,gU r fs];exact q
 ·obtain⟨its,r,pl,e⟩:=I.tuple a;refine SeqAt.in_tupleAt (eqU x) pl (λw hw=>fH b c r fs w (by exists hw)) ⟨.bl _,H,I,rfl,?_⟩;rw[show its.toArray.any (eqU x)=its.any (eqU x) by simp,gU r fs];exact q
theorem kK:OpR X (compareOp .NotIn) (rIn X.K true):=by
 intro pins s σ H x y v u Q I b d h;obtain⟨p,xs,rfl,a,c,fs,q⟩:=h;cases d;rcases a with a|a
 ·obtain⟨its,r,pl,e⟩:=I.list a;refine SeqAt.notIn_listAt (eqU x) pl.isList (λw hw=>fH b c r fs w (by exists hw)) ⟨.bl _,H,I,rfl,?_⟩;rw[show its.toArray.any (eqU x)=its.any (eqU x) by simp,gU r fs];exact q
 ·obtain⟨its,r,pl,e⟩:=I.tuple a;refine SeqAt.notIn_tupleAt (eqU x) pl (λw hw=>fH b c r fs w (by exists hw)) ⟨.bl _,H,I,rfl,?_⟩;rw[show its.toArray.any (eqU x)=its.any (eqU x) by simp,gU r fs];exact q
theorem kL:OpR X (compareOp .NotIn) (λx y H Q=>∃i j,x=.str i/\y=.str j/\Q (.bl (!(!(Builtin.Str.occurrences j i 0 j.length 1).isEmpty))) H):=by
 intro pins s σ H x y v u Q I b a h;obtain⟨i,j,rfl,rfl,q⟩:=h;obtain⟨t,rfl⟩:=b;obtain⟨t',rfl⟩:=a;exact notIn_str ⟨.bl _,H,I,rfl,q⟩
theorem kM:CallR X (.builtin "len") (λxs H Q=>∃p ys,xs=[.ref p]/\(SqL X.K H p ys∨SqT X.K H p ys)/\Q (.int ys.length) H):=by
 intro pins s σ H xs us Q I r h;obtain⟨p,ys,rfl,b,q⟩:=h;obtain⟨u,rfl,c⟩:=fE r;cases c;have e:=gM;rcases b with b|b
 ·obtain⟨its,r',pl,d⟩:=I.list b;have a:=r'.length;exact Calls.call_len_list pl.isList (by simp only[List.size_toArray] <;> nofun) ⟨.int ys.length,H,I.tok _,⟨s.toks+1,by rw[abK,a]⟩,q⟩
 ·obtain⟨its,r',pl,d⟩:=I.tuple b;have a:=r'.length;exact len_tuple pl (by simp only[List.size_toArray] <;> nofun) ⟨.int ys.length,H,I.tok _,⟨s.toks+1,by rw[abK,a]⟩,q⟩
theorem kN:CallR X (.builtin "len") (λxs H Q=>∃z,xs=[.str z]/\z.length<=sizeLine/\Q (.int z.length) H):=by
 intro pins s σ H xs us Q I r h;obtain⟨z,rfl,a,q⟩:=h;obtain⟨u,rfl,t,rfl⟩:=fE r;have b:=gM;exact len_str (by nofun) ⟨.int z.length,H,I.tok _,⟨_,rfl⟩,q⟩
theorem CallR.or{f:Value}{r r':List V->Hp->VK->Prop}(h:CallR X f r)(h':CallR X f r'):CallR X f (λxs H Q=>r xs H Q∨r' xs H Q):=by
 intro pins s σ H xs us Q I a q;rcases q with q|q
 ·exact h pins s σ H xs us Q I a q
 ·exact h' pins s σ H xs us Q I a q
theorem kO:CallR X (.type "list") (λxs H Q=>∃p ys,xs=[.ref p]/\(SqL X.K H p ys∨SqT X.K H p ys)/\∀l,H l=none->Q (.ref l) (upd H l (.lst ys))):=by
 intro pins s σ H xs us Q I r h;obtain⟨p,ys,rfl,d,q⟩:=h;obtain⟨u,rfl,i⟩:=fE r;cases i
 have fin:∀(its:List Value),Vals ys its->ys.length<=sizeLine->∀(h':Heap) (a:Nat),(∀b o',s.heap.get? b=some o'->h'.get? b=some o') ->
   h'.get? s.heap.objs.size=some { cls:=.type "list", dict:=none,data:=.seq its.toArray a,slots:=#[] }->EP X pins σ Q (.ref s.heap.objs.size) { s with heap:=h' }:=λits r' c h' a kp e=>
  ⟨.ref s.heap.objs.size,_,I.laid (t':=s.toks) kp (aac _) (show ObjOk X.prog X.w _ h' _ (.lst ys) from ⟨c,its,a,r',e⟩),rfl,q _ (I.hok.fresh (aac _))⟩
 rcases d with d|d
 ·obtain⟨its,r',pl,c⟩:=I.list d;have f:=r'.length;obtain⟨o,ho,g,n,hd⟩:=pl.isList;exact call_list_seq p (.inl rfl) ho g hd (λh' a kp e=>fin its r' c h' a kp e) (by simp only[List.size_toArray] <;> nofun)
 ·obtain⟨its,r',pl,c⟩:=I.tuple d;have f:=r'.length;obtain⟨o,ho,g,n,hd⟩:=pl;exact call_list_seq p (.inr rfl) ho g hd (λh' a kp e=>fin its r' c h' a kp e) (by simp only[List.size_toArray] <;> nofun)
def tyV(K:Frag)(T:String)(x:V)(H:Hp):Prop:=match x with
 |.str _=>T = "str"
 |.int _=>T = "int"
 | .ref p=>(T = "list" /\ ∃xs,SqL K H p xs)∨(T = "tuple" /\ ∃o,K.lookup p=some o/\o.cls=.type "tuple" /\ o.dict=none) ∨
   (T = "dict" /\ ((∃kvs,H p=some (.dK kvs))∨∃kvs,H p=some (.dT kvs)))∨(T = "set" /\ ∃S n,H p=some (.set S n))
 |_=>False
theorem AB(I:Inv X pins σ H s)(r:RelV x v)(ty:tyV X.K T x H) :
  s.TypeIs v T/\∀a,v=.ref a->∃ob,s.heap.get? a=some ob/\ob.dict=none:=by
 cases x with
 | str z=>
  obtain⟨t,rfl⟩:=r;cases (show T = "str" from ty);exact⟨typeIs_str s z t,λ_ e=>nomatch e⟩
 | int i=>
  obtain⟨t,rfl⟩:=r;cases (show T = "int" from ty);exact⟨typeIs_int s i t,λ_ e=>nomatch e⟩
 | ref p=>
  cases r;rcases ty with ⟨rfl,xs,f⟩|⟨rfl,o,b,g,hd⟩|⟨rfl,b⟩|⟨rfl,S,n,b⟩
  ·obtain⟨its,_,pl,_⟩:=I.list f;refine⟨pl.isList.typeIs,λa e=>?_⟩;cases e;obtain⟨o,n,e,c,hd,_⟩:=pl;exact⟨o,e,hd⟩
  ·refine⟨⟨o,I.kIn p o b,g⟩,λa e=>?_⟩;cases e;exact⟨o,I.kIn _ o b,hd⟩
  ·have z:∃o,s.heap.get? p=some o/\o.ExactDict:=by
    rcases b with ⟨kvs,b⟩|⟨kvs,b⟩
    ·obtain⟨_,_,_,_,o,_,_,e,ex,_⟩:=I.hok p _ b;exact⟨o,e,ex⟩
    ·obtain⟨_,_,_,_,o,_,_,e,ex,_⟩:=I.hok p _ b;exact⟨o,e,ex⟩
   obtain⟨o,e,ex⟩:=z;refine⟨⟨o,e,ex.1⟩,λa d=>?_⟩;cases d;exact⟨o,e,ex.2.1⟩
  ·obtain⟨o,_,_,_,e,ex,_⟩:=I.hok p _ b;refine⟨⟨o,e,ex.1⟩,λa d=>?_⟩;cases d;exact⟨o,e,ex.2.1⟩
 |_=>exact False.elim ty
def Gi(K:Frag)(T:String)(r:V->List V->Hp->VK->Prop)(to:TE):TE:=λσ H Q=>to σ H λx H1=>tyV K T x H1/\r x [] H1 Q
def tBM(K:Frag)(T:String)(r:V->List V->Hp->VK->Prop)(to:TE)(t:TA):TE:=λσ H Q=>to σ H λx H1=>tyV K T x H1/\t σ H1 λxs H2=>r x xs H2 Q
variable {o:Expr} {es:List Expr} {to:TE} {t:TA} {name:Str}  {id:String} {r:V->List V->Hp->VK->Prop}
theorem G7(i:PlainAttrs T)(slot:Slot T name id)(c:typeOf (.builtin id)=pure (.type "method_descriptor"))(j:MtR X id r)(ho:PE X o to)
  (b:autoParam (attributeBase o name X.env (eval o X.env)=eval o X.env) L2.aR._auto_1) (a:autoParam ((apos.endLine==cpos.line)=true) L2.aR._auto_1):PE X (.Call (.Attribute o name apos) [] [] cpos) (Gi X.K T r to):=by
 intro pins s σ H Q I h;refine wpAny_Call_method0_late b a (thn (ho pins s σ H _ I h) λv f y=>?_);obtain⟨x,H1,e,d,ty,g⟩:=y;obtain⟨h1,h2⟩:=AB e d ty;exact⟨T,id,i,slot,c,h1,h2,abl rfl (PySem.evalArgs_none (j pins f σ H1 x [] v [] Q e d .nil g))⟩
theorem Ly(q:PlainAttrs T)(slot:Slot T name id)(f:typeOf (.builtin id)=pure (.type "method_descriptor"))(u:MtR X id r)(ho:PE X o to)(w:PA X (e::es) t)
  (c:autoParam (attributeBase o name X.env (eval o X.env)=eval o X.env) L2.aR._auto_1)
  (d:autoParam (((backTo cpos (starEach (e::es) X.env)).all (λx=>!x.1)&&(backToKw cpos (keywordEach [] X.env)).all (λx=>x.1.isSome)
   && decide ((e::es).length+([]:List Keyword).length+(if ([]:List Keyword).isEmpty then 0 else 1)<30))=true) L2.aR._auto_1)
  (b:autoParam ((apos.endLine==cpos.line)=true) L2.aR._auto_1) (hs:autoParam (starEach (e::es) X.env=(false,eval e X.env)::starEach es X.env) L2.aR._auto_1) (a:autoParam ((backTo cpos (starEach es X.env)).any (·.1)=false) L2.aR._auto_1) :
  PE X (.Call (.Attribute o name apos) (e::es) [] cpos) (tBM X.K T r to t):=by
 intro pins s σ H Q I h;refine wpAny_Call_method_late c d b rfl (thn (ho pins s σ H _ I h) λv l z=>?_);obtain⟨x,H1,j,g,ty,p⟩:=z;obtain⟨h1,h2⟩:=AB j g ty;refine⟨T,id,q,slot,f,h1,h2,?_⟩;have i:=w cpos pins l σ H1 _ j p;rw[hs] at i ⊢;refine abl (by show (false || (backTo cpos (starEach es X.env)).any (·.1))=false;rw[a] <;> rfl) (Calls.evalArgs_plain ?_);exact thn i λus k ⟨vs,H2,y,m,n⟩=>u pins k σ H2 x vs v us Q y g m n
/- xs.append(e),list.index on a module's tuple .. are MtR facts of 06m -/
end
def MtM(X:Cx)(id:String)(r:V->List V->Hp->VK->Prop):Prop:=
 ∀(pins:List (Addr×Obj)) (s:Shared) (σ:St) (H:Hp) (x:V) (xs:List V) (v:Value) (us:List Value) (Q:VK),Inv X pins σ H s->RelV x v->Vals xs us->r x xs H Q ->
  wpAny (model X.prog X.w) X.A (call (.builtin id) (v::us)) (EP X pins σ Q) X.xe s
theorem Vals.one(h:Vals [x] us):∃u,us=[u]/\RelV x u:=by
 cases h with|cons r t=>cases t;exact⟨_,rfl,r⟩
theorem Vals.zero:∀{us:List Value},Vals [] us->us=[]
 |_,.nil=>rfl
theorem Vals.dropLast{xs:List V}(h:Vals xs us):Vals xs.dropLast us.dropLast:=by
 induction h with
 |nil=>exact .nil
 | cons r t a=>
  cases t with
  |nil=>exact .nil
  |cons q t'=>exact .cons r a
theorem pO(l:List α):l.eraseIdx (l.length - 1)=l.dropLast:=by
 induction l with
 |nil=>rfl
 | cons a r c=>
  cases r with
  |nil=>rfl
  | cons b r=>
   have e:(a::b::r).length - 1=((b::r).length - 1)+1:=by
    have h1:(a::b::r).length=r.length+2:=rfl;have h2:(b::r).length=r.length+1:=rfl;nofun
   rw[e,List.eraseIdx_cons_succ,c]
   all_goals rfl
section
variable      {l:Addr} {xs zs:List V}
theorem Inv.lset{f:Array Value->Array Value}(I:Inv X pins σ H s)(g:H l=some (.lst xs))
  (e:s.heap.get? l=some { cls:=.type "list", data:=.seq its.toArray n }) (c:f its.toArray=its'.toArray) (b:Vals ys its') (a:ys.length<=sizeLine) :
  Inv X pins σ (upd H l (.lst ys)) { s with heap:=s.heap.update l (Obj.mapSeq f),toks:=t' }:=by
 have q:=PySem.IsL.update e f;rw[c] at q;refine I.write (x:=l) (e:=l) (by rw[g];exact trivial) (.inl rfl) (λi u d hu=>(Heap.get?_update_other s.heap (Obj.mapSeq f) (Ne.symm d)).trans hu) ⟨_,q⟩ ?_;exact⟨a,its',_,b,q⟩
theorem Inv.lnew(I:Inv X pins σ H s)(b:Vals ys its)(a:ys.length<=sizeLine) :
  Inv X pins σ (upd H s.heap.objs.size (.lst ys)) { s with heap:=s.heap.push { cls:=.type "list", data:=.seq its.toArray },toks:=t' }:=
 I.laid (λ_ _ q=>Heap.get?_push_of_some _ q) (aac _) ⟨a,its,0,b,Heap.get?_push_size _ rfl⟩
theorem Inv.fresh(I:Inv X pins σ H s):H s.heap.objs.size=none:=I.hok.fresh (aac _)
theorem Inv.lstM(I:Inv X pins σ H s)(a:H l=some (.lst xs)):xs.length<=sizeLine/\∃(its:List Value) (n:Nat),Vals xs its/\xs.length=its.length/\s.heap.get? l=some { cls:=.type "list", data:=.seq its.toArray n }:=by
 obtain⟨z,its,n,r,e⟩:=I.hok l _ a;exact⟨z,its,n,r,r.length,e⟩
end
def dO:V->List V->Hp->VK->Prop:=λx vs H Q=>∃l xs y,x=.ref l/\vs=[y]/\H l=some (.lst xs)/\xs.length<sizeLine/\Q .non (upd H l (.lst (xs++[y])))
theorem kP:MtM X "list.append" dO:=by
 intro pins s σ H x vs v us Q I b c h;obtain⟨l,xs,y,rfl,rfl,a,f,q⟩:=h;cases b;obtain⟨u,rfl,d⟩:=c.one;obtain⟨z,its,n,r,hl,e⟩:=I.lstM a;refine call_meets F.slot_list_append ⟨_,e,rfl⟩ F.entry_list_append (F.args_list_append_2 _ _) (PySem.list_append l its.toArray n u (by rw[abK];nofun)) ⟨e,?_⟩;refine⟨.non,_,I.lset (its':=its++[u]) a e (by simp) (r.append (.cons d .nil)) ?_,rfl,q⟩;rw[List.length_append,abb];nofun
def G8:V->List V->Hp->VK->Prop:=λx vs H Q=>∃l xs y,x=.ref l/\vs=[]/\H l=some (.lst xs)/\xs[xs.length - 1]?=some y/\Q y (upd H l (.lst xs.dropLast))
theorem G9:MtM X "list.pop" G8:=by
 intro pins s σ H x vs v us Q I d f h;obtain⟨l,xs,y,rfl,rfl,c,i,q⟩:=h;cases d;have b:=f.zero;subst b;obtain⟨z,its,n,r,hl,e⟩:=I.lstM c;obtain⟨u,hu,g⟩:=r.get i
 have a:its.toArray[its.toArray.size - 1]?=some u:=by
  show its.toArray[its.length - 1]?=some u;rw[← Array.getElem?_toList,← hl];exact hu
 refine call_meets F.slot_list_pop ⟨_,e,rfl⟩ F.entry_list_pop (F.args_list_pop_1 _) (MeetsSeq.list_pop_last l its.toArray n u a (by rw[abK];nofun)) ⟨e,?_⟩;refine⟨y,_,I.lset (its':=its.dropLast) c e ?_ r.dropLast ?_,g,q⟩
 ·show its.toArray.eraseIdxIfInBounds (its.toArray.size - 1)=its.dropLast.toArray;rw[abK,List.eraseIdxIfInBounds_toArray,pO]
 ·rw[List.length_dropLast];nofun
section
variable {prog:Program}    
end
section
variable {κ:Type} [DecidableEq κ]
def gw(kvs:List (κ×V))(k:κ):Option V:=(kvs.find? λa=>decide (a.1=k)).map (·.2)
def gx(kvs:List (κ×V))(k:κ)(v:V):List (κ×V):=
 if (kvs.any λa=>decide (a.1=k))=true then kvs.map (λa=>if a.1=k then (a.1,v) else a) else kvs++[(k,v)]
def iS(kvs:List (κ×V))(k:κ):List (κ×V):=kvs.filter λa=>decide (a.1≠k)
theorem gC{p:κ×V}{r:List (κ×V)}{k:κ}(e:p.1=k):gw (p::r) k=some p.2:=by simp[gw,List.find?_cons,e]
theorem gE{p:κ×V}{r:List (κ×V)}{k:κ}(e:¬p.1=k):gw (p::r) k=gw r k:=by simp[gw,List.find?_cons,e]
theorem gF(k:κ):∀kvs:List (κ×V),(kvs.any λkv=>decide (kv.1=k))=(gw kvs k).isSome
 |[]=>rfl
 | p::r=>by
  rw[abx];by_cases e:p.1=k
  ·simp only[gC e,decide_eq_true e,Bool.true_or,Option.isSome_some]
  ·rw[gE e,decide_eq_false e,Bool.false_or];exact gF k r
theorem eX(kvs:List (κ×V))(k:κ)(v:V):(gx kvs k v).length<=kvs.length+1:=by
 unfold gx;split
 ·rw[abz];nofun
 ·rw[abB,abI,List.length_nil];nofun
theorem RelO.isSome_eq{u:Option Value}(r:RelO o u):o.isSome=u.isSome:=by
 cases o with
 | none=>cases u with
  |none=>rfl
  |some _=>exact (show False from r).elim
 | some _=>cases u with
  |none=>exact (show False from r).elim
  |some _=>rfl
theorem RelO.getD{u:Option Value}{d':Value}(r:RelO o u)(rd:RelV d d'):RelV (o.getD d) (u.getD d'):=by
 cases o with
 | none=>cases u with
  |none=>exact rd
  |some _=>exact (show False from r).elim
 | some _=>cases u with
  |none=>exact (show False from r).elim
  |some _=>exact r
theorem KV.val{kvs:List (κ×V)}{vs:List (κ×Value)}(r:KV kvs vs)(k:κ):RelO (gw kvs k) (valueAt vs k):=by
 unfold KV at r
 induction r with
 |nil=>exact True.intro
 | @cons p q ps a h t d=>
  obtain⟨h1,h2⟩:=h;by_cases e:p.1=k
  ·have c:q.1=k:=h1.symm.trans e;have b:valueAt (q::a) k=some q.2:=by simp[valueAt,List.find?_cons,c]
   rw[gC e,b];exact h2
  ·have c:¬q.1=k:=λz=>e (h1.trans z);have b:valueAt (q::a) k=valueAt a k:=by simp[valueAt,List.find?_cons,c]
   rw[gE e,b];exact d
theorem KV.any{kvs:List (κ×V)}{vs:List (κ×Value)}(r:KV kvs vs)(k:κ):(kvs.any λkv=>decide (kv.1=k))=vs.any λkv=>decide (kv.1=k):=by
 unfold KV at r
 induction r with
 |nil=>rfl
 |cons h t a=>rw[abx,abx,a,h.1]
theorem KV.repl{kvs:List (κ×V)}{vs:List (κ×Value)}(r:KV kvs vs)(k:κ)(a:RelV y u) :
  KV (kvs.map λkv=>if kv.1=k then (kv.1,y) else kv) (vs.map λkv=>if kv.1=k then (kv.1,u) else kv):=by
 unfold KV at r ⊢
 induction r with
 |nil=>exact .nil
 | @cons p q ps c h t b=>
  rw[abC,abC];refine .cons ?_ b;obtain⟨h1,h2⟩:=h;by_cases e:p.1=k
  ·rw[if_pos e,if_pos (h1.symm.trans e)];exact⟨h1,a⟩
  ·rw[if_neg e,if_neg (λz=>e (h1.trans z))];exact⟨h1,h2⟩
theorem KV.put{kvs:List (κ×V)}{vs:List (κ×Value)}(r:KV kvs vs)(k:κ)(a:RelV y u):KV (gx kvs k y) (stored vs k u):=by
 unfold gx stored;rw[r.any k];by_cases e:(vs.any λb=>decide (b.1=k))=true
 ·rw[if_pos e,if_pos e];exact r.repl k a
 ·rw[if_neg e,if_neg e];exact Paired.snoc r ⟨rfl,a⟩
theorem KV.drop{kvs:List (κ×V)}{vs:List (κ×Value)}(r:KV kvs vs)(k:κ):KV (iS kvs k) (without vs k):=by
 unfold KV at r ⊢;unfold iS without
 induction r with
 |nil=>exact .nil
 | @cons p q ps f h t c=>
  obtain⟨h1,h2⟩:=h;rw[List.filter_cons,List.filter_cons];by_cases e:p.1=k
  ·have a:¬decide (p.1≠k)=true:=by simp[e]
   have b:¬decide (q.1≠k)=true:=by simp[h1.symm.trans e]
   rw[if_neg a,if_neg b];exact c
  ·have d:¬q.1=k:=λz=>e (h1.trans z);have a:decide (p.1≠k)=true:=by simp[e]
   have b:decide (q.1≠k)=true:=by simp[d]
   rw[if_pos a,if_pos b];exact .cons ⟨h1,h2⟩ c
theorem KV.length{kvs:List (κ×V)}{vs:List (κ×Value)}(r:KV kvs vs):kvs.length=vs.length:=aa2 r
theorem nI(kvs:List (κ×V))(k:κ):(iS kvs k).length<=kvs.length:=aaO _ _
end
theorem iT(r:RelV (kV k) u):(ax P w).is k u=true:=by
 cases k with
 |inl i=>obtain⟨t,e⟩:=(show ∃t,u=Value.int i t from r);subst e;exact mh P w i t
 |inr x=>obtain⟨t,e⟩:=(show ∃t,u=Value.str x t from r);subst e;exact mj P w x t
theorem kQ{P:Program}{w:World}:∀{ks:List Key} {us:List Value},Vals (ks.map kV) us->ItemsAre (ax P w) ks us
 |[],_,r=>by rw[ab4] at r;cases r;exact .nil
 | k::ks,_,r=>by
  rw[abC] at r
  cases r with
  |cons h t=>exact .cons (iT h) (kQ t)
abbrev KT(H:Hp):List (List Key×V)->List (List Key×Addr×Value)->Prop:=Paired λp q=>p.1=q.1/\H q.2.1=some (.tup (p.1.map kV))/\RelV p.2 q.2.2
theorem KT.val(r:KT H kvs xs)(k:List Key):RelO (gw kvs k) ((atKey xs k).map (·.2)):=by
 induction r with
 |nil=>exact True.intro
 | @cons p q ps a h t d=>
  obtain⟨h1,_,h2⟩:=h;by_cases e:p.1=k
  ·have c:q.1=k:=h1.symm.trans e;have b:atKey (q::a) k=some q.2:=by simp[atKey,List.find?_cons,c]
   rw[gC e,b];exact h2
  ·have c:¬q.1=k:=λz=>e (h1.trans z);have b:atKey (q::a) k=atKey a k:=by simp[atKey,List.find?_cons,c]
   rw[gE e,b];exact d
theorem KT.repl(r:KT H kvs xs)(k:List Key)(a:RelV y u) :
  KT H (kvs.map λkv=>if kv.1=k then (kv.1,y) else kv) (xs.map (putAt k u)):=by
 induction r with
 |nil=>exact .nil
 | @cons p q ps d h t b=>
  rw[abC,abC];refine .cons ?_ b;obtain⟨h1,h2,c⟩:=h;unfold putAt;by_cases e:p.1=k
  ·rw[if_pos e,if_pos (h1.symm.trans e)];exact⟨h1,h2,a⟩
  ·rw[if_neg e,if_neg (λz=>e (h1.trans z))];exact⟨h1,h2,c⟩
theorem KT.put(r:KT H kvs xs)(k:List Key)(d:H b=some (.tup (k.map kV)))(a:RelV y u) :
  KT H (gx kvs k y) (storedH xs k b u):=by
 have e:(kvs.any λc=>decide (c.1=k))=(atKey xs k).isSome:=by
  rw[gF,(r.val k).isSome_eq,Option.isSome_map]
 unfold gx storedH;rw[e];by_cases q:(atKey xs k).isSome=true
 ·rw[if_pos q,if_pos q];exact r.repl k a
 ·rw[if_neg q,if_neg q];exact Paired.snoc r ⟨rfl,d,a⟩
theorem KT.keeps(r:KT H kvs xs)(a:∀b ys,H b=some (.tup ys)->H' b=some (.tup ys)):KT H' kvs xs:=
 Paired.mapP r λ_ _ z=>⟨z.1,a _ _ z.2.1,z.2.2⟩
section
variable    {h:Heap} 
theorem rO{u:HO}(ok:HOk P w H h)(e:Rd H a u):ObjOk P w H h a u:=e.ok ok
theorem iU{kvs:List (Key×V)}(ok:HOk P w H h)(e:Rd H a (.dK kvs)):kvs.length<=sizeLine/\(a==sysModules)=false/\∃vs,KV kvs vs/\h.DictOf (ax P w) a vs:=
 show ObjOk P w H h a (.dK kvs) from rO ok e
theorem rP{kvs:List (Key×V)}(ok:HOk P w H h)(e:H a=some (.dK kvs)):kvs.length<=sizeLine/\(a==sysModules)=false/\∃vs,KV kvs vs/\h.DictOf (ax P w) a vs:=iU ok (.inl e)
theorem jh{ks:List Key}(ok:HOk P w H h)(e:H a=some (.tup (ks.map kV))):(tupleKind (ax P w)).is h ks a:=by
 obtain⟨_,its,r,o,h1,h2,n,b⟩:=(show ObjOk P w H h a (.tup (ks.map kV)) from ok a _ e);exact⟨o,its.toArray,n,h1,h2,b,by simpa using kQ r⟩
theorem mz(ok:HOk P w H h)(e:Rd H a (.dT kvs)):kvs.length<=sizeLine/\(a==sysModules)=false /\
  ∃xs,KT H kvs xs/\h.DictOfH (tupleKind (ax P w)) a xs:=by
 obtain⟨z,y,xs,r,o,es,ep,h1,h2,i,g,f⟩:=(show ObjOk P w H h a (.dT kvs) from rO ok e);refine⟨z,y,xs,r,o,es,ep,h1,h2,i,g,λx b=>?_,f⟩
 have all:∀{l:List (List Key×V)} {m:List (List Key×Addr×Value)},KT H l m->∀x∈m,(tupleKind (ax P w)).is h x.1 x.2.1:=by
  intro l m q
  induction q with
  |nil=>intro x b;exact nomatch b
  | @cons p q ps j c t d=>
   intro x b;rcases abH.mp b with e|b
   ·subst e;exact jh ok (by rw[← c.1];exact c.2.1)
   ·exact d x b
 exact all r x b
theorem Lz(ok:HOk P w H h)(e:H a=some (.dT kvs)):kvs.length<=sizeLine/\(a==sysModules)=false /\
  ∃xs,KT H kvs xs/\h.DictOfH (tupleKind (ax P w)) a xs:=mz ok (.inl e)
end
def DGet(H:Hp)(a:Addr)(y:V)(r:Option V):Prop:=
 (∃kvs k,Rd H a (.dK kvs)/\y=kV k/\r=gw kvs k)∨∃kvs k b,Rd H a (.dT kvs)/\y=.ref b/\H b=some (.tup (k.map kV))/\r=gw kvs k
def MQ(H:Hp)(a:Addr)(y v:V)(H':Hp):Prop:=
 (∃kvs k,H a=some (.dK kvs)/\y=kV k/\kvs.length<sizeLine/\H'=upd H a (.dK (gx kvs k v))) ∨
 ∃kvs k b,H a=some (.dT kvs)/\y=.ref b/\H b=some (.tup (k.map kV))/\kvs.length<sizeLine/\H'=upd H a (.dT (gx kvs k v))
section
variable       {v:V} {r:Value}   
theorem Inv.big(I:Inv X pins σ H s):sysModules<s.heap.objs.size:=by
 have h:mainGlobals<s.heap.objs.size:=(I.mod.glob.keeps I.bk).lt;exact Nat.lt_trans (by decide) h
theorem rQ(hu:A.units+1<cLine)(I:Inv X pins σ H s)(g:DGet H a y (some v))(m:RelV y u)(h:∀d s',Inv X pins σ H s'->RelV v d->Q d s') :
  wpAny (model X.prog X.w) A (getItem (.ref a) u) Q E s:=by
 rcases g with ⟨kvs,k,e,i,l⟩|⟨kvs,k,b,e,i,n,l⟩
 ·subst i;obtain⟨z,hd,vs,rel,j⟩:=iU I.hok e;obtain⟨d,hw,c⟩:=RelO.some_of (v:=v) (o:=valueAt vs k) (by rw[l];exact rel.val k);exact wpAny_getItem_of (iT m) j.mapOf hw (h d _ (I.tok _) c)
 ·subst i;cases (show u=Value.ref b from m);obtain⟨z,hd,xs,rel,j⟩:=mz I.hok e;obtain⟨d,hw,c⟩:=RelO.some_of (v:=v) (o:=(atKey xs k).map (·.2)) (by rw[l];exact rel.val k);obtain⟨p,hp,f⟩:=Option.map_eq_some_iff.mp hw;refine wpAny_getItem_heap (tupleKind_room_in1 hu) (jh I.hok n) j hp ?_;rw[f];exact h d _ (I.tok _) c
theorem d_in(hu:A.units+1<cLine)(I:Inv X pins σ H s)(g:DGet H a y o)(f:RelV y u)(h:∀s',Inv X pins σ H s'->Q (.bool o.isSome) s') :
  wpAny (model X.prog X.w) A (compareOp .In u (.ref a)) Q E s:=by
 rcases g with ⟨kvs,k,e,c,l⟩|⟨kvs,k,b,e,c,i,l⟩
 ·subst c;obtain⟨z,hd,vs,rel,d⟩:=iU I.hok e;refine wpAny_in_of (iT f) hd d.mapOf ?_;rw[← (rel.val k).isSome_eq,← l];exact h _ (I.tok _)
 ·subst c;cases (show u=Value.ref b from f);obtain⟨z,hd,xs,rel,d⟩:=mz I.hok e;refine wpAny_in_heap (tupleKind_room_in1 hu) (jh I.hok i) hd d ?_;have q:=(rel.val k).isSome_eq;rw[Option.isSome_map] at q;rw[← q,← l];exact h _ (I.tok _)
theorem Cr(hu:A.units+1<cLine)(I:Inv X pins σ H s)(g:DGet H a y o)(f:RelV y u)(h:∀s',Inv X pins σ H s'->Q (.bool (!o.isSome)) s') :
  wpAny (model X.prog X.w) A (compareOp .NotIn u (.ref a)) Q E s:=by
 rcases g with ⟨kvs,k,e,c,l⟩|⟨kvs,k,b,e,c,i,l⟩
 ·subst c;obtain⟨z,hd,vs,rel,d⟩:=iU I.hok e;refine wpAny_notIn_of (iT f) hd d.mapOf ?_;rw[← (rel.val k).isSome_eq,← l];exact h _ (I.tok _)
 ·subst c;cases (show u=Value.ref b from f);obtain⟨z,hd,xs,rel,d⟩:=mz I.hok e;refine wpAny_notIn_heap (tupleKind_room_in1 hu) (jh I.hok i) hd d ?_;have q:=(rel.val k).isSome_eq;rw[Option.isSome_map] at q;rw[← q,← l];exact h _ (I.tok _)
theorem fW{ob:HO}(I:Inv X pins σ H s)(c:Mut (H a))(hs:Heap.SameBut a s.heap h')(he:∃q,h'.get? a=some q)(new:ObjOk X.prog X.w (upd H a ob) h' a ob) :
  Inv X pins σ (upd H a ob) { s with heap:=h',toks:=t' }:=
 I.write (x:=a) (e:=a) c (.inl rfl) (λb q d z=>(hs.2 b d).trans z) he new
theorem gW{kvs:List (Key×V)}{vs:List (Key×Value)}(z:kvs.length<=sizeLine)(hd:(a==sysModules)=false)(rel:KV kvs vs)(b:h'.DictOf (ax P w) a vs) :
  ObjOk P w H' h' a (.dK kvs):=⟨z,hd,vs,rel,b⟩
theorem rR{Q:Unit->Shared->Prop}(hu:A.units+1<cLine)(I:Inv X pins σ H s)(g:MQ H a y v H')(o:RelV y u)(p:RelV v r)(h:∀s',Inv X pins σ H' s'->Q () s') :
  wpAny (model X.prog X.w) A (setItem (.ref a) u r) Q E s:=by
 rcases g with ⟨kvs,k,e,j,l,m⟩|⟨kvs,k,b,e,j,w,l,m⟩
 ·subst j m;obtain⟨z,hd,vs,rel,n⟩:=rP I.hok e;have i:vs.length<=sizeLine:=by rw[← rel.length];exact z
  have hl:(gx kvs k v).length<=sizeLine:=by have:=eX kvs k v;nofun
  refine wpAny_setItem_pairs (hsz:=i) (iT o) n λh' d hs=>h _ ?_;have he:∃q,h'.get? a=some q:=let ⟨q,_,_,f,_⟩:=d;⟨q,f⟩;exact fW I (by rw[e];exact True.intro) hs he (gW hl hd (rel.put k p) d)
 ·subst j m;cases (show u=Value.ref b from o);obtain⟨z,hd,xs,rel,n⟩:=Lz I.hok e;have i:xs.length<=sizeLine:=by rw[← aa2 rel];exact z
  have hl:(gx kvs k v).length<=sizeLine:=by have:=eX kvs k v;nofun
  refine wpAny_setItem_heap (hsz:=i) (tupleKind_room_in1 hu) (jh I.hok w) n λh' d hs=>h _ ?_;obtain⟨q,es,ep,f,h2,C,B,_,x⟩:=d;refine fW I (by rw[e];exact True.intro) hs ⟨q,f⟩ ⟨hl,hd,_,(rel.put k w p).keeps λc ys t=>?_,q,es,ep,f,h2,C,B,x⟩;rw[ai (K3 t e (λz=>nomatch z))];exact t
end
section
variable       {kvs:List (Key×V)}    
theorem Ha{Q:Unit->Shared->Prop}(I:Inv X pins σ H s)(e:H a=some (.dK kvs))(d:RelV (kV k) u)(l:(gw kvs k).isSome=true)(h:∀s',Inv X pins σ (upd H a (.dK (iS kvs k))) s'->Q () s') :
  wpAny (model X.prog X.w) A (delItem (.ref a) u) Q E s:=by
 obtain⟨z,hd,vs,rel,c⟩:=rP I.hok e
 refine wpAny_delItem_slot c.typeIs (by decide) PySem.F.slot_dict_delitem
  (call_meetsIn PySem.F.slot_dict_delitem c.typeIs PySem.F.entry_dict_delitem (PySem.F.args_dict_delitem_2 _ _) (meets_dict_delitem_pairs (ax X.prog X.w) a (iT d)) ⟨vs,c,by rw[← rel.length];exact z,by rw[← (rel.val k).isSome_eq];exact l,λh' b hs=>h _ ?_⟩)
 have he:∃q,h'.get? a=some q:=let ⟨q,_,_,f,_⟩:=b;⟨q,f⟩;exact fW I (by rw[e];exact True.intro) hs he (gW (aas (nI kvs k) z) hd (rel.drop k) b)
theorem LA{v:V}{more:List Value}(I:Inv X pins σ H s)(e:H a=some (.dK kvs))(d:RelV (kV k) u)(l:gw kvs k=some v)(g:more=[]∨∃x,more=[x])
  (h:∀b s',Inv X pins σ (upd H a (.dK (iS kvs k))) s'->RelV v b->Q b s'):wpAny (model X.prog X.w) A (call (.builtin "dict.pop") (.ref a::u::more)) Q E s:=by
 obtain⟨z,hd,vs,rel,j⟩:=rP I.hok e;obtain⟨b,hw,f⟩:=RelO.some_of (v:=v) (o:=valueAt vs k) (by rw[← l];exact rel.val k)
 have hp:(keyPart u).isSome=true:=by
  cases k with
  |inl i=>obtain ⟨t,q⟩:=(show ∃t,u=Value.int i t from d);subst q;rfl
  |inr x=>obtain ⟨t,q⟩:=(show ∃t,u=Value.str x t from d);subst q;rfl
 have n:argsOk "dict.pop" ⟨.ref a::u::more,[]⟩:=by
  rcases g with q|⟨x,q⟩
  ·subst q;exact PySem.F.args_dict_pop_2 _ _
  ·subst q;exact PySem.F.args_dict_pop_3 _ _ _
 refine call_meetsIn PySem.F.slot_dict_pop j.typeIs PySem.F.entry_dict_pop n (meets_dict_pop_there (ax X.prog X.w) a (iT d) more g hp)
  ⟨vs,b,j,by rw[← rel.length];exact z,hw,λh' c hs=>h b _ ?_ f⟩
 have he:∃q,h'.get? a=some q:=let ⟨q,_,_,m,_⟩:=c;⟨q,m⟩;exact fW I (by rw[e];exact True.intro) hs he (gW (aas (nI kvs k) z) hd (rel.drop k) c)
theorem LB(I:Inv X pins σ H s)(e:Rd H a (.dK kvs))(h:∀t s',Inv X pins σ H s'->Q (.int kvs.length t) s'):wpAny (model X.prog X.w) A (call (.builtin "len") [.ref a]) Q E s:=by
 obtain⟨z,hd,vs,rel,b⟩:=iU I.hok e;refine call_len_dict hd b (by rw[← rel.length];rw[sizeLine_eq] at z;nofun) ?_;rw[← rel.length];exact h _ _ (I.tok _)
end
theorem mD(I:Inv X pins σ H s)(g:DGet H a y o):s.TypeIs (.ref a) "dict" := by
 rcases g with ⟨kvs,k,e,_,_⟩|⟨kvs,k,b,e,_,_,_⟩
 ·obtain⟨_,_,vs,_,c⟩:=iU I.hok e;exact c.typeIs
 ·obtain⟨_,_,xs,_,c⟩:=mz I.hok e;exact c.typeIs
def wH(td ty tv:TE):TS:=λD σ H=>tv σ H λv H1=>td σ H1 λx H2=>ty σ H2 λy c=>∃a b,x=.ref a/\MQ c a y v b/\D.nx σ b
section
variable  {o i value:Expr} {pos' tpos:Pos} 
theorem Cs(hu:X.A.units+1<cLine)(ho:PE X o td)(hi:PE X i ty)(m:PE X value tv)(hs:swapsWith value (some (.Subscript o i pos')) pos.line X.env=pure false) :
  PS X (.Assign [.Subscript o i pos'] value pos) (wH td ty tv):=by
 intro pins s σ H D I h;refine wpAny_Assign_Subscript (thn (m pins s σ H _ I h) λr c ⟨v,H1,t,f,l⟩=>thn (ho pins c σ H1 _ t l) λu b ⟨x,H2,q,e,k⟩=>thn (hi pins b σ H2 _ q k) λB A z=>?_) hs;obtain⟨y,C,p,d,a,w,ex,g,j⟩:=z;subst ex;obtain rfl:u=Value.ref a:=e;exact rR hu p g d f λz n=>⟨σ,w,n,j⟩
end
theorem nJ(h:Heap)(a:sysModules<h.objs.size):ObjOk P w H (h.push { cls:=.type "dict", data:=.dict #[] }) h.objs.size (.dK []):=
 ⟨aan _,beq_eq_false_iff_ne.mpr (Ne.symm (aak a)),[],.nil,Heap.DictOf.new h⟩
theorem wI(h:Heap)(a:sysModules<h.objs.size):ObjOk P w H (h.push { cls:=.type "dict", data:=.dict #[] }) h.objs.size (.dT []):=
 ⟨aan _,beq_eq_false_iff_ne.mpr (Ne.symm (aak a)),[],.nil,_,#[],0,Heap.get?_push_size _ rfl,⟨rfl,rfl,rfl⟩,rfl,rfl,abQ⟩
def rS:TE:=λ_ H Q=>∀p,H p=none->Q (.ref p) (upd H p (.dK []))
def rT:TE:=λ_ H Q=>∀p,H p=none->Q (.ref p) (upd H p (.dT []))
theorem wJ:PE X (.Dict [] [] pos) rS:=λpins s σ H Q I h=>
 wpAny_Dict_empty ⟨.ref s.heap.objs.size,_,I.laid (a:=s.heap.objs.size) (o:=.dK []) (t':=s.toks) (λ_ _ q=>Heap.get?_push_of_some _ q) (aac _) (nJ s.heap I.big),rfl,h _ (I.hok.fresh (aac _))⟩
theorem wK:PE X (.Dict [] [] pos) rT:=λpins s σ H Q I h=>
 wpAny_Dict_empty ⟨.ref s.heap.objs.size,_,I.laid (a:=s.heap.objs.size) (o:=.dT []) (t':=s.toks) (λ_ _ q=>Heap.get?_push_of_some _ q) (aac _) (wI s.heap I.big),rfl,h _ (I.hok.fresh (aac _))⟩
def nK:List (TE×TE)->St->Hp->(List (V×V)->Hp->Prop)->Prop
 |[],_,H,Q=>Q [] H
 |(tk,tv)::r,σ,H,Q=>tk σ H λx H1=>tv σ H1 λy H2=>nK r σ H2 λps a=>Q ((x,y)::ps) a
abbrev VV:List (V×V)->List (Value×Value)->Prop:=Paired λp q=>RelV p.1 q.1/\RelV p.2 q.2
def PPs(X:Cx)(pos:Pos)(keys:List (Option Expr))(values:List Expr)(trs:List (TE×TE)):Prop:=
 ∀(pins:List (Addr×Obj)) (s:Shared) (σ:St) (H:Hp) (Q:List (V×V)->Hp->Prop),Inv X pins σ H s->nK trs σ H Q ->
  wpAny (model X.prog X.w) X.A (evalPairs (pairTrees keys values X.env pos)) (λvs s'=>∃ps H',Inv X pins σ H' s'/\VV ps vs/\Q ps H') X.xe s
theorem Cu :PPs X pos [] [] []:=λpins s σ H Q I h=>pairTrees_nil_walk ⟨[],H,I,.nil,h⟩
theorem wL{k v:Expr}{ks:List (Option Expr)}{vs:List Expr}{tk:TE}(j:PE X k tk)(i:PE X v tv)(hr:PPs X pos ks vs trs) :
  PPs X pos (some k::ks) (v::vs) ((tk,tv)::trs):=λpins s σ H Q I h=>
 pairTrees_cons_walk (thn (j pins s σ H _ I h) λu b ⟨x,H1,n,d,g⟩=>thn (i pins b σ H1 _ n g) λq a ⟨y,H2,m,c,f⟩=>
  thn (hr pins a σ H2 _ m f) λp r ⟨ps,o,l,rel,e⟩=>⟨(x,y)::ps,o,l,.cons ⟨d,c⟩ rel,e⟩)
def cI(kvs more:List (Key×V)):List (Key×V):=more.foldl (λacc a=>gx acc a.1 a.2) kvs
theorem KV.merge:∀{more:List (Key×V)} {a:List (Key×Value)} {kvs:List (Key×V)} {vs:List (Key×Value)},KV more a->KV kvs vs->KV (cI kvs more) (merged vs a):=by
 intro more a kvs vs r;unfold KV at r
 induction r generalizing kvs vs with
 |nil=>intro q;exact q
 | @cons p q ps d h t c=>
  intro b
  have e:KV (gx kvs p.1 p.2) (stored vs q.1 q.2):=by
   have:=b.put p.1 h.2;rw[← h.1];exact this
  exact c e
theorem db:∀(more kvs:List (Key×V)),(cI kvs more).length<=kvs.length+more.length
 |[],kvs=>by show kvs.length<=kvs.length+0;nofun
 | p::r,kvs=>by
  have h1:=db r (gx kvs p.1 p.2);have h2:=eX kvs p.1 p.2;show (cI (gx kvs p.1 p.2) r).length<=_;rw[abI];nofun
theorem ji{P:Program}{w:World}:∀{kvs:List (Key×V)} {e:List (Value×Value)},VV (kvs.map λkv=>(kV kv.1,kv.2)) e->∃d,Carries (ax P w) e d/\KV kvs d
 |[],_,r=>by rw[ab4] at r;cases r;exact⟨[],True.intro,.nil⟩
 | p::kvs,_,r=>by
  rw[abC] at r
  cases r with
  | @cons a b as bs h t=>
   obtain⟨d,c,q⟩:=ji (P:=P) (w:=w) t;obtain⟨b1,b2⟩:=b;exact⟨(p.1,b2)::d,⟨iT h.1,rfl,c⟩,.cons ⟨rfl,h.2⟩ q⟩
def wM(trs:List (TE×TE)):TE:=λσ H Q=>∀p,H p=none->nK trs σ (upd H p (.dK [])) λps H2=>H2 p=some (.dK [])/\∃kvs:List (Key×V),ps=kvs.map (λa=>(kV a.1,a.2))/\kvs.length<=15/\Q (.ref p) (upd H2 p (.dK (cI [] kvs)))
theorem Cv{keys:List (Option Expr)}{values:List Expr}(h:PPs X pos keys values trs)(b:keys.all (·.isSome)=true)(hl:keys.length=values.length)(t:keys≠[])
  (f:keys.length<=15):PE X (.Dict keys values pos) (wM trs):=by
 intro pins s σ H Q I q;have r:=I.hok.fresh (aac s.heap.objs.size);have v:=I.laid (a:=s.heap.objs.size) (o:=.dK []) (h':=s.heap.push { cls:=.type "dict", data:=.dict #[] }) (t':=s.toks) (λ_ _ q=>Heap.get?_push_of_some _ q) (aac _) (nJ s.heap I.big);refine wpAny_Dict_walk (knd:=ax X.prog X.w) b hl t f (thn (h pins _ σ _ _ v (q _ r)) λx y A=>?_);obtain⟨ps,H2,g,rel,e,kvs,ep,lk,m⟩:=A;subst ep;obtain⟨j,c,k⟩:=ji (P:=X.prog) (w:=X.w) rel;obtain⟨z,hd,i,l,u⟩:=rP g.hok e;cases l;refine⟨j,c,u,λh' d hs=>⟨.ref s.heap.objs.size,_,?_,rfl,m⟩⟩
 have n:(cI [] kvs).length<=sizeLine:=by
  have h1:=db kvs [];rw[List.length_nil] at h1;rw[sizeLine_eq];nofun
 have he:∃q,h'.get? s.heap.objs.size=some q:=let ⟨q,_,_,p,_⟩:=d;⟨q,p⟩;exact fW g (by rw[e];exact True.intro) hs he (gW n hd (k.merge .nil) d)
structure M1(X:Cx)(o:Expr)(m:Str)(apos:Pos)(e:Expr)(cpos:Pos):Prop where
 base:attributeBase o m X.env (eval o X.env)=eval o X.env
 few:((backTo cpos (starEach [e] X.env)).all (λx=>!x.1)&&(backToKw cpos (keywordEach [] X.env)).all (λx=>x.1.isSome)
  && decide (([e]:List Expr).length+([]:List Keyword).length+(if ([]:List Keyword).isEmpty then 0 else 1)<30))=true
 line:(apos.endLine==cpos.line)=true
 trees:backTo cpos (starEach [e] X.env)=[(false,eval e X.env)]
def IsD(H:Hp)(a:Addr):Prop:=(∃kvs,Rd H a (.dK kvs))∨∃kvs,Rd H a (.dT kvs)
theorem AC(I:Inv X pins σ H s)(d:IsD H a) :
  s.TypeIs (.ref a) "dict" /\ (∀b,Value.ref a=.ref b->∃ob,s.heap.get? b=some ob/\ob.dict=none)/\(a==sysModules)=false:=by
 rcases d with ⟨kvs,e⟩|⟨kvs,e⟩
 ·obtain⟨_,hd,vs,_,c⟩:=iU I.hok e;refine⟨c.typeIs,λb q=>?_,hd⟩;cases q;obtain⟨ob,_,_,h1,h2,_⟩:=c;exact⟨ob,h1,h2.2.1⟩
 ·obtain⟨_,hd,xs,_,c⟩:=mz I.hok e;refine⟨c.typeIs,λb q=>?_,hd⟩;cases q;obtain⟨ob,_,_,h1,h2,_⟩:=c;exact⟨ob,h1,h2.2.1⟩
section
variable        {r:Value}   
theorem Hb(hu:A.units+1<cLine)(I:Inv X pins σ H s)(g:DGet H a y o)(i:RelV y u)(h:∀f s',Inv X pins σ H s'->RelV (o.getD .non) f->Q f s') :
  wpAny (model X.prog X.w) A (call (.builtin "dict.get") [.ref a,u]) Q E s:=by
 rcases g with ⟨kvs,k,e,d,l⟩|⟨kvs,k,b,e,d,j,l⟩
 ·subst d;obtain⟨z,hd,vs,rel,c⟩:=iU I.hok e;refine call_meetsIn PySem.F.slot_dict_get c.typeIs PySem.F.entry_dict_get (PySem.F.args_dict_get_2 _ _) (meets_dict_get (ax X.prog X.w) a (iT i) hd) ⟨_,c.mapOf,h _ _ (I.tok _) ?_⟩;rw[l];exact(rel.val k).getD rfl
 ·subst d;cases (show u=Value.ref b from i);obtain⟨z,hd,xs,rel,c⟩:=mz I.hok e;refine call_meetsIn PySem.F.slot_dict_get c.typeIs PySem.F.entry_dict_get (PySem.F.args_dict_get_2 _ _) (meetsH_dict_get (tupleKind (ax X.prog X.w)) a b hd) ⟨tupleKind_room_in1 hu,k,xs,jh I.hok j,c,h _ _ (I.tok _) ?_⟩;rw[l];exact(rel.val k).getD rfl
end
def rV(td ty:TE):TE:=λσ H Q=>td σ H λx H1=>∃a,x=.ref a/\IsD H1 a/\ty σ H1 λy H2=>∃o,DGet H2 a y o/\Q (o.getD .non) H2
def nL(td ty:TE):TE:=λσ H Q=>td σ H λx H1=>∃a,x=.ref a/\IsD H1 a/\ty σ H1 λy H2=>∃kvs k v,H2 a=some (.dK kvs)/\y=kV k/\gw kvs k=some v/\Q v (upd H2 a (.dK (iS kvs k)))
section
variable  {o f:Expr}  {tx:TE}
theorem wN(hu:X.A.units+1<cLine)(ho:PE X o td)(he:PE X e ty)(m:M1 X o "get" apos e cpos):PE X (.Call (.Attribute o "get" apos) [e] [] cpos) (rV td ty):=by
 intro pins s σ H Q I h;refine wpAny_Call_method m.base m.few m.line PySem.F.plainAttrs_dict PySem.F.slot_dict_get PySem.F.type_dict_get (thn (ho pins s σ H _ I h) λu j z=>?_);obtain⟨x,H1,c,l,a,ex,d,p⟩:=z;subst ex;obtain rfl:u=Value.ref a:=l;obtain⟨i,f,_⟩:=AC c d;refine⟨i,f,?_⟩;rw[m.trees];refine abl rfl (Calls.evalArgs_plain (Calls.spliced_cons (thn (he pins j σ H1 _ c p) λz w ⟨y,H2,r,k,ov,g,n⟩=>Calls.spliced_nil ?_)));exact Hb hu r g k λt v q b=>⟨_,H2,q,b,n⟩
theorem wO(ho:PE X o td)(he:PE X e ty)(m:M1 X o "pop" apos e cpos):PE X (.Call (.Attribute o "pop" apos) [e] [] cpos) (nL td ty):=by
 intro pins s σ H Q I h;refine wpAny_Call_method m.base m.few m.line PySem.F.plainAttrs_dict PySem.F.slot_dict_pop PySem.F.type_dict_pop (thn (ho pins s σ H _ I h) λu i A=>?_);obtain⟨x,H1,c,n,a,ex,d,q⟩:=A;subst ex;obtain rfl:u=Value.ref a:=n;obtain⟨g,f,_⟩:=AC c d;refine⟨g,f,?_⟩;rw[m.trees];refine abl rfl (Calls.evalArgs_plain (Calls.spliced_cons (thn (he pins i σ H1 _ c q) λD C ⟨y,H2,z,j,kvs,k,v,t,r,l,p⟩=>Calls.spliced_nil ?_)));subst r;exact LA z t j l (.inl rfl) λA B w b=>⟨v,_,w,b,p⟩
end
section
variable       {kvs:List (Key×V)}  
theorem wQ(I:Inv X pins σ H s)(e:Rd H a (.dK kvs))(h:∀p s',H p=none->Inv X pins σ (upd H p (.dK kvs)) s'->Q (.ref p) s'):wpAny (model X.prog X.w) A (call (.type "dict") [.ref a]) Q E s:=by
 obtain⟨z,hd,vs,rel,f⟩:=iU I.hok e;refine kt_call_dict hd f (by rw[← rel.length];exact z) λh' c hs=>?_;refine h _ _ (I.hok.fresh (aac _)) (I.laid (a:=s.heap.objs.size) (o:=.dK kvs) (t':=s.toks) (λb q d=>?_) (aac _) (gW z (beq_eq_false_iff_ne.mpr (Ne.symm (aak I.big))) rel c));exact(hs.2 b (aak (aag d))).trans (Heap.get?_push_of_some _ d)
end
end L2
namespace Att
open PySem PySem.W PySem.Calls PyProof.Rows
variable{P:Params}{h:Heap}{n:Nat}
theorem gX :∀(ns:List Int) (vs:List Value),WellAll P h vs (ns.map WData.int)->IntsAre vs ns:=by
 intro ns
 induction ns with
 | nil=>
  intro vs w;rw[ab4] at w;cases w;exact .nil
 | cons n ns c=>
  intro vs w;rw[abC] at w
  cases w with
  | cons a b=>
   cases a;exact .cons _ _ (c _ b)
theorem rW{l:OpenLaw}(t:l.most=some n){args:List WData}{b:List Value}
  (c:l.row.toRowW.claim.pre args=true) (j:WellAll P h b args) :
  ∃a vs ns,b=[Value.ref a]/\args=[WData.list (ns.map WData.int)]/\h.get? a=some { cls:=.type "list", data:=.seq vs.toArray }/\IntsAre vs ns/\ns.length<=n:=by
 have k:WShape.hasAll [] args [.list .int]=true:=(pre_splitW c).1;have m:l.pre.holds [] { args:=args }=true:=(pre_splitW c).2;obtain⟨d,r,rfl,h1,h2⟩:=hasAllW_cons k;obtain rfl:=hasAllW_nil h2;obtain⟨xs,rfl,u⟩:=hasW_list h1;obtain⟨ns,rfl⟩:=items_int u
 have e:ns.length<=n:=by
  unfold OpenLaw.pre at m
  have i:(WTm.not (.lt (.lit (.int (n:Int))) (.len (.arg 0)))).holds [] { args:=[.list (ns.map .int)] }=true:=by
   have i:=(holds_andW m).1;rw[t] at i;exact i
  have g:=condW_of i (w_not (w_lt w_lit (w_len_list (w_arg rfl))));rw[abz] at g;refine Nat.le_of_not_lt λq=>?_;have s:(n:Int)<((ns.length:Nat):Int):=by nofun
  first
   |(rw[decide_eq_true s] at g;exact absurd g (by decide))
   |(simp at g;nofun)
 cases j with
 | cons p o=>
  cases o
  cases p with
  |list ho f=>exact ⟨_,_,ns,rfl,rfl,ho,gX ns _ f,e⟩
theorem rX(l:OpenLaw)(args:List WData):l.row.toRowW.claim.post args (.bool true) args=true:=
 postW_of (r:=l.row.toRowW) (X:=(true==true))
  (show WShape.has [] (.bool true) .bool=true by first|rfl|decide|simp[WShape.has,WShape.arms,WShape.armsAll])
  (show (WTm.eq .res (.lit (.bool true))).value [] { args:=args,res:=some (.bool true),after:=args }=some (.bool (true==true)) from w_eq_bool (w_res rfl) w_lit) rfl
theorem attach_call{l:OpenLaw}{q:Program}{loose:List Str}{XP:(Str->Option Value)->Heap->Prop}{y:World->Heap->Prop}{d:DefRec}
  (B:l.most=some n) (s:d.params.defaults=[])
  (call:∀(w:World) (s₀ b:Shared) (mg k:Str->Option Value) (fa:Addr) (o:Obj) (pm j doc:Value) (a:Addr) (vs:List Value) (ns:List Int),
   Ground q loose [] XP w s₀ mg k b.heap->y w b.heap ->
   b.heap.get? fa=some o->o.data=.func (docDef d.name d.params d.body d.scope pm j doc)->b.heap.CodeRec j d.name->mg d.name=some (.ref fa) ->
   b.heap.get? a=some { cls:=.type "list", data:=.seq vs.toArray }->IntsAre vs ns->ns.length<=n->b.gens=#[] ->
   codeAny (model l.prog w) callerA (.call (.ref fa) ⟨[.ref a],[]⟩) (λr s'=>r=.ok (.ret (.bool true))/\OldK b.heap s'.heap/\s'.os=b.os/\AllBare s'.gens) b) :
  WalkO q loose XP y l.row.toRowW d [] (λf vs=>PySem.call f vs):=by
 intro w s₀ b mg k G Y fa o pm j doc I kV ho hd t x p E args u as e v z m D;obtain rfl:I=.none:=Dflts.none x s;obtain rfl:kV=.none:=Dflts.noKw x;obtain⟨a,vs,ns,rfl,rfl,g,c,i⟩:=rW B e m;refine enter_call (codeAny_mono (call w s₀ b mg k fa o pm j doc a vs ns G Y ho (fd_plain hd) t p g c i E) λr s' A=>?_);obtain⟨rfl,h2,H,F⟩:=A;exact⟨.inl ⟨.bool true,.bool true,[],rfl,λ_=>rfl,.bool true,rX l _,λ_=>⟨List.Pairwise.nil,λ_ C=>(nomatch C)⟩⟩,h2,H,F⟩
section
variable {prog:Program} {w:World} {A:Around} {E:Value->Shared->Prop} {s:Shared} {K:Frag}
end
end Att
namespace L2
open PySem PySem.Spec PyProof.Rows
variable{P:Program}{w:World}{mg:Str->Option Value}{k:Nat}{a f p:Addr}{fd:FuncData}{x qual y:Str}{sp:Sp}{X:Cx}{st:Stmt}{ps T F:List Str}{A:Around}{H H':Hp}{xs:List V}{E:Value->Shared->Prop}{s:Shared}{elt iter tg:Expr}{ifs:List Expr}{scope:Scope}{pos:Pos}{env:Env}{pins:List (Addr×Obj)}{σ:St}{ixs:List Nat}{v:V}{wi:TI}{g:TG}{tc:TT}{te:TE}{Q:VK}
theorem kS:∀{vs:List Value} {ns:List Int},IntsAre vs ns->Vals (ns.map V.int) vs
 |_,_,.nil=>.nil
 |_,_,.cons n t h=>.cons ⟨t,rfl⟩ (kS h)
def LC(H:Hp):Prop:=∀b,H b=none∨∃o xs,H b=some (.frz o (.lst xs))
theorem wR{K:Frag}{N:Str->Option Value}{CX:CXT}{fa:Addr}{c:Shared}{vs:List Value}{ns:List Int}
  (Z:K.In c.heap) (E:c.heap.Ns mainGlobals mg) (g:c.heap.Ns builtinsNs N) (R:∀x:Str,x ≠ "__name__" -> N x=bootBuiltins x) (G:c.heap.NoLimit) (hg:c.gens=#[])
  (J:c.heap.get? a=some { cls:=.type "list", data:=.seq vs.toArray }) (hi:IntsAre vs ns) (hl:ns.length<=sizeLine) (hr:Room k callerA)
  (F:∀base:Heap,K.In base->base.Ns mainGlobals mg->FnOk P w K mg base CX k fa fd [x] sp) (l:∀(s:Shared) (u:Value),BindsTo s fd ⟨[u],[]⟩ [(x,u)])
  (O:∀H:Hp,LC H->SqL K H a (ns.map V.int)->sp [.ref a] H (λv _=>v=.bl true) λ_ _ _=>False)
  (S:∀H e s',CX [] H c (λ_ _ _=>False) e s'->False) :
  codeAny (model P w) callerA (.call (.ref fa) ⟨[.ref a],[]⟩) (λr s'=>r=.ok (.ret (.bool true))/\OldK c.heap s'.heap/\s'.os=c.os/\AllBare s'.gens) c:=by
 have U:=kS hi;have C:=hi.length
 -- from an abstract heap in L nothing but A i may be y
 have core:∀H:Hp,LC H->SqL K H a (ns.map V.int)->HOk P w H c.heap->(∀b,H b≠none->b=a)->(H a≠none->K.lookup a=none) ->
   codeAny (model P w) callerA (.call (.ref fa) ⟨[.ref a],[]⟩) (λr s'=>r=.ok (.ret (.bool true))/\OldK c.heap s'.heap/\s'.os=c.os/\AllBare s'.gens) c:=by
  intro H W hS hok X hK;have f:∀{b:Addr} {o:Obj},c.heap.get? b=some o->H b=none->(wg c.heap H).get? b=some o:=λe n=>wj e n
  have M:∀{b:Addr} {o:Obj} {es:Array DictEntry} {ep:Nat},c.heap.get? b=some o->o.data=.dict es ep->H b=none:=fun {b o es ep} e d=>by
   cases q:H b with
   |none=>rfl
   | some u=>
    have T:b=a:=X b (by rw[q];simp);subst T;rw[J] at e;cases e;have d':Data.seq vs.toArray _=Data.dict es ep:=d;cases d'
  have j:∀{b:Addr} {m:Str->Option Value},c.heap.Ns b m->(wg c.heap H).Ns b m:=fun {b m} ⟨o,es,ep,e,d,r⟩=>⟨o,es,ep,f e (M e d),d,r⟩
  have I:K.In (wg c.heap H):=λb o e=>f (Z b o e) (by
   cases q:H b with
   |none=>rfl
   | some u=>
    have T:b=a:=X b (by rw[q];simp);subst T;rw[hK (by rw[q];simp)] at e;cases e)
  have hM:Mod K mg (wg c.heap H):=⟨I,j E,⟨N,j g,R⟩,let ⟨mc,h1,h2⟩:=G;⟨mc,j h1,h2⟩⟩;have e0:Env0 P w K mg (wg c.heap H) callerA [] c H:=⟨rfl,hM,λb o e=>By e,Nat.le_of_eq (qY _ _),trivial,λb g=>absurd (show b∈([]:List Addr) from g) (by simp),hok,.of_eq hg⟩;refine codeAny_mono ((F _ I (j E)).run callerA [] c H ⟨[.ref a],[]⟩ [.ref a] [.ref a] _ _ hr e0 (l c (.ref a)) (.cons rfl .nil) (O H W hS)) λr s' h=>?_
  cases r with
  |error e=>exact (S H e s' h).elim
  | ok fl=>
   cases fl with
   |next=>exact False.elim h
   |brk=>exact False.elim h
   |cont=>exact False.elim h
   | ret u=>
    obtain⟨v,H',os,bare,un,D,r',q⟩:=h;have q':v=.bl true:=q;subst q';obtain rfl:u=Value.bool true:=r';refine⟨rfl,OldK.of_keep λb o e=>?_,os,bare⟩
    cases q:H b with
    |none=>exact un.keep b o e q (by intro z;exact absurd (show b∈([]:List Addr) from z) (by simp)) (by simp)
    | some u=>
     rcases W b with z|⟨ob,xs,z⟩
     ·rw[q] at z;cases z
     ·have z2:=un.frzs b ob _ z;obtain⟨Y,_⟩:=hok b _ z;obtain⟨e2,_⟩:=D b _ z2;rw[e] at Y;cases Y;exact e2
 cases Q:K.lookup a with
 | some o=>
  -- A i is one of A p own B
  have e:=Z a o Q;rw[J] at e;cases e;refine core (λ_=>none) (λ_=>.inl rfl) (.inr ⟨_,vs.toArray,_,Q,rfl,rfl,rfl,by rw[abK,C];exact hl,(by exists U)⟩) (λb u z=>by have t:(none:Option HO)=some u:=z;cases t) (λb z=>absurd rfl z) λz=>absurd rfl z
 | none=>
  refine core (λb=>if b=a then some (.frz { cls:=.type "list", data:=.seq vs.toArray } (.lst (ns.map V.int))) else none) (λb=>?_) (.inl (.inr ⟨{ cls:=.type "list", data:=.seq vs.toArray },if_pos rfl⟩)) (λb u z=>?_) (λb z=>?_) λ_=>Q
  ·by_cases g:b=a
   ·exact .inr ⟨_,_,if_pos g⟩
   ·exact .inl (if_neg g)
  ·by_cases g:b=a
   ·have t:=(if_pos g).symm.trans z;cases t;subst g;exact⟨J,by rw[abz];exact hl,vs,_,U,J⟩
   ·have t:=(if_neg g).symm.trans z;cases t
  ·by_cases g:b=a
   ·exact g
   ·exact absurd (if_neg g) z
theorem walk_of{l:PySem.W.OpenLaw}{n:Nat}{q:Program}{loose:List Str}{XP:(Str->Option Value)->Heap->Prop}{y:World->Heap->Prop}{d:DefRec}{K:Params->Frag}{CX:World->CXT}{sp:World->Sp}
  (A:l.most=some n) (m:n<=sizeLine) (r:d.params.defaults=[]) (hr:Room k callerA)
  (E:∀(w:World) (h:Heap),y w h->(K w.params).In h)
  (F:∀(w:World) (mg:Str->Option Value) (fa:Addr) (h:Heap),(K w.params).In h->h.Ns mainGlobals mg->mg d.name=some (.ref fa) ->
   ∃fd:FuncData,(∀(s:Shared) (u:Value),BindsTo s fd ⟨[u],[]⟩ [(x,u)]) /\
    ∀base:Heap,(K w.params).In base->base.Ns mainGlobals mg->FnOk l.prog w (K w.params) mg base (CX w) k fa fd [x] (sp w))
  (j:∀(w:World) (H:Hp) (a:Addr) (ns:List Int),ns.length<=n->LC H->SqL (K w.params) H a (ns.map V.int)->sp w [.ref a] H (λv _=>v=.bl true) λ_ _ _=>False)
  (t:∀(w:World) (H:Hp) (s:Shared) (e:Value) (s':Shared),CX w [] H s (λ_ _ _=>False) e s'->False) :
  PySem.W.WalkO q loose XP y l.row.toRowW d [] (λf vs=>PySem.call f vs):=by
 refine Att.attach_call A r λw s₀ g mg M fa o pm N doc a vs ns G Y ho hd C p i c b B=>?_;have z:=E w _ Y;obtain⟨fd,D,L⟩:=F w mg fa _ z G.T.g p;exact wR z G.T.g G.T.b G.T.builtins G.T.nolimit B i c (aas b m) hr L D (λH J I=>j w H a ns b J I) λH e s'=>t w H g e s'
def cz(s:Stmt):Arguments:=match s with
 |.FunctionDef _ a _ _ _ _ _ _ _ _=>a
 |_=>{ posonlyargs:=[],args:=[],vararg:=none,kwonlyargs:=[],kw_defaults:=[],kwarg:=none,defaults:=[] }
def bw(s:Stmt):List Stmt:=match s with
 |.FunctionDef _ _ b _ _ _ _ _ _ _=>b
 |_=>[]
def am(s:Stmt):Scope:=match s with
 |.FunctionDef _ _ _ _ _ _ a _ _ _=>a
 |_=>{ kind:=.function,names:=[],isGenerator:=false,isCoroutine:=false }
abbrev CX0:CXT:=λ_ _ _ _ _ _=>False
abbrev E0:XK:=λ_ _ _=>False
theorem wU :gQ CX0 X E0:=λ_ _ _ _ _ _ _ h=>h.elim
structure Fun(K:Frag)(x qual:Str)(st:Stmt)(f:Addr)(fd:FuncData):Prop where
 ex:∃(oc:Value) (od:Option Addr) (kV doc pm:Value) (an:Option Addr) (cdv ct:Value) (osl:Array (Option Value)),
  fd=PySem.W.fnOf x qual (cz st) (bw st) (am st) .none kV doc pm an cdv ct/\K.lookup f=some ⟨oc,od,.func fd,osl⟩/\PySem.W.codeIn K cdv qual=true
 kp:PySem.W.keepIn K (.ref f)=true
section
variable   {K:Frag}  {base:Heap}
theorem Fun.ok{N:List Str}(F:Fun K x qual st f fd)(S:FnScope N ps (am st))(len:∀vs H Q E,sp vs H Q E->vs.length=ps.length)
  (a:∀(cdv:Value) (A:Around) (outer:List Env) (s:Shared) (H:Hp) (vs:List V) (Q:VK) (E:XK),Room k (A.deeper (envOfC qual (am st) s.heap.objs.size f cdv))->sp vs H Q E ->
   ∃t,PSs (rJ CX0 P w K mg base N qual (am st) f cdv A outer s H E).nox (bw st) t/\t { nx:=λ_ H'=>Q .non H',rt:=Q } (start N vs) H):FnOk P w K mg base CX0 (k+1) f fd ps sp:=by
 obtain⟨oc,od,kV,doc,pm,an,cdv,ct,osl,rfl,lk,c⟩:=F.ex;refine Lw lk c S len λA outer s H vs Q E hr b=>?_;obtain⟨t,h,q⟩:=a cdv A outer s H vs Q E hr b;exact⟨t,h.nox,q⟩
theorem Fun.binds(F:Fun K x qual st f fd)
  (h:∀(kV doc pm:Value) (an:Option Addr) (cdv ct:Value) (us:List Value),us.length=ps.length->bindArgs (PySem.W.fnOf x qual (cz st) (bw st) (am st) .none kV doc pm an cdv ct) ⟨us,[]⟩=pure (ps.zip us)):Binds K fd ps []:=by
 obtain⟨oc,od,kV,doc,pm,an,cdv,ct,osl,rfl,lk,a⟩:=F.ex;exact .all (h kV doc pm an cdv ct)
theorem AD{oc:Value}{od an:Option Addr}{osl:Array (Option Value)}{kV doc pm cdv ct:Value}(l:K.lookup f=some ⟨oc,od,.func (PySem.W.fnOf x qual (cz st) (bw st) (am st) .none kV doc pm an cdv ct),osl⟩)
  (c:PySem.W.codeIn K cdv qual=true) (k:PySem.W.keepIn K (.ref f)=true):Fun K x qual st f (PySem.W.fnOf x qual (cz st) (bw st) (am st) .none kV doc pm an cdv ct):=⟨⟨oc,od,kV,doc,pm,an,cdv,ct,osl,rfl,l,c⟩,k⟩
end
theorem LD(hr:Room k A):A.units+1<cLine:=Nat.lt_of_le_of_lt (Nat.add_le_add_left (by decide:1<=64) _) hr.units
def Same(H H':Hp):Prop:=∀b o,H b=some o->H' b=some o
theorem Same.refl(H:Hp):Same H H:=λ_ _ h=>h
theorem Same.trans{H1 H2:Hp}(a:Same H H1)(b:Same H1 H2):Same H H2:=λc o h=>b c o (a c o h)
theorem Same.free(e:Same H H'){l:Addr}(h:H' l=Option.none):H l=Option.none:=by
 cases q:H l with
 |none=>rfl
 | some o=>
  rw[e l o q] at h;cases h
theorem Same.seq{K:Frag}(e:Same H H')(h:SqL K H a xs):SqL K H' a xs:=by
 rcases h with (h|⟨o,h⟩)|h
 ·exact .inl (.inl (e _ _ h))
 ·exact .inl (.inr ⟨o,e _ _ h⟩)
 ·exact .inr h
section
variable {κ:Type} [DecidableEq κ]
end
section
variable {prog:Program}    {R:Result->Shared->Prop} 
theorem kT{target:Expr}{it acc:Value}(I:Nat->Shared->Prop)
  (l:∀n s,I n s->wpAny (model prog w) A (pyNext it) (λr d=>match r with
   |none=>R (.ok .next) d
   | some v=>wpAny (model prog w) A (letOwnedTupleGo target it v) (λ_ b=>wpAny (model prog w) A (assign target env v) (λ_ g=>
     wpAny (model prog w) A (forIn ifs true λc r=>if r=true then do let ok ← isTrue c env (eval c env);pure (ForInStep.yield ok) else pure (ForInStep.yield r)) (λok a=>
      if ok=true then wpAny (model prog w) A (eval elt env) (λx f=>
       wpAny (model prog w) A (call (.builtin "list.append") [acc,x]) (λ_ e=>∃m,m<n/\I m e) (λ_ _=>False) f) (λ_ _=>False) a
      else ∃m,m<n/\I m a) (λ_ _=>False) g) (λ_ _=>False) b) (λ_ _=>False) d) (λ_ _=>False) s)
  (n:Nat) (h:I n s) :
  codeAny (model prog w) A (.compLoop (.ListComp elt [⟨target,iter,ifs,0⟩] scope pos) 0 it acc env) R s:=by
 refine codeAny_loop rfl I (λn s t=>?_) n h;show wpAny _ A ((compTurn (.ListComp elt [⟨target,iter,ifs,0⟩] scope pos) 0 it acc env).onRaise (λx=>do noteFrame x env;theTreesLotGoes x)) _ _ s;refine wpAny_noted ?_;rw[compTurn_list];refine aaa (wpAny_standAt (aaa (abj (l n s t) (λr d j=>?_) λ_ _ h'=>h'.elim)))
 cases r with
 |none=>exact aaf j
 | some v=>
  refine aaa (abj j (λ_ b k=>?_) λ_ _ h'=>h'.elim);refine aaa (abj k (λ_ g q=>aaa (abj q (λok a i=>?_) λ_ _ h'=>h'.elim)) λ_ _ h'=>h'.elim)
  cases ok with
  |false=>exact aaf ⟨rfl,i⟩
  | true=>
   exact aaa (aaa (abj i (λx f p=>aaa (abj p (λ_ e o=>aaf (aaf ⟨rfl,o⟩)) λ_ _ h'=>h'.elim)) λ_ _ h'=>h'.elim))
end
def Gj(X:Cx)(ifs:List Expr)(t:TT):Prop:=
 ∀(pins:List (Addr×Obj)) (s:Shared) (σ:St) (H:Hp) (Q:Bool->Hp->Prop),Inv X pins σ H s->t σ H Q ->
  wpAny (model X.prog X.w) X.A (forIn ifs true λc r=>if r=true then do let ok ← isTrue c X.env (eval c X.env);pure (ForInStep.yield ok) else pure (ForInStep.yield r)) (TP X pins σ Q) X.xe s
def LF:TT:=λ_ H Q=>Q true H
theorem Cw :Gj X [] LF:=λ_ _ _ H _ I h=>wpAny_tests_nil ⟨H,I,h⟩
theorem Cy{c:Expr}{t:TT}(h:PT X c t):Gj X [c] t:=λpins s σ H Q I q=>wpAny_tests_one (h pins s σ H Q I q)
def bt(X:Cx)(N:List Str)(scope:Scope)(cl:List (Str×Addr))(C:Addr)(s:Shared)(H:Hp)(fp:List Addr):Cx:=
 { X with N:=N,s₀:=s,H₀:=H,env:=compEnvC scope cl C X.env,outer:=X.stack,ex:=fp,fn:=λ_=>false,pn:=[],xe:=λ_ _=>False }
def kU(σ:St)(ixs:List Nat):St:=ixs.map λi=>(σ[i]?).getD none
structure CompScope(X:Cx)(T F:List Str)(ixs:List Nat)(scope:Scope):Prop where
 kind:scope.kind=.function
 nocell:∀y∈scope.names,y.2≠.cell
 names:∀y∈scope.names,y.2=.local->scope.names.lookup y.1=some .local
 cap:∀(j:Nat) (i:Nat) (x:Str),ixs[j]?=some i->F[j]?=some x->X.N[i]?=some x/\scope.names.lookup x=some .free
 len:ixs.length=F.length
 out:∀y∈scope.names,y.2=.free->X.env.scope.names.lookup y.1=some .cell∨X.env.scope.names.lookup y.1=some .free
def aB(env:Env):List (Str×NameKind)->List (Str×Addr)->List (Str×Addr)
 |[],a=>a
 |(n,k)::r,a=>if k==.free then aB env r ((n,(env.cells.lookup n).getD 0)::a) else aB env r a
theorem jN(h:∀y∈scope.names,y.2=.free->∃c,env.cells.lookup y.1=some c):closureFor scope env=pure (aB env scope.names []):=by
 unfold closureFor
 have gen:∀(l:List (Str×NameKind)) (a:List (Str×Addr)),(∀y∈l,y.2=.free->∃c,env.cells.lookup y.1=some c) ->
   (do
    let mut a:=a
    for (name,kind) in l do
     if kind==.free then a:=(name,← cellOf env name)::a
    return a:Sem (List (Str×Addr)))=pure (aB env l a):=by
  intro l
  induction l with
  |nil=>intro a _;rfl
  | cons p r g=>
   intro a hl;obtain⟨n,k⟩:=p;have hr:=λy i=>hl y (aae _ i);by_cases d:k=.free
   ·obtain⟨c,f⟩:=hl (n,k) aab d;have f:env.cells.lookup n=some c:=f;have e:=g ((n,(env.cells.lookup n).getD 0)::a) hr;subst d;simp only[aB,List.forIn_cons,f,cellOf] at e ⊢;simpa using e
   ·have e:=g a hr;have b:(k==NameKind.free)=false:=(by exists d);simp only[aB,List.forIn_cons,b,if_neg Bool.false_ne_true] at e ⊢;simpa using e
 exact gen scope.names [] h
theorem dc{env:Env}:∀{l:List (Str×NameKind)} {cs:List (Str×Addr)} {x:Str} {c:Addr},(∀y∈l,y.2=.free->∃c,env.cells.lookup y.1=some c)->(∀x c,cs.lookup x=some c->env.cells.lookup x=some c) ->
  (aB env l cs).lookup x=some c->env.cells.lookup x=some c
 |[],cs,x,c,_,a,h=>a x c h
 | (n,k)::r,cs,x,c,hl,a,h=>by
  have hr:=λy g=>hl y (aae _ g);unfold aB at h;split at h
  ·rename_i i;have b:k=.free:=(by exists i);obtain⟨c0,d⟩:=hl (n,k) aab b;have d:env.cells.lookup n=some c0:=d;refine dc hr (λf j h'=>?_) h;rw[aaB] at h';split at h'
   ·rename_i e;have e:f=n:=(by exists e);subst e;rw[d] at h' ⊢;simpa using h'
   ·exact a f j h'
  ·exact dc hr a h
theorem eG{env:Env}:∀{l:List (Str×NameKind)} {cs:List (Str×Addr)} {x:Str},((x,NameKind.free)∈l∨∃c,cs.lookup x=some c)->∃c,(aB env l cs).lookup x=some c
 | [],cs,x,h=>by
  rcases h with h|h
  ·cases h
  ·exact h
 | (n,k)::r,cs,x,h=>by
  unfold aB;split
  ·rename_i a;have b:k=.free:=(by exists a);refine eG ?_;rcases h with h|h
   ·rcases abH.mp h with e|h
    ·have e:x=n:=by injection e
     subst e;exact .inr ⟨(env.cells.lookup x).getD 0,by rw[aaB];simp⟩
    ·exact .inl h
   ·obtain⟨c,h⟩:=h;refine .inr ?_;rw[aaB];split
    ·exact⟨_,rfl⟩
    ·exact⟨c,h⟩
  ·rename_i a;refine eG ?_;rcases h with h|h
   ·rcases abH.mp h with e|h
    ·have e:NameKind.free=k:=by injection e
     subst e;simp at a
    ·exact .inl h
   ·exact .inr h
theorem de{env:Env}:∀{names:List (Str×NameKind)} {x:Str} {q:NameKind},
  (names.map λ(n,k)=>if (k==NameKind.free&&env.scope.kind==.function&&env.kindOf n==some .cell) then (n,NameKind.cell) else (n,k)).lookup x=some q ->
  names.lookup x=some q∨(q=.cell/\names.lookup x=some .free)
 |[],_,_,h=>by simp at h
 | (n,k)::r,x,q,h=>by
  have c:=@de env r x q;rw[abC] at h;dsimp only at h;by_cases b:(k==NameKind.free&&env.scope.kind==.function&&env.kindOf n==some .cell)=true
  ·rw[if_pos b,aaB] at h;rw[aaB]
   cases a:x==n with
   | true=>
    rw[a] at h
    have d:k=.free:=by
     simp only[Bool.and_eq_true] at b;simpa using b.1.1
    exact .inr ⟨(aai h).symm,by rw[d]⟩
   |false=>rw[a] at h;exact c h
  ·rw[if_neg b,aaB] at h;rw[aaB]
   cases a:x==n with
   |true=>rw[a] at h;exact .inl h
   |false=>rw[a] at h;exact c h
theorem gm{env:Env}:∀{names:List (Str×NameKind)} {x:Str},names.lookup x=some .free ->
  (names.map λ(n,k)=>if (k==NameKind.free&&env.scope.kind==.function&&env.kindOf n==some .cell) then (n,NameKind.cell) else (n,k)).lookup x=some .cell ∨
  (names.map λ(n,k)=>if (k==NameKind.free&&env.scope.kind==.function&&env.kindOf n==some .cell) then (n,NameKind.cell) else (n,k)).lookup x=some .free
 |[],_,h=>by simp at h
 | (n,k)::r,x,h=>by
  have b:=@gm env r x;rw[abC];dsimp only;rw[aaB] at h;by_cases c:(k==NameKind.free&&env.scope.kind==.function&&env.kindOf n==some .cell)=true
  ·rw[if_pos c,aaB]
   cases a:x==n with
   |true=>exact .inl rfl
   |false=>rw[a] at h;exact b h
  ·rw[if_neg c,aaB]
   cases a:x==n with
   |true=>rw[a] at h;exact .inr h
   |false=>rw[a] at h;exact b h
def gy(no:Nat)(ixs:List Nat)(wi:TI)(g:TG)(tc:TT)(te:TE):TE:=λσ H Q=>wi σ H λJ H1=>∀D,H1 D=none->∃W:Nat->Nat->List V->St->Hp->Prop,
 (∃m,W 0 m [] (List.replicate no none++kU σ ixs) (upd H1 D (.lst [])))/\∀i m acc e H',W i m acc e H' ->
  (J.stop i H'/\Q (.ref D) H') ∨
  (J.go i H'/\∃N:List V->St->Hp->Prop,(∀c d H2,N c d H2->∃f,f<m/\W (i+1) f c d H2) /\
   ∀x H2,J.yld i H' x H2->g x e H2 λa l=>tc a l λb k=>if b=true then te a k λy j=>j D=some (.lst acc)/\acc.length<sizeLine/\N (acc++[y]) a (upd j D (.lst (acc++[y]))) else N acc a k)
section
variable         {fp:List Addr}
theorem Cz(I:Inv X pins σ H s)(S:CompScope X T F ixs scope)(a:∀b∈fp,rf X pins H b)(j:∀b∈fp,∃o,s.heap.get? b=some o) :
  (bt X (T++F) scope (aB X.env scope.names []) s.heap.objs.size s H fp).Ok:=by
 have i:∀y∈scope.names,y.2=.free->∃c,X.env.cells.lookup y.1=some c:=λy m k=>by
  rcases S.out y m k with e|e
  ·exact I.ok.has _ (.inl e)
  ·exact I.ok.has _ (.inr e)
 have f:∀x c,(aB X.env scope.names []).lookup x=some c->X.env.cells.lookup x=some c:=λx c h=>dc i (λ_ _ z=>by simp at z) h;refine⟨I.ok.mod,S.kind,I.ok.glob,I.ok.blt,aac _,λx y c h1 h2=>I.ok.inj x y c (f x c h1) (f y c h2),λx d=>?_,λ_ _ z=>(nomatch z),I.ok.hd,I.ok.frames,.inl rfl,λb g=>⟨?_,λx c e=>?_⟩,I.bs,aas I.ok.bsz I.sz,λb o e g=>?_,λb g l=>?_,I.stack,I.stkFree⟩
 ·have d:(relabel scope X.env).names.lookup x=some .cell∨(relabel scope X.env).names.lookup x=some .free:=d
  have k:scope.names.lookup x=some .free:=by
   rcases d with d|d
   ·rcases de d with q|⟨_,q⟩
    ·exact absurd rfl (S.nocell _ (aaL q))
    ·exact q
   ·rcases de d with q|⟨z,_⟩
    ·exact q
    ·cases z
  exact eG (.inl (aaL k))
 ·obtain⟨o,ho⟩:=j b g;exact aak (aag ho)
 ·exact(a b g).2.2.2.2.1 x c (f x c e)
 ·rcases (a b g).2.2.2.1 with z|z
  ·exact I.ok.noex b o e z
  ·exact absurd (aaq (aag e) (aas I.ok.bsz z)) (aaX _)
 ·rcases abH.mp (I.stkSub b l) with e|z
  ·exact(a b g).2.1 e
  ·exact(a b g).2.2.1 z
theorem rY{j:Nat}(h:(kU σ ixs)[j]?=some (some v)):∃i,ixs[j]?=some i/\σ[i]?=some (some v):=by
 unfold kU at h;rw[List.getElem?_map] at h
 cases e:ixs[j]? with
 |none=>rw[e] at h;cases h
 | some i=>
  rw[e] at h;refine⟨i,rfl,?_⟩;have h:(σ[i]?).getD none=some v:=aai h
  cases q:σ[i]? with
  |none=>rw [q] at h;cases h
  |some u=>rw [q] at h;exact congrArg some h
theorem wV(I:Inv X pins σ H s)(S:CompScope X T F ixs scope)(D:∀b∈fp,rf X pins H b)(E:∀b∈fp,∃o,s.heap.get? b=some o){h':Heap}{t':Nat}{m:Str->Option Value}
  (C:∀b o,s.heap.get? b=some o->h'.get? b=some o) (N:h'.Ns s.heap.objs.size m) :
  Inv (bt X (T++F) scope (aB X.env scope.names []) s.heap.objs.size s H fp) [] (List.replicate T.length none++kU σ ixs) H { s with heap:=h',toks:=t' }:=by
 have ok:=Cz I S D E
 have l:∀y∈scope.names,y.2=.free->∃c,X.env.cells.lookup y.1=some c:=λy K w=>by
  rcases S.out y K w with e|e
  ·exact I.ok.has _ (.inl e)
  ·exact I.ok.has _ (.inr e)
 have f:∀x c,(aB X.env scope.names []).lookup x=some c->X.env.cells.lookup x=some c:=λx c h=>dc l (λ_ _ z=>by simp at z) h;have a:∀c v,s.heap.IsCell c v->h'.IsCell c v:=λc v ⟨o,ho,hd⟩=>⟨o,C c o ho,hd⟩;refine⟨ok,rfl,I.bare,Un.kept C,⟨m,N,λj x v A n R=>?_⟩,λx c e=>?_,I.hok.fresh (aac _),λx c e=>I.freeC x c (f x c e),λp hp=>absurd (show p∈([]:List (Addr×Obj)) from hp) (by simp),I.hok.kept C,?_⟩
 ·have t:T.length<=j:=by
   refine Nat.le_of_not_lt λt=>?_;rw[List.getElem?_append_left (by exists t),List.getElem?_replicate] at n;split at n <;> cases n
  rw[List.getElem?_append_right (by exists t),aaG] at n;have A:(T++F)[j]?=some x:=A;rw[List.getElem?_append_right t] at A;obtain⟨i,hi,L⟩:=rY n;obtain⟨P,w⟩:=S.cap _ i x hi A;obtain⟨Q,M,hl⟩:=I.loc;have G:=aaL w;have d:X.env.scope.names.lookup x=some .cell∨X.env.scope.names.lookup x=some .free:=S.out _ G rfl;obtain⟨u,J,lk⟩:=hl i x v P L (d.elim (λz=>.inr (.inl z)) λz=>.inr (.inr z));refine⟨u,J,?_⟩;rcases lk with ⟨r,_⟩|⟨_,c,O,g⟩
  ·have r:X.env.scope.names.lookup x=some .local:=r;rcases d with z|z
   ·rw[r] at z;cases z
   ·rw[r] at z;cases z
  ·obtain⟨B,k⟩:=eG (env:=X.env) (cs:=[]) (.inl G)
   have e:B=c:=by
    have:=f x B k;rw[O] at this;exact(aai this).symm
   subst e;exact .inr ⟨gm w,B,k,a B _ g⟩
 ·obtain⟨v,q⟩:=I.cell x c (f x c e);exact⟨v,a c v q⟩
 ·show _=(T++F).length;rw[abB,aaG,abB,kU,abz,S.len]
theorem nM{pos':Pos}(hc:X.calm=true)(S:CompScope X T F ixs scope)
  (hi:PI X tg iter wi)
  (hg:∀C s H fp,PG (bt X (T++F) scope (aB X.env scope.names []) C s H fp) tg g)
  (ht:∀C s H fp,Gj (bt X (T++F) scope (aB X.env scope.names []) C s H fp) ifs tc)
  (he:∀C s H fp,PE (bt X (T++F) scope (aB X.env scope.names []) C s H fp) elt te)
  (hs:∀x,foldedSetIterable iter X.env x=pure x) {use:Option (Value->Sem Unit)} {QQ:Value->Shared->Prop}      (I:Inv X pins σ H s) (h:gy T.length ixs wi g tc te σ H Q)
  (fine:∀(D C:Addr) (G:Hp) (E:Shared) (f:Flow),(∃m,E.heap.Ns C m)->G C=none->C≠X.env.locals->(∀x c,X.env.cells.lookup x=some c->c≠C)->X.s₀.heap.objs.size<=C->(∀p∈X.pn++pins,p.1≠C) ->
   (∀h7,Heap.SameBut C E.heap h7->Inv X pins σ G { E with heap:=h7 })->Q (.ref D) G->compPost (model X.prog X.w) X.A X.xe use QQ (.ref D) C (.ok f) E) :
  wpAny (model X.prog X.w) X.A (comprehension (.ListComp elt [⟨tg,iter,ifs,0⟩] scope pos) scope X.env pos' (newList []) false (eval iter X.env) use) QQ X.xe s:=by
 have hall:∀y∈scope.names,y.2=.free->∃c,X.env.cells.lookup y.1=some c:=λy hy hf=>by
  rcases S.out y hy hf with e|e
  ·exact I.ok.has _ (.inl e)
  ·exact I.ok.has _ (.inr e)
 refine wpAny_comprehension_free (use:=use) (cl:=aB X.env scope.names []) rfl hs (jN hall) S.kind S.names (thn (hi pins s σ H _ I h) λv s1 h1=>thn h1 λitv A h2=>?_);obtain⟨it,fp,tn,J,H2,e,I2,TT,st2,f2,q2⟩:=h2;subst e;refine aaF ?_
 -- the list is laid
 have U:Inv X pins σ (upd H2 A.heap.objs.size (.lst [])) { A with heap:=A.heap.push { cls:=.type "list", dict:=none,data:=.seq ([]:List Value).toArray } }:=
  I2.laid (t':=A.toks) (λb u q=>Heap.get?_push_of_some _ q) (aac _) ⟨aan _,[],0,.nil,Heap.get?_push_size _ rfl⟩
 have hD:H2 A.heap.objs.size=none:=I2.hok.fresh (aac _);have hfo:∀b∈fp,∃o,A.heap.get? b=some o:=λb a=>let ⟨o,e,_⟩:=TT.obj _ _ st2 b a;⟨o,e⟩;have neD:∀b∈fp,b≠A.heap.objs.size:=λb a=>by obtain⟨o,e⟩:=hfo b a;exact aak (aag e)
 have f3:∀b∈fp,rf X pins (upd H2 A.heap.objs.size (.lst [])) b:=λb a=>by
  obtain⟨a1,a2⟩:=f2 b a;exact⟨by rw[ai (neD b a)];exact a1,a2⟩
 obtain⟨W,⟨m0,w0⟩,turn⟩:=q2 A.heap.objs.size hD;generalize hs3:({ A with heap:=A.heap.push { cls:=.type "list", dict:=none,data:=.seq ([]:List Value).toArray } }:Shared)=l at U ⊢;generalize hH3:upd H2 A.heap.objs.size (.lst [])=H3 at U f3 w0
 have hfo3:∀b∈fp,∃o,l.heap.get? b=some o:=λb a=>by
  obtain⟨o,e⟩:=hfo b a;rw[← hs3];exact⟨o,Heap.get?_push_of_some _ e⟩
 have st3:tn 0 l.heap:=TT.keep _ _ _ st2 λb a o e=>by rw[← hs3];exact Heap.get?_push_of_some _ e
 refine wpAny_newFunctionEnv S.nocell (by intro y hy;simp at hy) (λh4 hns4 hsb4=>?_) S.kind;have old:∀b o,l.heap.get? b=some o->h4.get? b=some o:=λb o e=>hsb4.extBut b o (aak (aag e)) (Heap.get?_push_of_some _ e);have J4:=wV U S f3 hfo3 (t':=l.toks+([]:List (Str×Value)).length) old hns4;generalize hs4:({ l with heap:=h4,toks:=l.toks+([]:List (Str×Value)).length }:Shared)=s4 at J4 ⊢;have st4:tn 0 s4.heap:=by rw[← hs4];exact TT.keep _ _ _ st3 λb a o e=>old b o e
 have hg':=hg l.heap.objs.size l H3 fp;have ht':=ht l.heap.objs.size l H3 fp;have he':=he l.heap.objs.size l H3 fp;generalize O:bt X (T++F) scope (aB X.env scope.names []) l.heap.objs.size l H3 fp=Y at J4 hg' ht' he';have yA:Y.A=X.A:=by rw[← O];rfl
 have yP:Y.prog=X.prog:=by rw[← O];rfl
 have Z:Y.w=X.w:=by rw[← O];rfl
 have yK:Y.K=X.K:=by rw[← O];rfl
 have yC:Y.calm=true:=by rw[← O];exact hc
 have yE:Y.env=compEnvC scope (aB X.env scope.names []) l.heap.objs.size X.env:=by rw[← O];rfl
 have yX:Y.xe=λ_ _=>False:=by rw[← O];rfl
 have fY:∀{H':Hp},(∀b∈fp,H' b=none)->∀b∈fp,rf Y [] H' b:=λhn b a=>by
  have k:=J4.ok;rw[← O] at k ⊢;exact⟨hn b a,(k.exf b a).1,k.exfs b a,.inl a,(k.exf b a).2,λp hp=>absurd (show p∈([]:List (Addr×Obj)) from hp) (by simp)⟩
 have P:codeAny (model X.prog X.w) X.A (.compLoop (.ListComp elt [⟨tg,iter,ifs,0⟩] scope pos) 0 (.ref it) (.ref A.heap.objs.size) (compEnvC scope (aB X.env scope.names []) l.heap.objs.size X.env))
   (compPost (model X.prog X.w) X.A X.xe use QQ (.ref A.heap.objs.size) l.heap.objs.size) s4:=by
  refine kT (λn s'=>∃i acc t H',Inv Y [] t H' s'/\tn i s'.heap/\(∀b∈fp,H' b=none)/\W i n acc t H') ?_ m0 ⟨0,[],_,H3,J4,st4,λb a=>(f3 b a).1,w0⟩;rintro n s5 ⟨i,acc,L,G,J5,st5,fr5,w5⟩;rcases turn i n acc L G w5 with ⟨stop,qn⟩|⟨go,N,hN,step⟩
  ·have fin:=TT.done Y yP Z yK yC i [] s5 L G (λ_ _=>False) J5 (fY fr5) st5 stop;rw[yA] at fin;refine thn fin λr E r=>?_;obtain⟨hr,J6⟩:=r;subst hr
   -- the block is left
   obtain⟨m,hm,_⟩:=id J6.loc;have hm:E.heap.Ns l.heap.objs.size m:=by rw[yE] at hm;exact hm
   have w:=J6.base;have M:=J6.os;have j:=J6.free;have hbare:=J6.bare;have hok6:HOk X.prog X.w G E.heap:=by have:=J6.hok;rw[yP,Z] at this;exact this
   rw[yE] at j;have j:G l.heap.objs.size=none:=j;rw[← O] at w M;have w:Un (frs X.stack) fp H3 G l.heap E.heap:=w;have M:E.os=l.os:=M;have ltC:∀b o,l.heap.get? b=some o->b≠l.heap.objs.size:=λb o e=>aak (aag e);refine fine _ _ G E _ ⟨m,hm⟩ j ?hl ?hcl U.sz ?hpn (λh7 R=>?_) qn
   case hl=>exact λz=>aaX _ (z ▸ U.lt)
   case hcl=>exact λx c e z=>by obtain⟨v,o,ho,_⟩:=U.cell x c e;exact ltC c o ho z
   case hpn=>exact λp hp z=>ltC p.1 p.2 (U.pin p hp).1 z
   have same:∀b,b<l.heap.objs.size->h7.get? b=E.heap.get? b:=λb a=>R.2 b (aak a)
   have hok7:HOk X.prog X.w G h7:=λb o e=>by
    refine(hok6 b o e).stay (λc w' hc q=>(R.2 c ?_).trans q) (λ_ q=>q) λ_ _ q=>q;rintro rfl;rcases hc with z|z
    ·rw[← z,j] at e;cases e
    ·rw[j] at z;cases z
   have un7:Un (frs X.stack) fp H3 G l.heap h7:=
    ⟨λb o e n a hx=>(same b (aag e)).trans (w.keep b o e n a hx),λb o e n a hx=>by
     obtain⟨sl,q⟩:=w.slot b o e n a hx;exact⟨sl,(same b (aag e)).trans q⟩,w.free,λb o e hx=>by
     obtain⟨o',q⟩:=w.there b o e hx;exact⟨o',(same b (aag e)).trans q⟩,w.tups,w.frzs,w.tbls⟩
   exact U.call' (s':={ E with heap:=h7 }) M un7 hok7 hbare λb a=>by
    obtain⟨_,a2,a3,a4,a5,a6⟩:=f3 b a;exact⟨a4,a2,a5,a6⟩
  ·have nx:=TT.item Y yP Z yK yC i [] s5 L G (λ_ _=>False) J5 (fY fr5) st5 go;rw[yA] at nx;refine thn nx λr E x0=>?_;obtain⟨u,hr,h6⟩:=x0;subst hr;refine thn h6 λ_ s7 x1=>?_;obtain⟨x,H7,J7,r7,y7,st7,fr7⟩:=x1;have J7':=J7.pinned (fY fr7) (TT.obj _ _ st7);have asg:=hg' _ s7 L H7 x u _ J7' r7 (step x H7 y7);rw[yA,yP,Z,yE,yX] at asg;refine thn asg λ_ s8 x2=>?_;obtain⟨K,H8,J8,q8⟩:=x2;have tst:=ht' _ s8 K H8 _ J8 q8;rw[yA,yP,Z,yE,yX] at tst;refine thn tst λb s9 ⟨H9,J9,q9⟩=>?_
   have again:∀{s':Shared} {B:List V} {t:St} {H':Hp},Inv Y ([]++jc fp s7.heap) t H' s'->N B t H'->∃m,m<n/\∃i acc t H',Inv Y [] t H' s'/\tn i s'.heap/\(∀b∈fp,H' b=none)/\W i m acc t H':=fun {s' B t H'} K7 n7=>by
    obtain⟨m',hm,w7⟩:=hN B t H' n7;refine⟨m',hm,i+1,B,t,H',K7.unpinned,TT.keep _ _ _ st7 λb a o e=>(K7.pin (b,o) (aal _ (aal _ (eF a e)))).1,λb a=>?_,w7⟩;obtain⟨o,e,d⟩:=TT.obj _ _ st7 b a;exact(K7.pin (b,o) (aal _ (aal _ (eF a e)))).2.1
   cases b with
   | false=>
    rw[if_neg abF] at q9 ⊢;exact again J9 q9
   | true=>
    rw[if_pos rfl] at q9 ⊢;have elv:=he' _ s9 K H9 _ J9 q9;rw[yA,yP,Z,yE,yX] at elv;refine thn elv λu10 s10 x3=>?_;obtain⟨y,H10,J10,r10,q10⟩:=x3;obtain⟨hl,hz,qN⟩:=q10;have app:=kP (X:=Y) ([]++jc fp s7.heap) s10 K H10 (.ref A.heap.objs.size) [y] (.ref A.heap.objs.size) [u10] (λ_ H'=>N (acc++[y]) K H') J10 rfl (.cons r10 .nil) ⟨_,acc,y,rfl,rfl,hl,hz,qN⟩;rw[yA,yP,Z,yX] at app;exact thn app λ_ s11 ⟨_,H11,J11,_,q11⟩=>again J11 q11
 exact codeAny_compStart_list P (TT.self _ 0 _ _ _ st4 P)
theorem CA(e:X.calm=true)(S:CompScope X T F ixs scope)
  (hi:PI X tg iter wi)
  (d:∀C s H fp,PG (bt X (T++F) scope (aB X.env scope.names []) C s H fp) tg g)
  (b:∀C s H fp,Gj (bt X (T++F) scope (aB X.env scope.names []) C s H fp) ifs tc)
  (he:∀C s H fp,PE (bt X (T++F) scope (aB X.env scope.names []) C s H fp) elt te)
  (hs:autoParam (∀x,foldedSetIterable iter X.env x=pure x) L2.aI._auto_1) :
  PE X (.ListComp elt [⟨tg,iter,ifs,0⟩] scope pos) (gy T.length ixs wi g tc te):=by
 intro pins s σ H Q I h;rw[eval_ListComp];exact nM e S hi d b he hs I h λD C j l f ⟨m,c⟩ _ _ _ _ _ a q=>⟨m,c,λi k=>⟨.ref D,j,a i k,rfl,q⟩⟩
theorem CB{i:Nat}{py c:Pos}(N:X.calm=true)(S:CompScope X T F ixs scope)
  (hi:PI X tg iter wi)
  (L:∀C s H fp,PG (bt X (T++F) scope (aB X.env scope.names []) C s H fp) tg g)
  (G:∀C s H fp,Gj (bt X (T++F) scope (aB X.env scope.names []) C s H fp) ifs tc)
  (he:∀C s H fp,PE (bt X (T++F) scope (aB X.env scope.names []) C s H fp) elt te)
  (hs:∀x,foldedSetIterable iter X.env x=pure x) (P:X.N.Nodup) (k:X.N[i]?=some y) (hx:Loc X.env.scope y)
  (j:swapsWith (.ListComp elt [⟨tg,iter,ifs,0⟩] scope pos) (some (.Name y py)) c.line X.env=pure true) (M:X.fn y=true∨X.env.scope.names.lookup y=some .local) :
  PS X (.Assign [.Name y py] (.ListComp elt [⟨tg,iter,ifs,0⟩] scope pos) c) (qU (gy T.length ixs wi g tc te) (fU i)):=by
 intro pins s σ H D I h;rw[exec_Assign_Name_used _ _ _ _ j];refine aaa (wpAny_standAt (aaa ?_));show wpAny _ X.A (do let _ ← comprehension (.ListComp elt [⟨tg,iter,ifs,0⟩] scope pos) scope X.env _ (newList []) false (eval iter X.env) (some (assign (.Name y py) X.env))) _ _ s;refine aaa (thn (nM (use:=some (assign (.Name y py) X.env)) (QQ:=λ_ s'=>SP X pins D .next s') N S hi L G he hs I h λu C t n f ⟨m,K⟩ fC p r v B d q=>?_) λ_ s' J=>aaf (aaf J));have U:Inv X pins σ t n:=d n.heap (Heap.SameBut.refl _ _);refine wpAny_assign_Name (kD U P k hx (show RelV (.ref u) (.ref u) from rfl) (λA R V=>?_) M);obtain⟨a,w,l⟩:=V
 have Q:C≠a:=by
  rcases l with rfl|l
  ·exact p
  ·exact λz=>r y a l z.symm
 refine⟨m,K.sameBut w Q,λV E=>⟨_,t,?_,q⟩⟩;exact R.turned (t':=A.toks) (λb o O e=>(E.2 b O).trans e) fC p (.inr v) r B
end
def Its(z:Str):It:=⟨λi _=>i<z.cps.size,λi H x H'=>H'=H/\∃c,z.cps.toList[i]?=some c/\x=.str ⟨#[c]⟩,λi _=>i=z.cps.size⟩
theorem nN{K:Frag}(nm:String)(hnm:["enumerate", "zip", "dict_itemiterator", "dict_reverseitemiterator", "odict_iterator", "itertools.zip_longest", "itertools.pairwise"].contains nm=false)(it:Addr)(z:Str)(t:Tok)
  (W:∀A:Around,A.handled=none->Walks P w A it [it] [it] z.cps.size (SignAt z) (λi h=>h.IsStrIter it nm z t i))
  (hself:∀(A:Around) (i:Nat) (s:Shared) (Q:Value->Shared->Prop) (E:Value->Shared->Prop),s.heap.IsStrIter it nm z t i->Q (.ref it) s->wpAny (model P w) A (pyIter (.ref it)) Q E s):Turn P w K tg (Its z) [it] it (λi h=>h.IsStrIter it nm z t i) where
 mem:=by simp
 obj:=λi h st b hb=>by
  have e:b=it:=(by exists hb);subst e;obtain⟨o,e,c,d⟩:=st;exact⟨o,e,λv q=>by rw[d] at q;cases q⟩
 keep:=λi h h' st k=>by
  obtain⟨o,e,r⟩:=st;exact⟨o,k it (by simp) o e,r⟩
 item:=by
  intro X hP hw hK hc i pins s σ H E I hf st hg;subst hP hw hK;obtain⟨f0,f1,f2,f3,f4,f5⟩:=hf it (by simp);refine(W X.A (I.ok.hd hc)).item i s _ _ hg st λv h' tk hv st' kk=>?_;obtain⟨c,u,hcx,rfl⟩:=hv;have I1:Inv X pins σ H { s with heap:=h',toks:=tk }:=I.turned (λb o hb e=>kk b o (by exists hb) e) f0 f1 f3 f4 f5;obtain⟨o,e,cl,d⟩:=id st';exact⟨_,rfl,jK (s:={ s with heap:=h',toks:=tk }) e cl d hnm ⟨.str ⟨#[c]⟩,H,I1,⟨u,rfl⟩,⟨rfl,c,(by exists hcx),rfl⟩,st',λb hb=>(hf b hb).1⟩⟩
 done:=by
  intro X hP hw hK hc i pins s σ H E I hf st hg;subst hP hw hK;obtain⟨f0,f1,f2,f3,f4,f5⟩:=hf it (by simp);have hg:i=z.cps.size:=hg;subst hg;exact(W X.A (I.ok.hd hc)).done s _ _ st λh' tk kk=>⟨rfl,I.turned (λb o hb e=>kk b o (by exists hb) e) f0 f1 f3 f4 f5⟩
 self:=λA i s Q E st h=>hself A i s Q E st h
def LG(tl:TE):TI:=λσ H R=>tl σ H λx H1=>∃z,x=.str z/\R (Its z) H1
theorem Hc{l:Expr}{tl:TE}(hl:PE X l tl):PI X tg l (LG tl):=by
 intro pins s σ H R I h;refine thn (hl pins s σ H _ I h) λv a y=>?_;obtain⟨x,H1,c,g,i⟩:=y;obtain⟨z,e,q⟩:=i;subst e;obtain⟨t,rfl⟩:=g
 have fp:∀b∈[a.heap.objs.size],rf X pins H1 b:=λb j=>by
  have e:b=a.heap.objs.size:=(by exists j);subst e;exact c.fpOk (aac _) (c.hok.fresh (aac _))
 cases f:z.cps.all (·<128)
 ·exact wpAny_pyIter_wide f ⟨a.heap.objs.size,[a.heap.objs.size],_,_,H1,rfl,c.kept (t':=a.toks) λb o e=>Heap.get?_push_of_some _ e,nN "str_iterator" (by decide) _ z t (λA d=>Walks.strWide d _ z t) (λ_ _ _ _ _ st h=>wpAny_pyIter_striter_wide st h),⟨_,Heap.get?_push_size _ rfl,rfl,rfl⟩,fp,q⟩
 ·exact wpAny_pyIter_ascii f ⟨a.heap.objs.size,[a.heap.objs.size],_,_,H1,rfl,c.kept (t':=a.toks) λb o e=>Heap.get?_push_of_some _ e,nN "str_ascii_iterator" (by decide) _ z t (λA d=>Walks.strAscii d _ z t) (λ_ _ _ _ _ st h=>wpAny_pyIter_striter_ascii st h),⟨_,Heap.get?_push_size _ rfl,rfl,rfl⟩,fp,q⟩
section
variable {no:Nat}        {D:Addr}
end
def isT(t T:String):Bool:=t==T || (t == "bool" && T == "int")
def okT(T:String):Prop:=T = "str" ∨ T = "int" ∨ T = "bool" ∨ T = "list" ∨ T = "tuple" ∨ T = "dict" ∨ T = "NoneType"
theorem Hd{K:Frag}{t T:String}(a:okT t)(b:okT T):PySem.W.kitOne K (.type t) (.type T)=some (isT t T):=by
 rcases a with rfl|rfl|rfl|rfl|rfl|rfl|rfl <;> rcases b with rfl|rfl|rfl|rfl|rfl|rfl|rfl <;> rfl
theorem mE(bs:List Bool):TruthOf P w A (λi v=>∃b,bs[i]?=some b/\v=Value.bool b) (λi=>bs.getD i false):=by
 intro i v s Q E d c;obtain⟨b,a,rfl⟩:=d;have e:bs.getD i false=b:=by rw[List.getD_eq_getElem?_getD,a];rfl
 exact aaD (by rw[← e];exact c)
theorem rZ{bs:List Bool}:(List.range bs.length).all (λi=>bs.getD i false)=bs.all id:=by
 rw[abd,abV,abV];constructor
 ·intro h b a;obtain⟨i,hi,e⟩:=List.mem_iff_getElem.mp a;have:=h i (abY.mpr hi);rw[List.getD_eq_getElem?_getD,List.getElem?_eq_getElem hi,e] at this;exact this
 ·intro h i hi;have hi:=abY.mp hi;rw[List.getD_eq_getElem?_getD,List.getElem?_eq_getElem hi];exact h _ (aaQ hi)
theorem r8{bs:List Bool}:(List.range bs.length).any (λi=>bs.getD i false)=bs.any id:=by
 rw[abd,aaV,aaV];constructor
 ·rintro⟨i,hi,h⟩;have hi:=abY.mp hi;rw[List.getD_eq_getElem?_getD,List.getElem?_eq_getElem hi] at h;exact⟨_,aaQ hi,h⟩
 ·rintro⟨b,a,h⟩;obtain⟨i,hi,e⟩:=List.mem_iff_getElem.mp a;refine⟨i,abY.mpr hi,?_⟩;rw[List.getD_eq_getElem?_getD,List.getElem?_eq_getElem hi,e];exact h
theorem wW{bs:List Bool}:∀{us:List Value},Vals (bs.map V.bl) us->us.length=bs.length/\∀(i:Nat) (v:Value),us[i]?=some v->∃b,bs[i]?=some b/\v=Value.bool b:=by
 intro us r;have hl:=r.length;rw[abz] at hl;refine⟨hl.symm,λi v h=>?_⟩;have hi:i<us.length:=(List.getElem?_eq_some_iff.mp h).1;have a:i<bs.length:=by nofun
 obtain⟨u,hu,c⟩:=r.get (i:=i) (x:=.bl bs[i]) (by simp[a]);rw[h] at hu;cases hu;exact⟨bs[i],by simp[a],c⟩
theorem jk{bs:List Bool}(I:Inv X pins σ H s)(m:SqL X.K H p (bs.map V.bl))(A:Around)(u:A.handled=none){r:Bool}
  (fn:(List Nat)->(Nat->Bool)->Bool) (hr:fn (List.range bs.length) (λi=>bs.getD i false)=r) (q:Q (.bl r) H) :
  wpAny (model X.prog X.w) A (pyIter (.ref p)) (λit a=>∃I fp g n P St tr,it=.ref I/\Walks X.prog X.w A I fp g n P St/\St 0 a.heap/\TruthOf X.prog X.w A P tr /\
   ∀h' tk,(∀b o,b∉g->a.heap.get? b=some o->h'.get? b=some o)->EP X pins σ Q (.bool (fn (List.range n) tr)) { a with heap:=h',toks:=tk }) E s:=by
 obtain⟨its,j,pl,x⟩:=I.list m;obtain⟨hl,d⟩:=wW j;refine wpAny_pyIter_list pl.isList ?_
 have ne:p≠s.heap.objs.size:=by
  obtain⟨o,ho,_⟩:=pl.isList;exact aak (aag ho)
 have c:=Walks.list (prog:=X.prog) (w:=X.w) u s.heap.objs.size p ne its.toArray
 have f:Walks X.prog X.w A s.heap.objs.size [s.heap.objs.size,p] [s.heap.objs.size] bs.length (λi v=>∃b,bs[i]?=some b/\v=Value.bool b) (λi h=>h.IsListIter s.heap.objs.size p i/\h.IsList p its.toArray):=by
  have e:its.toArray.size=bs.length:=by simp[hl]
  rw[e] at c;exact { sub:=c.sub,frame:=c.frame,item:=λi s Q E hi st t=>c.item i s Q E hi st λv h' tk l=>t v h' tk (d i v (by exists l)),done:=c.done,self:=c.self }
 refine⟨s.heap.objs.size,_,_,_,_,_,_,rfl,f,⟨⟨_,Heap.get?_push_size _ rfl,rfl,rfl⟩,?_⟩,mE bs,λh' tk k=>?_⟩
 ·obtain⟨o,ho,r⟩:=pl.isList;exact⟨o,Heap.get?_push_of_some _ ho,r⟩
 ·refine⟨.bl r,H,I.kept (h':=h') (t':=tk) λb o e=>k b o ?_ (Heap.get?_push_of_some _ e),by rw[← hr];rfl,q⟩;intro z;have z:b=s.heap.objs.size:=(by exists z);exact absurd (aag e) (by rw[z];exact aaX _)
theorem wX(c:X.calm=true):CallR X (.builtin "all") (λxs H Q=>∃(p:Addr) (bs:List Bool),xs=[.ref p]/\SqL X.K H p (bs.map V.bl)/\Q (.bl (bs.all id)) H):=by
 intro pins s σ H xs us Q I r h;obtain⟨p,bs,rfl,b,q⟩:=h;obtain⟨u,rfl,a⟩:=fE r;cases a;exact call_all_walk (jk I b X.A.in1 (I.ok.hd c) (λl f=>l.all f) rZ q)
theorem wY(c:X.calm=true):CallR X (.builtin "any") (λxs H Q=>∃(p:Addr) (bs:List Bool),xs=[.ref p]/\SqL X.K H p (bs.map V.bl)/\Q (.bl (bs.any id)) H):=by
 intro pins s σ H xs us Q I r h;obtain⟨p,bs,rfl,b,q⟩:=h;obtain⟨u,rfl,a⟩:=fE r;cases a;exact call_any_walk (jk I b X.A.in1 (I.ok.hd c) (λl f=>l.any f) r8 q)
theorem pP:OpR X (compareOp .In) (λx y H Q=>∃(c:Nat) (j:Str),x=.str ⟨#[c]⟩/\y=.str j/\Q (.bl (decide (c∈j.cps.toList))) H):=by
 intro pins s σ H x y v u Q I b a h;obtain⟨c,j,rfl,rfl,q⟩:=h;exact rA pins s σ H _ _ v u Q I b a ⟨_,j,rfl,rfl,by rw[PySem.StrLaws.found_one];exact q⟩
theorem jO:OpR X (compareOp .NotIn) (λx y H Q=>∃(c:Nat) (j:Str),x=.str ⟨#[c]⟩/\y=.str j/\Q (.bl (!decide (c∈j.cps.toList))) H):=by
 intro pins s σ H x y v u Q I b a h;obtain⟨c,j,rfl,rfl,q⟩:=h;exact kL pins s σ H _ _ v u Q I b a ⟨_,j,rfl,rfl,by rw[PySem.StrLaws.found_one];exact q⟩
theorem jP(h:x.cps.toList=y.cps.toList):x=y:=by
 cases x with|mk a=>cases y with|mk b=>exact congrArg Str.mk (Array.toList_inj.mp h)
theorem aO(x:Str):x.length=x.cps.toList.length:=by simp[Str.length]
theorem dP(x y:Str):(x++y).cps.toList=x.cps.toList++y.cps.toList:=by
 show (x.cps++y.cps).toList=_;simp
def eQ{α:Type}(xs:List α)(lo hi:Option Int):List α:=(xs.drop (HT.sIx xs.length 0 lo)).take (HT.sIx xs.length xs.length hi - HT.sIx xs.length 0 lo)
theorem sliceRange_one(a b:Nat):sliceRange (a:Int) (b:Int) 1=(List.range (b - a)).map λk=>a+k:=by
 unfold sliceRange;simp only[show (1:Int) > 0 by decide,if_true]
 have e:(if (a:Int)<(b:Int) then ((b:Int) - (a:Int)+1 - 1) / 1 else 0).toNat=b - a:=by
  split <;> (try rw[Int.ediv_one]) <;> nofun
 rw[e];refine aa3 λk _=>?_;nofun
theorem pQ(lo hi:Option Int)(n:Nat):Builtin.Str.strSliceIndices lo hi 1 n=(List.range (HT.sIx n n hi - HT.sIx n 0 lo)).map λk=>HT.sIx n 0 lo+k:=by
 unfold Builtin.Str.strSliceIndices;rw[← sliceRange_one];simp only[show (1:Int) > 0 by decide,if_true]
 congr 1
 ·cases lo with
  |none=>rfl
  |some v=>rw [← HT.clip_eq];dsimp only;split <;> nofun
 ·cases hi with
  |none=>rfl
  |some v=>rw [← HT.clip_eq];dsimp only;split <;> nofun
theorem jl{α:Type}(xs:List α)(a:Nat):∀k:Nat,a+k<=xs.length->((List.range k).map λj=>a+j).filterMap (λi=>xs[i]?)=(xs.drop a).take k
 |0,_=>by simp
 | k+1,h=>by
  have b:a+k<xs.length:=by nofun
  rw[List.range_succ,aad,List.filterMap_append,jl xs a k (by nofun),List.take_add_one]
  congr 1
  simp[List.getElem?_drop,b]
theorem r9(x:Str)(lo hi:Option Int):(Txt.slice x lo hi).cps.toList=eQ x.cps.toList lo hi:=by
 have hl:x.cps.toList.length=x.length:=by simp[Str.length]
 have h1:=HT.sIx_le x.length 0 (aan _) lo;have h2:=HT.sIx_le x.length x.length (aac _) hi;unfold Txt.slice eQ;rw[hl,pQ];split
 ·rename_i a;simp only[beq_self_eq_true,Bool.true_and,List.length_map,List.length_range,beq_iff_eq] at a;have c:HT.sIx x.length 0 lo=0:=by nofun
  have b:HT.sIx x.length x.length hi=x.length:=by nofun
  rw[c,b,abg,Nat.sub_zero,aah (by nofun)]
 ·show (List.filterMap (λi=>x.cps[i]?) _).toArray.toList=_;have e:(λi:Nat=>x.cps[i]?)=λi:Nat=>x.cps.toList[i]?:=by funext i;simp
  rw[e];by_cases h:HT.sIx x.length 0 lo<=HT.sIx x.length x.length hi
  ·rw[jl x.cps.toList _ _ (by rw[hl];nofun)]
  ·have d:HT.sIx x.length x.length hi - HT.sIx x.length 0 lo=0:=by nofun
   rw[d];simp
def MR:V->Option Int->Option Int->Hp->VK->Prop:=λx lo hi H Q=>∃z,x=.str z/\z.length<=sizeLine/\∀y:Str,y.cps.toList=eQ z.cps.toList lo hi->Q (.str y) H
theorem He:SlR X MR:=by
 intro pins s σ H x v vl vu lo hi sl Q I e hs pl d h;obtain⟨z,rfl,f,q⟩:=h;obtain⟨t,rfl⟩:=e;refine⟨"str", _,F.slot_str_getitem.lookup,typeIs_str _ _ _,?_⟩
 have fin:(Txt.slice z lo hi).length<=sizeLine/\∀t' k,EP X pins σ Q (.str (Txt.slice z lo hi) t') { s with toks:=k }:=
  ⟨aas (Txt.slice_le z _ _) f,λt' k=>⟨.str _,H,I.tok k,⟨t',rfl⟩,q _ (r9 z lo hi)⟩⟩
 obtain⟨o,ho,a,hd⟩:=hs
 cases pl with
 | none=>
  cases d with
  |none=>exact abk (l:=none) (u:=none) (st:=none) ⟨o,ho,a,hd⟩ rfl (post_val_or_str fin)
  |int j b=>exact abk (l:=none) (u:=some (j,b)) (st:=none) ⟨o,ho,a,hd⟩ rfl (post_val_or_str fin)
 | int i c=>
  cases d with
  |none=>exact abk (l:=some (i,c)) (u:=none) (st:=none) ⟨o,ho,a,hd⟩ rfl (post_val_or_str fin)
  |int j b=>exact abk (l:=some (i,c)) (u:=some (j,b)) (st:=none) ⟨o,ho,a,hd⟩ rfl (post_val_or_str fin)
theorem sd:∀{zs:List Str} {us:List Value},Vals (zs.map V.str) us->∃l:List (Str×Tok),us=strValues l/\l.map (·.1)=zs
 | [],_,r=>by
  rw[ab4] at r;cases r;exact⟨[],rfl,rfl⟩
 | z::zs,_,r=>by
  rw[abC] at r
  cases r with
  | cons b a=>
   obtain⟨t,rfl⟩:=b;obtain⟨l,rfl,rfl⟩:=sd a;exact⟨(z,t)::l,rfl,rfl⟩
def wZ(K:Frag):V->List V->Hp->VK->Prop:=λx vs H Q=>∃(z:Str) (p:Addr) (zs:List Str),x=.str z/\vs=[.ref p]/\SqL K H p (zs.map V.str)/\(zs.map (·.length)).sum+zs.length*z.length<=16777216/\Q (.str (Builtin.Str.glued z zs)) H
theorem CC:MtR X "str.join" (wZ X.K):=by
 intro pins s σ H x vs v us Q I a b h;obtain⟨z,p,zs,rfl,rfl,f,d,q⟩:=h;obtain⟨t,rfl⟩:=a;obtain⟨u,rfl,c⟩:=fE b;cases c;obtain⟨its,r,pl,hl⟩:=I.list f;obtain⟨l,rfl,e⟩:=sd r;exact SC.join pl.isList e (joinOk_of d) λt' k=>⟨.str _,H,I.tok k,⟨t',rfl⟩,q⟩
theorem gY(zs:List Str):(Builtin.Str.glued Str.empty zs).cps.toList=(zs.map λz=>z.cps.toList).flatten:=by
 unfold Builtin.Str.glued
 have gen:∀(l:List Str) (a:Array Nat),(l.foldl (λacc p=>acc++Str.empty.cps++p.cps) a).toList=a.toList++(l.map λz=>z.cps.toList).flatten:=by
  intro l
  induction l with
  |nil=>intro a;simp
  |cons y l b=>intro a;rw [List.foldl_cons,b];simp [Str.empty]
 rw[gen]
 cases zs with
 |nil=>simp[Str.empty]
 |cons y l=>simp
inductive DV where
 |non|bl (b:Bool)|int (i:Int)|str (x:Str)|lst (xs:List DV)|tup (xs:List DV)
mutual
inductive Deep(K:Frag)(H:Hp):V->DV->Prop where
 |non:Deep K H .non .non
 |bl (b:Bool):Deep K H (.bl b) (.bl b)
 |int (i:Int):Deep K H (.int i) (.int i)
 |str (x:Str):Deep K H (.str x) (.str x)
 |lst {a:Addr} {xs:List V} {ds:List DV}:SqL K H a xs->Deeps K H xs ds->Deep K H (.ref a) (.lst ds)
 |tup {a:Addr} {xs:List V} {ds:List DV}:SqT K H a xs->Deeps K H xs ds->Deep K H (.ref a) (.tup ds)
inductive Deeps(K:Frag)(H:Hp):List V->List DV->Prop where
 |nil:Deeps K H [] []
 |cons {x:V} {d:DV} {xs:List V} {ds:List DV}:Deep K H x d->Deeps K H xs ds->Deeps K H (x::xs) (d::ds)
end
mutual
def deq:DV->DV->Bool
 |.non,.non=>true
 |.bl a,.bl b=>a==b
 |.bl a,.int b=>(if a then 1 else 0)==b
 |.int a,.bl b=>a==(if b then 1 else 0)
 |.int a,.int b=>a==b
 |.str a,.str b=>a==b
 |.lst a,.lst b=>deqs a b
 |.tup a,.tup b=>deqs a b
 |_,_=>false
def deqs:List DV->List DV->Bool
 |[],[]=>true
 |a::r,b::s=>deq a b&&deqs r s
 |_,_=>false
end
mutual
def dep:DV->Nat
 |.lst a=>deps a+1
 |.tup a=>deps a+1
 |_=>0
def deps:List DV->Nat
 |[]=>0
 |a::r=>max (dep a) (deps r)
end
mutual
theorem nO:∀d:DV,deq d d=true
 |.non=>rfl
 |.bl b=>beq_self_eq_true b
 |.int i=>beq_self_eq_true i
 |.str x=>beq_self_eq_true x
 |.lst xs=>deqs_refl xs
 |.tup xs=>deqs_refl xs
theorem deqs_refl:∀ds:List DV,deqs ds ds=true
 |[]=>rfl
 |d::ds=>abL.mpr ⟨nO d,deqs_refl ds⟩
end
theorem Deeps.length{K:Frag}{H:Hp}{xs:List V}{ds:List DV}(h:Deeps K H xs ds):xs.length=ds.length:=
 Deeps.rec (motive_1:=λ_ _ _=>True) (motive_2:=λxs ds _=>xs.length=ds.length) trivial (λ_=>trivial) (λ_=>trivial) (λ_=>trivial) (λ_ _ _=>trivial) (λ_ _ _=>trivial) rfl (λ_ _ _ t=>congrArg (·+1) t) h
theorem Deeps.get{K:Frag}{H:Hp}:∀{xs:List V} {ds:List DV} {i:Nat} {x:V},Deeps K H xs ds->xs[i]?=some x->∃d,ds[i]?=some d/\Deep K H x d/\dep d<=deps ds
 |_,_,_,_,.nil,e=>by simp at e
 | _,_,0,_,.cons h _,e=>by
  simp at e;subst e;exact⟨_,rfl,h,by simp only[deps];nofun⟩
 | _,_,i+1,x,.cons h t,e=>by
  obtain⟨d,h1,h2,a⟩:=Deeps.get (i:=i) (x:=x) t (by exists e);exact⟨d,(by exists h1),h2,by simp only[deps];nofun⟩
theorem jm:∀{ds es:List DV},ds.length=es.length->(List.range ds.length).all (λj=>deq (ds.getD j .non) (es.getD j .non))=deqs ds es:=by
 intro ds
 induction ds with
 | nil=>intro es h;cases es with
  |nil=>rfl
  |cons _ _=>simp at h
 | cons d ds a=>
  intro es h
  cases es with
  |nil=>simp at h
  | cons e es=>
   have h':ds.length=es.length:=(by exists h);rw[abI,List.range_succ_eq_map,aaJ,List.all_map];exact congrArg (deq d e&&·) (a h')
theorem jQ:∀{ds es:List DV},ds.length≠es.length->deqs ds es=false
 |[],[],h=>absurd rfl h
 |[],_::_,_=>rfl
 |_::_,[],_=>rfl
 | d::ds,e::es,h=>by
  have h':ds.length≠es.length:=(by exists h);show (deq d e&&deqs ds es)=false;rw[jQ h',Bool.and_false]
theorem w8{ds es:List DV}:((List.range (min ds.length es.length)).all (λj=>deq (ds.getD j .non) (es.getD j .non))&&ds.length==es.length)=deqs ds es:=by
 by_cases h:ds.length=es.length
 ·rw[← jm h,← h,Nat.min_self];simp
 ·rw[jQ h];simp[h]
theorem Inv.seq_inj(I:Inv X pins σ H s){ys:List V}(h:SqL X.K H a xs)(h':SqT X.K H a ys):False:=by
 obtain⟨its,_,p,_⟩:=I.list h;obtain⟨its',_,f,_⟩:=I.tuple h';obtain⟨o,e,c,_⟩:=p.isList;obtain⟨o',b,d,_⟩:=f;rw[e] at b;cases b;rw[c] at d;injection d with z
 exact absurd z (by decide)
theorem Deep.inj(I:Inv X pins σ H s){x:V}{d e:DV}(h:Deep X.K H x d):Deep X.K H x e->d=e:=by
 refine Deep.rec (motive_1:=λx d _=>∀e,Deep X.K H x e->d=e) (motive_2:=λxs ds _=>∀es,Deeps X.K H xs es->ds=es) ?_ ?_ ?_ ?_ (λh _ t e h'=>?_) (λh _ t e h'=>?_) ?_ (λ_ _ h t e h'=>?_) h e
 ·intro e h';cases h';rfl
 ·intro _ e h';cases h';rfl
 ·intro _ e h';cases h';rfl
 ·intro _ e h';cases h';rfl
 ·cases h' with
  | lst h2 t'=>
   have e:=I.list_inj h h2;subst e;rw[t _ t']
  |tup h2 _=>exact (I.seq_inj h h2).elim
 ·cases h' with
  | tup h2 t'=>
   have e:=I.tuple_inj h h2;subst e;rw[t _ t']
  |lst h2 _=>exact (I.seq_inj h2 h).elim
 ·intro e h';cases h';rfl
 ·cases h' with|cons h2 a=>rw[h _ h2,t _ a]
theorem Deeps.inj(I:Inv X pins σ H s){xs:List V}{ds es:List DV}(h:Deeps X.K H xs ds):Deeps X.K H xs es->ds=es:=
 Deeps.rec (motive_1:=λ_ _ _=>True) (motive_2:=λxs ds _=>∀es,Deeps X.K H xs es->ds=es) trivial (λ_=>trivial) (λ_=>trivial) (λ_=>trivial) (λ_ _ _=>trivial) (λ_ _ _=>trivial) (λes h'=>by cases h';rfl) (λh _ _ t es h'=>by cases h' with|cons h2 a=>rw[h.inj I h2,t _ a]) h es
theorem kW(I:Inv X pins σ H s):∀(n:Nat) (d e:DV) (x y:V) (u v:Value) (A:Around),dep d<=n->A.units+n<cLine->Deep X.K H x d->Deep X.K H y e->RelV x u->RelV y v ->
  SeqAt.RcAt A s u v (deq d e)/\SeqAt.RcNeAt A s u v (!deq d e)/\SeqAt.EqAt A s u v (deq d e):=by
 intro n
 induction n with
 | zero=>
  intro d e x y u v A hd hu z r q f;have c:A.units<cLine:=by nofun
  cases z with
  |lst _ _=>simp only [dep] at hd;nofun
  |tup _ _=>simp only [dep] at hd;nofun
  | non=>
   cases q
   cases r with
   |non=>cases f;exact⟨SeqAt.RcAt.none_none,SeqAt.RcNeAt.none_none,SeqAt.EqAt.same _⟩
   |bl b=>cases f;exact⟨SeqAt.RcAt.none_bool b,SeqAt.RcNeAt.none_bool b,SeqAt.EqAt.none_bool b⟩
   |int b=>obtain⟨t,rfl⟩:=f;exact⟨SeqAt.RcAt.none_int b t,SeqAt.RcNeAt.none_int b t,SeqAt.EqAt.none_int b t⟩
   |str b=>obtain⟨t,rfl⟩:=f;exact⟨SeqAt.RcAt.none_str b t,SeqAt.RcNeAt.none_str b t,SeqAt.EqAt.none_str b t⟩
   |lst h _=>cases f;obtain⟨its,_,p,_⟩:=I.list h;exact⟨SeqAt.RcAt.none_list p.isList c,SeqAt.RcNeAt.none_list p.isList c,SeqAt.EqAt.none_list p.isList c⟩
   |tup h _=>cases f;obtain⟨its,_,p,_⟩:=I.tuple h;exact⟨SeqAt.RcAt.none_tuple p c,SeqAt.RcNeAt.none_tuple p c,SeqAt.EqAt.none_tuple p c⟩
  | bl a=>
   cases q
   cases r with
   |non=>cases f;exact⟨SeqAt.RcAt.bool_none a,SeqAt.RcNeAt.bool_none a,SeqAt.EqAt.bool_none a⟩
   |bl b=>cases f;exact⟨SeqAt.RcAt.bool_bool a b,SeqAt.RcNeAt.bool_bool a b,SeqAt.EqAt.bool_bool a b⟩
   |int b=>obtain⟨t,rfl⟩:=f;exact⟨SeqAt.RcAt.bool_int a b t,SeqAt.RcNeAt.bool_int a b t,SeqAt.EqAt.bool_int a b t⟩
   |str b=>obtain⟨t,rfl⟩:=f;exact⟨SeqAt.RcAt.bool_str a b t,SeqAt.RcNeAt.bool_str a b t,SeqAt.EqAt.bool_str a b t⟩
   |lst h _=>cases f;obtain⟨its,_,p,_⟩:=I.list h;exact⟨SeqAt.RcAt.bool_list a p.isList c,SeqAt.RcNeAt.bool_list a p.isList c,SeqAt.EqAt.bool_list a p.isList c⟩
   |tup h _=>cases f;obtain⟨its,_,p,_⟩:=I.tuple h;exact⟨SeqAt.RcAt.bool_tuple a p c,SeqAt.RcNeAt.bool_tuple a p c,SeqAt.EqAt.bool_tuple a p c⟩
  | int a=>
   obtain⟨t',rfl⟩:=q
   cases r with
   |non=>cases f;exact⟨SeqAt.RcAt.int_none a t',SeqAt.RcNeAt.int_none a t',SeqAt.EqAt.int_none a t'⟩
   |bl b=>cases f;exact⟨SeqAt.RcAt.int_bool a t' b,SeqAt.RcNeAt.int_bool a t' b,SeqAt.EqAt.int_bool a t' b⟩
   |int b=>obtain⟨t,rfl⟩:=f;exact⟨SeqAt.RcAt.int_int a t' b t,SeqAt.RcNeAt.int_int a t' b t,SeqAt.EqAt.int_int a t' b t⟩
   |str b=>obtain⟨t,rfl⟩:=f;exact⟨SeqAt.RcAt.int_str a t' b t,SeqAt.RcNeAt.int_str a t' b t,SeqAt.EqAt.int_str a t' b t⟩
   |lst h _=>cases f;obtain⟨its,_,p,_⟩:=I.list h;exact⟨SeqAt.RcAt.int_list a t' p.isList c,SeqAt.RcNeAt.int_list a t' p.isList c,SeqAt.EqAt.int_list a t' p.isList c⟩
   |tup h _=>cases f;obtain⟨its,_,p,_⟩:=I.tuple h;exact⟨SeqAt.RcAt.int_tuple a t' p c,SeqAt.RcNeAt.int_tuple a t' p c,SeqAt.EqAt.int_tuple a t' p c⟩
  | str a=>
   obtain⟨t',rfl⟩:=q
   cases r with
   |non=>cases f;exact⟨SeqAt.RcAt.str_none a t',SeqAt.RcNeAt.str_none a t',SeqAt.EqAt.str_none a t'⟩
   |bl b=>cases f;exact⟨SeqAt.RcAt.str_bool a t' b,SeqAt.RcNeAt.str_bool a t' b,SeqAt.EqAt.str_bool a t' b⟩
   |int b=>obtain⟨t,rfl⟩:=f;exact⟨SeqAt.RcAt.str_int a t' b t,SeqAt.RcNeAt.str_int a t' b t,SeqAt.EqAt.str_int a t' b t⟩
   |str b=>obtain⟨t,rfl⟩:=f;exact⟨SeqAt.RcAt.str_str a t' b t,SeqAt.RcNeAt.str_str a t' b t,SeqAt.EqAt.str_str a t' b t⟩
   |lst h _=>cases f;obtain⟨its,_,p,_⟩:=I.list h;exact⟨SeqAt.RcAt.str_list a t' p.isList c,SeqAt.RcNeAt.str_list a t' p.isList c,SeqAt.EqAt.str_list a t' p.isList c⟩
   |tup h _=>cases f;obtain⟨its,_,p,_⟩:=I.tuple h;exact⟨SeqAt.RcAt.str_tuple a t' p c,SeqAt.RcNeAt.str_tuple a t' p c,SeqAt.EqAt.str_tuple a t' p c⟩
 | succ n O=>
  intro d e x y u v A hd hu z r q f;have c:A.units<cLine:=by nofun
  have items:∀{xs ys:List V} {ds es:List DV} {us vs:List Value},Deeps X.K H xs ds->Deeps X.K H ys es->deps ds<=n->Vals xs us->Vals ys vs->∀j (h1:j<us.toArray.size) (h2:j<vs.toArray.size),SeqAt.EqAt A.in1 s us.toArray[j] vs.toArray[j] (deq (ds.getD j .non) (es.getD j .non)):=by
   intro xs ys ds es us vs E D hn o i j h1 h2;have G:j<us.length:=(by exists h1);have F:j<vs.length:=(by exists h2);have N:=o.length;have M:=i.length;have ex:xs[j]?=some (xs[j]'(by nofun)):=List.getElem?_eq_getElem (by nofun);have P:ys[j]?=some (ys[j]'(by nofun)):=List.getElem?_eq_getElem (by nofun);obtain⟨d1,w,S,b1⟩:=E.get ex;obtain⟨Z,Y,p2,b2⟩:=D.get P;obtain⟨L,f1,R⟩:=o.get ex;obtain⟨K,f2,Q⟩:=i.get P
   have g1:us.toArray[j]=L:=by
    have:us[j]?=some us[j]:=List.getElem?_eq_getElem G;rw[f1] at this;simpa using (aai this).symm
   have g2:vs.toArray[j]=K:=by
    have:vs[j]?=some vs[j]:=List.getElem?_eq_getElem F;rw[f2] at this;simpa using (aai this).symm
   rw[g1,g2,List.getD_eq_getElem?_getD,List.getD_eq_getElem?_getD,w,Y];exact(O d1 Z _ _ L K A.in1 (by nofun) (by show A.units+1+n<cLine;nofun) S p2 R Q).2.2
  by_cases B:dep d<=0
  ·exact O d e x y u v A (by nofun) (by nofun) z r q f
  cases z with
  |non=>simp only [dep] at B;nofun
  |bl _=>simp only [dep] at B;nofun
  |int _=>simp only [dep] at B;nofun
  |str _=>simp only [dep] at B;nofun
  | @lst a xs ds h t=>
   cases q;simp only[dep] at hd;obtain⟨its,o,p,W⟩:=I.list h
   cases r with
   |non=>cases f;exact⟨SeqAt.RcAt.list_none p.isList c,SeqAt.RcNeAt.list_none p.isList c,SeqAt.EqAt.list_none p.isList c⟩
   |bl b=>cases f;exact⟨SeqAt.RcAt.list_bool b p.isList c,SeqAt.RcNeAt.list_bool b p.isList c,SeqAt.EqAt.list_bool b p.isList c⟩
   |int b=>obtain⟨k,rfl⟩:=f;exact⟨SeqAt.RcAt.list_int b k p.isList c,SeqAt.RcNeAt.list_int b k p.isList c,SeqAt.EqAt.list_int b k p.isList c⟩
   |str b=>obtain⟨k,rfl⟩:=f;exact⟨SeqAt.RcAt.list_str b k p.isList c,SeqAt.RcNeAt.list_str b k p.isList c,SeqAt.EqAt.list_str b k p.isList c⟩
   | tup h' _=>
    cases f;obtain⟨its',_,l,_⟩:=I.tuple h';exact⟨SeqAt.RcAt.list_tuple p.isList l c,SeqAt.RcNeAt.list_tuple p.isList l c,SeqAt.EqAt.list_tuple p.isList l c⟩
   | @lst b ys es h' t'=>
    cases f;obtain⟨its',i,l,C⟩:=I.list h';have N:=o.length;have M:=i.length;have U:=t.length;have T:=t'.length
    have g:SeqAt.RcAt A s (.ref a) (.ref b) (deqs ds es)/\SeqAt.RcNeAt A s (.ref a) (.ref b) (!deqs ds es):=by
     by_cases hl:ds.length=es.length
     ·have w:(List.range its.toArray.size).all (λj=>deq (ds.getD j .non) (es.getD j .non))=deqs ds es:=by
       rw[← jm hl,show its.toArray.size=ds.length by simp;nofun]
      rw[← w];exact⟨SeqAt.RcAt.lists p.isList l.isList (by simp;nofun) c (items t t' (by nofun) o i),SeqAt.RcNeAt.lists p.isList l.isList (by simp;nofun) c (items t t' (by nofun) o i)⟩
     ·rw[jQ hl];exact⟨SeqAt.RcAt.lists_lengths p.isList l.isList (by simp;nofun) c,SeqAt.RcNeAt.lists_lengths p.isList l.isList (by simp;nofun) c⟩
    refine⟨g.1,g.2,?_⟩;show SeqAt.EqAt A s (.ref a) (.ref b) (deqs ds es);by_cases m:a=b
    ·subst m;have J:=I.list_inj h h';subst J;rw[Deeps.inj I t t',deqs_refl];exact SeqAt.EqAt.same _
    ·exact SeqAt.EqAt.of_refs m g.1
  | @tup a xs ds h t=>
   cases q;simp only[dep] at hd;obtain⟨its,o,p,W⟩:=I.tuple h
   cases r with
   |non=>cases f;exact⟨SeqAt.RcAt.tuple_none p c,SeqAt.RcNeAt.tuple_none p c,SeqAt.EqAt.tuple_none p c⟩
   |bl b=>cases f;exact⟨SeqAt.RcAt.tuple_bool b p c,SeqAt.RcNeAt.tuple_bool b p c,SeqAt.EqAt.tuple_bool b p c⟩
   |int b=>obtain⟨k,rfl⟩:=f;exact⟨SeqAt.RcAt.tuple_int b k p c,SeqAt.RcNeAt.tuple_int b k p c,SeqAt.EqAt.tuple_int b k p c⟩
   |str b=>obtain⟨k,rfl⟩:=f;exact⟨SeqAt.RcAt.tuple_str b k p c,SeqAt.RcNeAt.tuple_str b k p c,SeqAt.EqAt.tuple_str b k p c⟩
   | lst h' _=>
    cases f;obtain⟨its',_,l,_⟩:=I.list h';exact⟨SeqAt.RcAt.tuple_list p l.isList c,SeqAt.RcNeAt.tuple_list p l.isList c,SeqAt.EqAt.tuple_list p l.isList c⟩
   | @tup b ys es h' t'=>
    cases f;obtain⟨its',i,l,C⟩:=I.tuple h';have N:=o.length;have M:=i.length;have U:=t.length;have T:=t'.length
    have w:((List.range (min its.toArray.size its'.toArray.size)).all (λj=>deq (ds.getD j .non) (es.getD j .non))&&its.toArray.size==its'.toArray.size)=deqs ds es:=by
     rw[← w8,show its.toArray.size=ds.length by simp;nofun,show its'.toArray.size=es.length by simp;nofun]
    have g:SeqAt.RcAt A s (.ref a) (.ref b) (deqs ds es)/\SeqAt.RcNeAt A s (.ref a) (.ref b) (!deqs ds es):=by
     rw[← w];exact⟨SeqAt.RcAt.tuples p l c (items t t' (by nofun) o i),SeqAt.RcNeAt.tuples p l c (items t t' (by nofun) o i)⟩
    refine⟨g.1,g.2,?_⟩;show SeqAt.EqAt A s (.ref a) (.ref b) (deqs ds es);by_cases m:a=b
    ·subst m;have J:=I.tuple_inj h h';subst J;rw[Deeps.inj I t t',deqs_refl];exact SeqAt.EqAt.same _
    ·exact SeqAt.EqAt.of_refs m g.1
def MS(K:Frag):R2:=λx y H Q=>∃d e,Deep K H x d/\Deep K H y e/\dep d<=40/\Q (.bl (deq d e)) H
def MT(K:Frag):R2:=λx y H Q=>∃d e,Deep K H x d/\Deep K H y e/\dep d<=40/\Q (.bl (!deq d e)) H
theorem Hf(hu:X.A.units+64<cLine):OpR X (compareOp .Eq) (MS X.K):=by
 intro pins s σ H x y v u Q I b a h;obtain⟨d,e,hd,he,c,q⟩:=h;exact(kW I 40 d e x y v u X.A c (by nofun) hd he b a).1 _ _ _ _ ⟨.bl _,H,I,rfl,q⟩
theorem Hg(hu:X.A.units+64<cLine):OpR X (compareOp .NotEq) (MT X.K):=by
 intro pins s σ H x y v u Q I b a h;obtain⟨d,e,hd,he,c,q⟩:=h;exact(kW I 40 d e x y v u X.A c (by nofun) hd he b a).2.1 _ _ _ _ ⟨.bl _,H,I,rfl,q⟩
structure Own(P:Program)(w:World)(K:Frag)(mg:Str->Option Value)(base:Heap)(x:Str)(k:Nat)(ps:List Str)(sp:Sp):Prop where
 ex:∃(f:Addr) (fd:FuncData),FnOk P w K mg base CX0 k f fd ps sp/\mg x=some (.ref f)/\PySem.W.keepIn K (.ref f)=true/\Binds K fd ps []
def Glo(mg:Str->Option Value)(x:Str)(v:V):Prop:=∃u,mg x=some u/\RelV v u
theorem Hi{e:Expr}{es:List Expr}{t:TA}{p:Pos}(O:Own X.prog X.w X.K X.mg X.base x k ps sp)(hr:Room k X.A)(j:PA X (e::es) t)(g:autoParam (Gl X x) L2.aR._auto_1)
  (b:autoParam ((x==("__debug__" : Str))=false) L2.aD._auto_1) (he:autoParam (starEach (e::es) X.env=(false,eval e X.env)::starEach es X.env) L2.aR._auto_1) (a:autoParam ((backTo pos (starEach es X.env)).any (·.1)=false) L2.aR._auto_1) :
  PE X (.Call (.Name x p) (e::es) [] pos) (pK sp [] E0 t):=by
 obtain⟨f,fd,F,c,d,i⟩:=O.ex;exact Cf F hr g c d i .nil wU j b he a
theorem AE(h:Glo X.mg x v)(b:autoParam (Gl X x) L2.aR._auto_1)(hd:autoParam ((x==("__debug__" : Str))=false) L2.aD._auto_1):PE X (.Name x pos) (tC v):=by
 obtain⟨u,a,r⟩:=h;exact BB b a r hd
theorem LH{T:String}(c:X.mg x=none)(a:bootBuiltins x=some (.type T))(d:autoParam (Gl X x) L2.aR._auto_1)(b:autoParam (x ≠ "__name__") L2.aD._auto_1)(hd:autoParam ((x==("__debug__" : Str))=false) L2.aD._auto_1):PE X (.Name x pos) (tC (.ty T)):=
 BC d c a rfl b hd
def Hj(K:Frag):V->Option Int->Option Int->Hp->VK->Prop:=λx lo hi H Q=>MR x lo hi H Q∨MP K x lo hi H Q∨ML K x lo hi H Q
theorem AG:SlR X (Hj X.K):=He.or (Cq.or G1)
def Gk(K:Frag):List V->Hp->VK->Prop:=λxs H Q=>(∃z,xs=[.str z]/\z.length<=sizeLine/\Q (.int z.length) H)∨(∃p ys,xs=[.ref p]/\(SqL K H p ys∨SqT K H p ys)/\Q (.int ys.length) H)∨(∃a kvs,xs=[V.ref a]/\Rd H a (.dK kvs)/\Q (.int kvs.length) H)
theorem pR:CallR X (.builtin "len") (λxs H Q=>∃a kvs,xs=[V.ref a]/\Rd H a (.dK kvs)/\Q (.int kvs.length) H):=by
 intro pins s σ H xs us Q I r h;obtain⟨a,kvs,rfl,c,q⟩:=h;obtain⟨u,rfl,b⟩:=fE r;cases b;exact LB I c λt s' d=>⟨.int kvs.length,H,d,⟨t,rfl⟩,q⟩
theorem DGet.kR{kvs:List (Key×V)}{k:Key}(e:Rd H a (.dK kvs)):DGet H a (kV k) (gw kvs k):=.inl ⟨kvs,k,e,rfl,rfl⟩
theorem se:CallR X (.builtin "len") (Gk X.K):=kN.or (kM.or pR)
def LI:List V->Hp->VK->Prop:=λxs H Q=>∃i j,xs=[.int i,.int j]/\Q (.int (if j > i then j else i)) H
def LJ:List V->Hp->VK->Prop:=λxs H Q=>∃i j,xs=[.int i,.int j]/\Q (.int (if j<i then j else i)) H
theorem sg(a:X.calm=true):CallR X (.builtin "max") LI:=rC a
theorem sh(a:X.calm=true):CallR X (.builtin "min") LJ:=rD a
def KM(K:Frag):List V->Hp->VK->Prop:=λxs H Q=>∃(p:Addr) (bs:List Bool),xs=[.ref p]/\SqL K H p (bs.map V.bl)/\Q (.bl (bs.all id)) H
def KN(K:Frag):List V->Hp->VK->Prop:=λxs H Q=>∃(p:Addr) (bs:List Bool),xs=[.ref p]/\SqL K H p (bs.map V.bl)/\Q (.bl (bs.any id)) H
theorem si(a:X.calm=true):CallR X (.builtin "all") (KM X.K):=wX a
theorem sj(a:X.calm=true):CallR X (.builtin "any") (KN X.K):=wY a
def rInS:R2:=λx y H Q=>∃(c:Nat) (j:Str),x=.str ⟨#[c]⟩/\y=.str j/\Q (.bl (decide (c∈j.cps.toList))) H
def CD:R2:=λx y H Q=>∃(c:Nat) (j:Str),x=.str ⟨#[c]⟩/\y=.str j/\Q (.bl (!decide (c∈j.cps.toList))) H
def MU(K:Frag):R2:=λx y H Q=>rInS x y H Q∨rIn K false x y H Q
def sk(K:Frag):R2:=λx y H Q=>CD x y H Q∨rIn K true x y H Q
theorem Hk:OpR X (compareOp .In) (MU X.K):=OpR.or pP rN
theorem sn:OpR X (compareOp .NotIn) (sk X.K):=OpR.or jO kK
section
variable    {R:Bool->Hp->Prop} {QA:List V->Hp->Prop} {D:Ends} {K:Frag}
end
theorem bO{o:HO}(hp:H p=none):Same H (upd H p o):=λb u h=>by rw[ai (cw h hp)];exact h
theorem SqT.same{K:Frag}(h:SqT K H a xs)(e:Same H H'):SqT K H' a xs:=by
 rcases h with (h|⟨o,h⟩)|h
 ·exact .inl (.inl (e _ _ h))
 ·exact .inl (.inr ⟨o,e _ _ h⟩)
 ·exact .inr h
def CF(N:List Str)(names:List (Str×NameKind)):List Str->List Nat->Bool
 |[],[]=>true
 |x::F,i::ixs=>(N[i]?==some x)&&(names.lookup x==some .free)&&CF N names F ixs
 |_,_=>false
theorem nP{N:List Str}{names:List (Str×NameKind)}:∀{F:List Str} {ixs:List Nat},CF N names F ixs=true->ixs.length=F.length /\
  ∀(j i:Nat) (x:Str),ixs[j]?=some i->F[j]?=some x->N[i]?=some x/\names.lookup x=some .free
 |[],[],_=>⟨rfl,λj i x h=>by simp at h⟩
 |[],_::_,h=>(abF h).elim
 |_::_,[],h=>(abF h).elim
 | y::F,k::ixs,h=>by
  obtain⟨h,c⟩:=abL.mp h;obtain⟨h1,h2⟩:=abL.mp h;replace h1:=eq_of_beq h1;replace h2:=eq_of_beq h2;obtain⟨l,r⟩:=nP c;refine⟨by rw[abI,abI,l],λj i x a b=>?_⟩
  cases j with
  | zero=>
   simp at a b;subst a b;exact⟨h1,h2⟩
  |succ j=>exact r j i x (by exists a) (by exists b)
def MV(names out:List (Str×NameKind)):Bool:=names.all λy=>(y.2 != .cell)&&(y.2 != .local || names.lookup y.1==some .local)&&(y.2 != .free || out.lookup y.1==some .cell || out.lookup y.1==some .free)
theorem CompScope.of(kind:scope.kind=.function)(h1:CF X.N scope.names F ixs=true)(h2:MV scope.names X.env.scope.names=true):CompScope X T F ixs scope:=by
 obtain⟨l,c⟩:=nP h1;unfold MV at h2;rw[abV] at h2;refine⟨kind,λy a=>?_,λy a e=>?_,λj i x=>c j i x,l,λy a e=>?_⟩
 ·have:=h2 y a;simp only[Bool.and_eq_true] at this;simpa using this.1.1
 ·have:=h2 y a;simp only[Bool.and_eq_true] at this;have q:=this.1.2;rw[e] at q;simpa using q
 ·have:=h2 y a;simp only[Bool.and_eq_true] at this;have q:=this.2;rw[e] at q;simpa using q
def KO(K:Frag):R2:=λx y H Q=>rEq x y H Q∨MS K x y H Q
def KP(K:Frag):R2:=λx y H Q=>rNe x y H Q∨MT K x y H Q
theorem Hl(hu:X.A.units+64<cLine):OpR X (compareOp .Eq) (KO X.K):=Ln.or (Hf hu)
theorem Hm(hu:X.A.units+64<cLine):OpR X (compareOp .NotEq) (KP X.K):=Lo.or (Hg hu)
end L2
namespace L2
open PySem
variable{α:Type}
theorem AH{xs:List α}{i:Int}(b:0<=i)(h:i<xs.length):∃c,atI xs i=some c/\c∈xs:=by
 obtain⟨k,rfl⟩:=aaK b;have a:k<xs.length:=by nofun
 exact⟨xs[k],cn (List.getElem?_eq_getElem a),aaQ a⟩
theorem w9{xs:List α}{lo hi:Option Int}{c:α}(h:c∈eQ xs lo hi):c∈xs:=abe (aaR h)
theorem jR(xs:List α)(k:Nat):eQ xs none (some (k:Int))=xs.take k:=by
 unfold eQ;rw[HT.sIx_none,HT.sIx_nat,Nat.sub_zero,abg];by_cases h:k<=xs.length
 ·rw[Nat.min_eq_left h]
 ·rw[Nat.min_eq_right (by nofun),aah (aac _),aah (by nofun)]
theorem fI(xs:List α)(k:Nat):eQ xs (some (k:Int)) none=xs.drop k:=by
 unfold eQ;rw[HT.sIx_none,HT.sIx_nat];by_cases h:k<=xs.length
 ·rw[Nat.min_eq_left h,aah (by rw[abU];nofun)]
 ·rw[Nat.min_eq_right (by nofun),List.drop_of_length_le (aac _),List.drop_of_length_le (by nofun)];simp
theorem so{z:Str}{l:List Nat}(h:z.cps.toList=l):z.length=l.length:=by rw[← h];simp[Str.length]
end L2
namespace L2
open PySem PySem.Spec PyProof.Rows
variable{o tg l:Expr}{es:List Expr}{to tl:TE}{name:Str}{apos cpos:Pos}{T:String}{r:V->List V->Hp->VK->Prop}
section
variable {X:Cx}
theorem Hn(K:Frag)(hu:X.A.units+64<cLine)(h:autoParam (X.K=K) L2.aR._auto_1):OpR X (compareOp .Eq) (KO K):=by subst h;exact Hl hu
theorem Ho(K:Frag)(hu:X.A.units+64<cLine)(h:autoParam (X.K=K) L2.aR._auto_1):OpR X (compareOp .NotEq) (KP K):=by subst h;exact Hm hu
theorem CG(K:Frag)(h:autoParam (X.K=K) L2.aR._auto_1):SlR X (Hj K):=by subst h;exact AG
theorem sq(K:Frag)(h:autoParam (X.K=K) L2.aR._auto_1):CallR X (.builtin "len") (Gk K):=by subst h;exact se
theorem sr(K:Frag)(a:X.calm=true)(h:autoParam (X.K=K) L2.aR._auto_1):CallR X (.builtin "all") (KM K):=by subst h;exact si a
theorem su(K:Frag)(a:X.calm=true)(h:autoParam (X.K=K) L2.aR._auto_1):CallR X (.builtin "any") (KN K):=by subst h;exact sj a
theorem xa(K:Frag)(h:autoParam (X.K=K) L2.aR._auto_1):MtR X "str.join" (wZ K):=by subst h;exact CC
theorem Hq{e:Expr}{t:TA}{id:String}(K:Frag)(g:PlainAttrs T)(slot:Slot T name id)(f:typeOf (.builtin id)=pure (.type "method_descriptor"))(i:MtR X id r)(ho:PE X o to)(j:PA X (e::es) t)
  (k:autoParam (X.K=K) L2.aR._auto_1) (c:autoParam (attributeBase o name X.env (eval o X.env)=eval o X.env) L2.aR._auto_1)
  (d:autoParam (((backTo cpos (starEach (e::es) X.env)).all (λx=>!x.1)&&(backToKw cpos (keywordEach [] X.env)).all (λx=>x.1.isSome)
   && decide ((e::es).length+([]:List Keyword).length+(if ([]:List Keyword).isEmpty then 0 else 1)<30))=true) L2.aR._auto_1)
  (b:autoParam ((apos.endLine==cpos.line)=true) L2.aR._auto_1) (hs:autoParam (starEach (e::es) X.env=(false,eval e X.env)::starEach es X.env) L2.aR._auto_1) (a:autoParam ((backTo cpos (starEach es X.env)).any (·.1)=false) L2.aR._auto_1) :
  PE X (.Call (.Attribute o name apos) (e::es) [] cpos) (tBM K T r to t):=by subst k;exact Ly g slot f i ho j c d b hs a
theorem CH{id:String}(K:Frag)(d:PlainAttrs T)(slot:Slot T name id)(c:typeOf (.builtin id)=pure (.type "method_descriptor"))(e:MtR X id r)(ho:PE X o to)
  (f:autoParam (X.K=K) L2.aR._auto_1) (b:autoParam (attributeBase o name X.env (eval o X.env)=eval o X.env) L2.aR._auto_1) (a:autoParam ((apos.endLine==cpos.line)=true) L2.aR._auto_1):PE X (.Call (.Attribute o name apos) [] [] cpos) (Gi K T r to):=by subst f;exact G7 d slot c e ho b a
theorem CI{k:Nat}{t:TGs}{n:Nat}{pos:Pos}(K:Frag)(c:X.calm=true)(h:PGs X es t)(d:autoParam (X.K=K) L2.aR._auto_1)
  (b:autoParam ((assignEach es X.env).length=n) L2.aR._auto_1) (a:autoParam ((assignEach es X.env).findIdx? (·.1)=none) L2.aR._auto_1):PG X (.Tuple es k pos) (KE K n t):=by subst d;exact GI c h b a
theorem xb(K:Frag)(hl:PE X l tl)(a:autoParam (X.K=K) L2.aR._auto_1):PI X tg l (wv K tl):=by subst a;exact BX hl
theorem CJ(K:Frag)(hl:PE X l tl)(a:autoParam (X.K=K) L2.aR._auto_1):PI X tg l (KF K tl):=by subst a;exact GM hl
end
end L2
namespace L2
open PySem
end L2
namespace L2
theorem fJ{α:Type}:∀zs:List α,(zs.map λ_=>1).sum=zs.length
 |[]=>rfl
 |z::zs=>by rw[abC,List.sum_cons,fJ zs,abI];nofun
end L2
namespace L2
open PySem PySem.Spec PyProof.Rows
variable{e a b c o tg iter l:Expr}{es:List Expr}{env:Env}{pos p apos cpos:Pos}{X:Cx}{te ta tb to tl:TE}{t:TA}{x name:Str}{k i:Nat}{ps:List Str}{sp:Sp}{r:List V->Hp->VK->Prop}{T:String}{op op':CmpOp}{tc tA tB':TT}{r':R2}{trs:List (TE×TE)}{wi:TI}{g:TG}{st:Stmt}{u:TS}{body:List Stmt}
def a9:Expr->Bool
 |.Starred _ _=>false
 |_=>true
theorem aT(h:a9 e=true):starEach (e::es) env=(false,eval e env)::starEach es env:=by
 cases e <;> first|rfl|(cases h)
theorem cT(h:es.all a9=true):(backTo pos (starEach es env)).any (·.1)=false:=by
 induction es with
 |nil=>rfl
 | cons e es a=>
  rw[aaJ,abP] at h;rw[aT h.1];have:=a h.2;simpa [backTo] using this
theorem MW(b:PE X e te)(hr:PA X es t)(a:autoParam (a9 e=true) L2.aR._auto_1):PA X (e::es) (eP te t):=Cd b hr (aT a)
theorem CK(O:Own X.prog X.w X.K X.mg X.base x k ps sp)(hr:Room k X.A)(d:PA X (e::es) t)(c:autoParam (Gl X x) L2.aR._auto_1)(b:autoParam ((e::es).all a9=true) L2.aR._auto_1)
  (a:autoParam ((x==("__debug__" : Str))=false) L2.aD._auto_1):PE X (.Call (.Name x p) (e::es) [] pos) (pK sp [] E0 t):=by
 have h:=b;rw[aaJ,abP] at h;exact Hi O hr d c a (aT h.1) (cT h.2)
theorem sv{id:String}(i:CallR X (.builtin id) r)(f:X.mg x=none)(c:bootBuiltins x=some (.builtin id))(j:PA X (e::es) t)(g:autoParam (Gl X x) L2.aR._auto_1)(a:autoParam ((e::es).all a9=true) L2.aR._auto_1)(d:autoParam (x ≠ "__name__") L2.aD._auto_1)
  (b:autoParam ((x==("__debug__" : Str))=false) L2.aD._auto_1):PE X (.Call (.Name x p) (e::es) [] pos) (tCB r t):=by
 have h:=a;rw[aaJ,abP] at h;exact wD i g f c j d b (aT h.1) (cT h.2)
theorem sx(i:CallR X (.type T) r)(f:X.mg x=none)(c:bootBuiltins x=some (.type T))(j:PA X (e::es) t)(g:autoParam (Gl X x) L2.aR._auto_1)(a:autoParam ((e::es).all a9=true) L2.aR._auto_1)(d:autoParam (x ≠ "__name__") L2.aD._auto_1)
  (b:autoParam ((x==("__debug__" : Str))=false) L2.aD._auto_1):PE X (.Call (.Name x p) (e::es) [] pos) (tCB r t):=by
 have h:=a;rw[aaJ,abP] at h;exact rL i g f c j d b (aT h.1) (cT h.2)
structure BE(X:Cx)(e:Expr)(t:TE):Prop where h:PE X e t
structure BT(X:Cx)(e:Expr)(t:TT):Prop where h:PT X e t
structure BW(X:Cx)(e:Expr)(t:TT):Prop where h:PW X e t
structure BA(X:Cx)(es:List Expr)(t:TA):Prop where h:PA X es t
structure BS(X:Cx)(s:Stmt)(t:TS):Prop where h:PS X s t
structure BSs(X:Cx)(s:List Stmt)(t:TS):Prop where h:PSs X s t
structure BG(X:Cx)(e:Expr)(t:TG):Prop where h:PG X e t
structure BGs(X:Cx)(es:List Expr)(t:TGs):Prop where h:PGs X es t
structure BI(X:Cx)(tg e:Expr)(t:TI):Prop where h:PI X tg e t
structure BO(X:Cx)(e:Option Expr)(t:TO):Prop where h:PO X e t
structure BIf(X:Cx)(es:List Expr)(t:TT):Prop where h:Gj X es t
structure BPs(X:Cx)(pos:Pos)(ks:List (Option Expr))(vs:List Expr)(t:List (TE×TE)):Prop where h:PPs X pos ks vs t
structure BOp(X:Cx)(f:Value->Value->Sem Value)(r:R2):Prop where h:OpR X f r
structure BCall(X:Cx)(f:Value)(r:List V->Hp->VK->Prop):Prop where h:CallR X f r
structure BMt(X:Cx)(id:String)(r:V->List V->Hp->VK->Prop):Prop where h:MtR X id r
theorem AI(i:Nat)(c:X.N[i]?=some x)(b:Vis X.env.scope x)(hd:autoParam ((x==("__debug__" : Str))=false) L2.aD._auto_1)(a:autoParam ((x==("__classdict__" : Str))=false) L2.aD._auto_1):BE X (.Name x pos) (dD i):=⟨Gv c b hd a⟩
theorem we_vl(i:Nat)(c:autoParam (X.N[i]?=some x) L2.aR._auto_1)(b:autoParam (X.env.scope.names.lookup x=some .local) L2.aR._auto_1)(hd:autoParam ((x==("__debug__":Str))=false) L2.aD._auto_1)(a:autoParam ((x==("__classdict__":Str))=false) L2.aD._auto_1):BE X (.Name x pos) (dD i):=AI i c (.inl b) hd a
theorem AJ{i j pos}:BE X (.Constant (.int i) j pos) (tC (.int i)):=⟨Gw⟩
theorem LK{b j pos}:BE X (.Constant (.bool b) j pos) (tC (.bl b)):=⟨K4⟩
theorem Hr{j pos}:BE X (.Constant .none j pos) (tC .non):=⟨Gx⟩
theorem AK{x j pos}:BE X (.Constant (.str x) j pos) (tC (.str x)):=⟨Gy⟩
theorem Hs{v:V}(h:Glo X.mg x v)(a:X.env.kindOf x=some .globalImplicit)(hd:autoParam ((x==("__debug__" : Str))=false) L2.aD._auto_1):BE X (.Name x pos) (tC v):=⟨AE h a hd⟩
theorem LL(c:X.mg x=none)(a:bootBuiltins x=some (.type T))(d:X.env.kindOf x=some .globalImplicit)(b:autoParam (x ≠ "__name__") L2.aD._auto_1)(hd:autoParam ((x==("__debug__" : Str))=false) L2.aD._auto_1):BE X (.Name x pos) (tC (.ty T)):=⟨LH c a d b hd⟩
theorem LM{op:Operator}{r:R2}(ho:BOp X (binaryOp op) r)(d:BE X a ta)(c:BE X b tb):BE X (.BinOp a op b pos) (tOp r ta tb):=⟨Ll ho.h d.h c.h⟩
theorem AL(b:BE X a ta):BE X (.UnaryOp .USub a pos) (tUn (rU λi=>.int (-i)) ta):=⟨Lm GT b.h⟩
theorem Ht(b:BE X a ta):BE X (.UnaryOp .Not a pos) (BH ta):=⟨GG b.h⟩
theorem Hu{op}{t:TE}(h:BE X a t):BE X (.BoolOp op [a] pos) t:=⟨GD h.h⟩
theorem Hv{rest:List Expr}(d:BE X a ta)(c:BE X (.BoolOp .And (b::rest) pos) tb):BE X (.BoolOp .And (a::b::rest) pos) (BF ta tb):=⟨GE d.h c.h⟩
theorem LN{rest:List Expr}(d:BE X a ta)(c:BE X (.BoolOp .Or (b::rest) pos) tb):BE X (.BoolOp .Or (a::b::rest) pos) (K9 ta tb):=⟨La d.h c.h⟩
theorem Hw{r:R2}(ho:BOp X (compareOp op) r)(e:BE X a ta)(d:BE X b tb)(c:behindInMarks op b=false):BE X (.Compare a [op] [b] pos) (tOp r ta tb):=⟨B7 ho.h e.h d.h c⟩
theorem xc{tc:TE}{r:R2}(ho:BOp X (compareOp op) r)(d:BOp X (compareOp op') r')(i:BE X a ta)(g:BE X b tb)(f:BE X c tc)(e:lastMarks [op,op'] [b,c]=false):BE X (.Compare a [op,op'] [b,c] pos) (kE r r' ta tb tc):=⟨ww ho.h d.h i.h g.h f.h e⟩
theorem LO(d:BT X c tA)(f:BE X a ta)(e:BE X b tb):BE X (.IfExp c a b pos) (tIf tA ta tb):=⟨wl d.h f.h e.h⟩
theorem Hx(O:Own X.prog X.w X.K X.mg X.base x k ps sp)(hr:Room k X.A)(d:BA X (e::es) t)(c:X.env.kindOf x=some .globalImplicit)(b:(e::es).all a9=true)
  (a:autoParam ((x==("__debug__" : Str))=false) L2.aD._auto_1):BE X (.Call (.Name x p) (e::es) [] pos) (pK sp [] E0 t):=⟨CK O hr d.h c b a⟩
theorem xf{id:String}(i:BCall X (.builtin id) r)(f:X.mg x=none)(c:bootBuiltins x=some (.builtin id))(j:BA X (e::es) t)(g:X.env.kindOf x=some .globalImplicit)(a:(e::es).all a9=true)(d:autoParam (x ≠ "__name__") L2.aD._auto_1)
  (b:autoParam ((x==("__debug__" : Str))=false) L2.aD._auto_1):BE X (.Call (.Name x p) (e::es) [] pos) (tCB r t):=⟨sv i.h f c j.h g a d b⟩
theorem xg(i:BCall X (.type T) r)(f:X.mg x=none)(c:bootBuiltins x=some (.type T))(j:BA X (e::es) t)(g:X.env.kindOf x=some .globalImplicit)(a:(e::es).all a9=true)(d:autoParam (x ≠ "__name__") L2.aD._auto_1)
  (b:autoParam ((x==("__debug__" : Str))=false) L2.aD._auto_1):BE X (.Call (.Name x p) (e::es) [] pos) (tCB r t):=⟨sx i.h f c j.h g a d b⟩
theorem nQ(h:es.all a9=true)(hl:es.length<29):((backTo pos (starEach es env)).all (λx=>!x.1)&&(backToKw pos (keywordEach [] env)).all (λx=>x.1.isSome)
      && decide (es.length+([]:List Keyword).length+(if ([]:List Keyword).isEmpty then 0 else 1)<30))=true:=by
  have h1:(backTo pos (starEach es env)).all (λx=>!x.1)=true:=by
    clear hl
    induction es with
    |nil=>rfl
    | cons e es a=>
      rw[aaJ,abP] at h;rw[aT h.1];exact a h.2
  rw[h1];exact decide_eq_true (aaS hl)
theorem CL{id:String}{r:V->List V->Hp->VK->Prop}(K:Frag)(f:PlainAttrs T)(slot:Slot T name id)(c:typeOf (.builtin id)=pure (.type "method_descriptor"))(g:BMt X id r)(ho:BE X o to)(i:BA X (e::es) t)
  (j:X.K=K) (b:attributeBase o name X.env (eval o X.env)=eval o X.env) (d:(e::es).all a9=true) (hl:(e::es).length<29) (a:(apos.endLine==cpos.line)=true):BE X (.Call (.Attribute o name apos) (e::es) [] cpos) (tBM K T r to t):=by
 have h:=d;rw[aaJ,abP] at h;exact⟨Hq K f slot c g.h ho.h i.h j b (nQ d hl) a (aT h.1) (cT h.2)⟩
theorem xh{id:String}{r:V->List V->Hp->VK->Prop}(K:Frag)(d:PlainAttrs T)(slot:Slot T name id)(c:typeOf (.builtin id)=pure (.type "method_descriptor"))(e:BMt X id r)(ho:BE X o to)
  (f:X.K=K) (b:attributeBase o name X.env (eval o X.env)=eval o X.env) (a:(apos.endLine==cpos.line)=true):BE X (.Call (.Attribute o name apos) [] [] cpos) (Gi K T r to):=⟨CH K d slot c e.h ho.h f b a⟩
theorem xi{lo hi:Option Expr}{tl th:TO}{p2:Pos}(K:Frag)(he:BE X e te)(hl:BO X lo tl)(hu:BO X hi th)(a:X.K=K):BE X (.Subscript e (.Slice lo hi none p2) pos) (tSl (Hj K) te tl th):=⟨nG (CG K a) he.h hl.h hu.h⟩
theorem Hy(h:BA X es t):BE X (.List es pos) (KL t):=⟨G0 h.h⟩
theorem Hz{a}(h:BA X es t):BE X (.Tuple es a pos) (KJ t):=⟨GZ h.h⟩
theorem CM :BE X (.Dict [] [] pos) rS:=⟨wJ⟩
theorem sy{k:Option Expr}{keys:List (Option Expr)}{values:List Expr}(h:BPs X pos (k::keys) values trs)(a:(k::keys).all (·.isSome)=true)(hl:(k::keys).length=values.length)(b:(k::keys).length<=15):BE X (.Dict (k::keys) values pos) (wM trs):=⟨Cv h.h a hl (λz=>nomatch z) b⟩
theorem CN :BPs X pos [] [] []:=⟨Cu⟩
theorem xj{k v:Expr}{ks:List (Option Expr)}{vs:List Expr}{tk tv:TE}(b:BE X k tk)(a:BE X v tv)(hr:BPs X pos ks vs trs):BPs X pos (some k::ks) (v::vs) ((tk,tv)::trs):=⟨wL b.h a.h hr.h⟩
theorem CO{T F:List Str}{ixs:List Nat}{scope:Scope}{elt:Expr}{ifs:List Expr}(c:X.calm=true)(S:CompScope X T F ixs scope)(hi:BI X tg iter wi)
  (b:∀C s H fp,BG (bt X (T++F) scope (aB X.env scope.names []) C s H fp) tg g) (a:∀C s H fp,BIf (bt X (T++F) scope (aB X.env scope.names []) C s H fp) ifs tc) (he:∀C s H fp,BE (bt X (T++F) scope (aB X.env scope.names []) C s H fp) elt te)
  (hs:∀x,foldedSetIterable iter X.env x=pure x):BE X (.ListComp elt [⟨tg,iter,ifs,0⟩] scope pos) (gy T.length ixs wi g tc te):=
 ⟨CA c S hi.h (λC s H fp=>(b C s H fp).h) (λC s H fp=>(a C s H fp).h) (λC s H fp=>(he C s H fp).h) hs⟩
theorem HA:BA X [] kB:=⟨Az⟩
theorem wa_c(b:BE X e te)(hr:BA X es t)(a:a9 e=true):BA X (e::es) (eP te t):=⟨MW b.h hr.h a⟩
theorem CP:BO X none mr:=⟨Cj⟩
theorem CQ(h:BE X e te):BO X (some e) (Ci te):=⟨Ck h.h⟩
theorem CS:BIf X [] LF:=⟨Cw⟩
theorem CT{t:TT}(h:BT X c t):BIf X [c] t:=⟨Cy h.h⟩
theorem HB{r:R2}(ho:BOp X (compareOp op) r)(e:BE X a ta)(d:BE X b tb)(c:behindInMarks op b=false):BT X (.Compare a [op] [b] pos) (rB (tOp r ta tb)):=⟨B8 ho.h e.h d.h c⟩
theorem xk{tc:TE}{r:R2}(ho:BOp X (compareOp op) r)(d:BOp X (compareOp op') r')(i:BE X a ta)(g:BE X b tb)(f:BE X c tc)(e:lastMarks [op,op'] [b,c]=false):BT X (.Compare a [op,op'] [b,c] pos) (rB (kE r r' ta tb tc)):=⟨fB ho.h d.h i.h g.h f.h e⟩
theorem HC(b:BT X a tA):BT X (.UnaryOp .Not a pos) (K6 tA):=⟨GC b.h⟩
theorem wt_w{t:TT}(h:BW X e t):BT X e t:=⟨h.h.pt⟩
theorem CU(b:BT X a tA):BW X (.BoolOp .And [a] pos) tA:=⟨BD b.h⟩
theorem HD(b:BT X a tA):BW X (.BoolOp .Or [a] pos) tA:=⟨GA b.h⟩
theorem HE{rest:List Expr}(d:BT X a tA)(c:BW X (.BoolOp .And (b::rest) pos) tB'):BW X (.BoolOp .And (a::b::rest) pos) (K5 tA tB'):=⟨GB d.h c.h⟩
theorem LP{rest:List Expr}(d:BT X a tA)(c:BW X (.BoolOp .Or (b::rest) pos) tB'):BW X (.BoolOp .Or (a::b::rest) pos) (tOr tA tB'):=⟨K8 d.h c.h⟩
theorem CV{f:Expr}{as:List Expr}{ks:List Keyword}{t:TE}(h:BE X (.Call f as ks pos) t):BT X (.Call f as ks pos) (tB t):=⟨Gz h.h (by intro _;cases f <;> rfl)⟩
def LQ(K:Frag)(ta:TE):TT:=λσ H Q=>ta σ H λx H'=>∃k,KH K x H' k/\Q k H'
theorem CW{t:TE}(K:Frag)(h:BE X (.Name x pos) t)(a:X.K=K):BT X (.Name x pos) (LQ K t):=by subst a;exact⟨nE h.h (λ_=>rfl)⟩
theorem CY(b:X.N.Nodup)(hi:X.N[i]?=some x)(hx:Loc X.env.scope x)(a:X.fn x=true∨X.env.scope.names.lookup x=some .local):BG X (.Name x pos) (fU i):=⟨BR b hi hx a⟩
theorem CZ:BGs X [] Lg:=⟨BV⟩
theorem xl{t:TG}{u:TGs}(h1:BG X e t)(h2:BGs X es u)(hs:(assignEach (e::es) X.env).map (·.2)=assign e X.env::(assignEach es X.env).map (·.2)):BGs X (e::es) (BU t u):=⟨wt h1.h h2.h hs⟩
theorem HF{t:TGs}{n:Nat}(K:Frag)(c:X.calm=true)(h:BGs X es t)(d:X.K=K)(b:(assignEach es X.env).length=n)(a:(assignEach es X.env).findIdx? (·.1)=none):BG X (.Tuple es k pos) (KE K n t):=⟨CI K c h.h d b a⟩
theorem HG{i:Expr}{b:TE}(ho:BE X o to)(hi:BE X i b)
  (c:∀v,assign (.Subscript o i pos) X.env v=(do
   let ov ← holding [v] (eval o X.env)
   let a ← holding [v,ov] (eval i X.env)
   standAt pos
   holding [v,ov,a] (setItem ov a v)
   release [v,ov,a] [])):BG X (.Subscript o i pos) (Li to b Cp):=⟨GJ ho.h hi.h wG c⟩
theorem C5(K:Frag)(hl:BE X l tl)(a:X.K=K):BI X tg l (wv K tl):=⟨xb K hl.h a⟩
theorem HH(K:Frag)(hl:BE X l tl)(a:X.K=K):BI X tg l (KF K tl):=⟨CJ K hl.h a⟩
theorem HI(K:Frag)(hl:BE X l tl)(a:X.K=K):BI X tg l (LG tl):=⟨Hc hl.h⟩
theorem sA{ta:TA}(d:X.env.kindOf "range" = some .globalImplicit)(c:X.mg "range" = none)(e:BA X [a] ta)(b:a9 a=true):BI X tg (.Call (.Name "range" p) [a] [] pos) (BY ta):=⟨rj d c e.h (aT b)⟩
theorem sB{ta:TA}(f:X.env.kindOf "range" = some .globalImplicit)(e:X.mg "range" = none)(g:BA X [a,b] ta)(d:a9 a=true)(c:a9 b=true):BI X tg (.Call (.Name "range" p) [a,b] [] pos) (BZ ta):=
 ⟨rl f e g.h (by rw[aT d,aT c];rfl) (by rw[aT c];rfl)⟩
theorem C6:BSs X [] BJ:=⟨BK⟩
theorem C7{t:TS}(h:BS X st t):BSs X [st] t:=⟨BL h.h⟩
theorem xm{rest:List Stmt}{t:TS}(h1:BS X st t)(h2:BSs X rest u):BSs X (st::rest) (Lb t u):=⟨wm h1.h h2.h⟩
theorem xn :BS X (.Break pos) qZ:=⟨wn⟩
theorem mF :BS X (.Continue pos) BM:=⟨mm⟩
theorem C8(he:BE X e te)(hs:swapsWith e none pos.line X.env=pure false):BS X (.Expr e pos) (wo te):=⟨BN he.h hs⟩
theorem HJ(he:BE X e te):BS X (.Return (some e) pos) (Lc te):=⟨GH he.h⟩
theorem C9 :BS X (.Return none pos) BP:=⟨BQ⟩
theorem LR{a b:List Stmt}{t:TS}(d:BT X c tc)(f:BSs X a t)(e:BSs X b u):BS X (.If c a b pos) (Ld tc t u):=⟨Le d.h f.h e.h⟩
theorem HK{pos':Pos}(b:X.N.Nodup)(hi:X.N[i]?=some x)(hx:Loc X.env.scope x)(he:BE X e te)(hs:swapsWith e (some (.Name x pos')) pos.line X.env=pure false)(a:X.fn x=true∨X.env.scope.names.lookup x=some .local) :
  BS X (.Assign [.Name x pos'] e pos) (qU te (fU i)):=⟨GL b hi hx he.h hs a⟩
theorem HL(he:BE X e te)(a:BG X tg g)(hs:swapsWithSole [tg] e pos.line X.env=pure false)(hw:swappedStores [tg] e X.env=pure none)(h1:(assignEach [tg] X.env).map (·.2)=[assign tg X.env]):BS X (.Assign [tg] e pos) (qU te g):=⟨GK he.h a.h hs hw h1⟩
theorem HM{tb:TS}(hp:PassesOwn (model X.prog X.w) X.A X.env X.xe)(b:X.calm=true)(hi:BI X tg iter wi)(a:BG X tg g)(c:BSs X body tb)(hs:∀x,foldedSetIterable iter X.env x=pure x):BS X (.For tg iter body [] pos) (Lj wi g tb):=⟨GN hp b hi.h a.h c.h hs⟩
theorem xo{tb:TS}(hp:PassesOwn (model X.prog X.w) X.A X.env X.xe)(a:BT X c tc)(b:BSs X body tb):BS X (.While c body [] pos) (re tc tb):=⟨wu hp a.h b.h⟩
theorem Da:BOp X (binaryOp .Sub) (rI0 λi j=>.int (i - j)):=⟨GP⟩
theorem Dc:BOp X (binaryOp .Mult) (rI CMul λi j=>.int (i*j)):=⟨GQ⟩
theorem xp:BOp X (binaryOp .FloorDiv) (rI Gf λi j=>.int (i / j)):=⟨B5⟩
theorem Dd:BOp X (binaryOp .Mod) (rI (λ_ j=>0<j) λi j=>.int (i % j)):=⟨GR⟩
theorem De:BOp X (binaryOp .Pow) (rI Gg λi j=>.int (i ^ j.toNat)):=⟨GS⟩
theorem HN(K:Frag)(hu:X.A.units+64<cLine)(h:X.K=K):BOp X (compareOp .Eq) (KO K):=⟨Hn K hu h⟩
theorem HP(K:Frag)(hu:X.A.units+64<cLine)(h:X.K=K):BOp X (compareOp .NotEq) (KP K):=⟨Ho K hu h⟩
def MX:R2:=λx y H Q=>y=.non/\Q (.bl (decide (x=.non))) H
def HQ:R2:=λx y H Q=>y=.non/\Q (.bl (!decide (x=.non))) H
theorem Dg:BOp X (compareOp .Is) MX:=⟨GU⟩
theorem xq:BOp X (compareOp .IsNot) HQ:=⟨B6⟩
theorem HR(K:Frag)(h:X.K=K):BCall X (.builtin "len") (Gk K):=⟨sq K h⟩
theorem HS(a:X.calm=true):BCall X (.builtin "max") LI:=⟨sg a⟩
theorem HU(a:X.calm=true):BCall X (.builtin "min") LJ:=⟨sh a⟩
theorem HV(K:Frag)(a:X.calm=true)(h:X.K=K):BCall X (.builtin "all") (KM K):=⟨sr K a h⟩
theorem HW(K:Frag)(a:X.calm=true)(h:X.K=K):BCall X (.builtin "any") (KN K):=⟨su K a h⟩
theorem Dh(K:Frag)(h:X.K=K):BMt X "str.join" (wZ K):=⟨xa K h⟩
theorem sC(K:Frag)(h:X.K=K):BMt X "list.append" dO:=⟨kP⟩
theorem Fun.okB{P:Program}{w:World}{K:Frag}{mg:Str->Option Value}{base:Heap}{qual:Str}{f:Addr}{fd:FuncData}{N:List Str}(F:Fun K x qual st f fd)(S:FnScope N ps (am st))(len:∀vs H Q E,sp vs H Q E->vs.length=ps.length)
  (a:∀(cdv:Value) (A:Around) (outer:List Env) (s:Shared) (H:Hp) (vs:List V) (Q:VK) (E:XK),Room k (A.deeper (envOfC qual (am st) s.heap.objs.size f cdv))->sp vs H Q E ->
   ∃t,BSs (rJ CX0 P w K mg base N qual (am st) f cdv A outer s H E).nox (bw st) t/\t { nx:=λ_ H'=>Q .non H',rt:=Q } (start N vs) H):FnOk P w K mg base CX0 (k+1) f fd ps sp:=
 F.ok S len λcdv A outer s H vs Q E hr h=>by
  obtain⟨t,h1,h2⟩:=a cdv A outer s H vs Q E hr h;exact⟨t,h1.h,h2⟩
end L2
namespace L2
open PySem
end L2
set_option maxHeartbeats 4000000
namespace KS
open PySem PySem.Spec PyProof.Rows
variable{xs:Array Nat}{i n ep c slot g:Nat}{prog:Program}{w:World}{K α:Type}{A A':Around}{E Q:Value->Shared->Prop}{s:Shared}{I a pl:Addr}{o op:Obj}{es:Array (Int×Value)}{x:Value}{pls:Array Value}{Q':Option (Value×Nat)->Shared->Prop}{h':Heap}
def Ris(xs:Array Nat):Prop:=xs.toList.Pairwise (·<·)
theorem Ris.lt(h:Ris xs){j d:Nat}(a:i<j)(b:j<xs.size):xs.getD i d<xs.getD j d:=by
 have hi:i<xs.size:=Nat.lt_trans a b;have q:=abW.mp h i j (by exists hi) (by exists b) a;rw[Array.getD_eq_getD_getElem?,Array.getD_eq_getD_getElem?,Array.getElem?_eq_getElem hi,Array.getElem?_eq_getElem b];simpa using q
theorem jS{xs:Array Nat}{j:Nat}(h:Ris xs):∀(f lo hi:Nat),lo<=hi->hi<=xs.size->hi - lo<=f->(∀k,k<lo->xs.getD k j<j)->(∀k,hi<=k->k<xs.size->j<=xs.getD k j) ->
  SetTable.below.go xs j f lo hi<=xs.size/\(∀k,k<SetTable.below.go xs j f lo hi->xs.getD k j<j)/\∀k,SetTable.below.go xs j f lo hi<=k->k<xs.size->j<=xs.getD k j
 | 0,lo,hi,a,b,c,p,q=>by
  have e:hi=lo:=by nofun
  subst e;exact⟨b,p,q⟩
 | f+1,lo,hi,a,b,c,p,q=>by
  have n:SetTable.below.go xs j (f+1) lo hi=if lo<hi then (if xs.getD ((lo+hi) / 2) j<j then SetTable.below.go xs j f ((lo+hi) / 2+1) hi else SetTable.below.go xs j f lo ((lo+hi) / 2)) else lo:=rfl;rw[n];by_cases g:lo<hi
  ·rw[if_pos g];have o:(lo+hi) / 2<hi:=by nofun
   by_cases l:xs.getD ((lo+hi) / 2) j<j
   ·rw[if_pos l];refine jS h f _ hi (by nofun) b (by nofun) (λk m=>?_) q;by_cases e:k=(lo+hi) / 2
    ·rw[e];exact l
    ·exact Nat.lt_trans (h.lt (i:=k) (j:=(lo+hi) / 2) (by nofun) (by nofun)) l
   ·rw[if_neg l];refine jS h f lo _ (by nofun) (by nofun) (by nofun) p λk m hs=>?_;by_cases e:k=(lo+hi) / 2
    ·rw[e];nofun
    ·have:=h.lt (i:=(lo+hi) / 2) (j:=k) (d:=j) (by nofun) hs;nofun
  ·rw[if_neg g];have e:hi=lo:=by nofun
   subst e;exact⟨b,p,q⟩
theorem jn(h:Ris xs)(j:Nat):SetTable.below xs j<=xs.size/\(∀k,k<SetTable.below xs j->xs.getD k j<j)/\∀k,SetTable.below xs j<=k->k<xs.size->j<=xs.getD k j:=
 jS h _ _ _ (aan _) (aac _) (by nofun) (λk a=>absurd a (Nat.not_lt_zero _)) λk a hs=>absurd hs (by nofun)
theorem pT(h:Ris xs):SetTable.below xs 0=0:=by
 obtain⟨_,b,_⟩:=jn h 0;by_cases e:SetTable.below xs 0=0
 ·exact e
 ·exact absurd (b 0 (by nofun)) (Nat.not_lt_zero _)
theorem pU(h:Ris xs){p:Nat}(e:xs[i]?=some p):SetTable.below xs (p+1)=i+1:=by
 obtain⟨hi,ep⟩:=Array.getElem?_eq_some_iff.mp e;obtain⟨a,b,c⟩:=jn h (p+1);have g:∀d,xs.getD i d=p:=λd=>by rw[Array.getD_eq_getD_getElem?,e];rfl
 by_cases l:SetTable.below xs (p+1)<=i
 ·have:=c i l hi;rw[g] at this;nofun
 ·by_cases r:SetTable.below xs (p+1)=i+1
  ·exact r
  ·have h1:=b (i+1) (by nofun);have h2:=h.lt (i:=i) (j:=i+1) (d:=p+1) (by nofun) (by nofun);rw[g] at h2;nofun
def NotIn(xs:Array Nat)(j:Nat):Prop:=xs[SetTable.below xs j]?≠some j
section
variable    [DecidableEq K] (knd:KeyKind prog w K)
def SetZ(h:Heap)(a:Addr)(σ:List K)(L:Bool):Prop:=
 ∃o es ep t,h.get? a=some o/\o.ExactSet/\o.data=.set es ep t/\ElemsOf knd es.toList/\(∀k,k∈σ↔∃e∈es.toList,knd.is k e.2=true)/\es.size<scanBound/\t.fits es.size=true/\es.size=σ.length/\σ.Nodup/\t.led=L/\(t.plain=true->Ris t.place)
def dedup1(σ:List K)(k:K):List K:=if k∈σ then σ else σ++[k]
variable {knd}   
theorem nodup_snoc{σ:List K}{k:K}(h:σ.Nodup)(c:k∉σ):(σ++[k]).Nodup:=by
 rw[abN];refine⟨h,by simp,λx b y a e=>?_⟩;have a:y=k:=(by exists a);rw[e,a] at b;exact c b
end
abbrev byText(w:World):Bool:=w.params.followText "set-order"
section
variable    [DecidableEq K] {knd:KeyKind prog w K}   
end
theorem iV:entryFor table "set.__iter__" = some Builtin.«frozenset.__iter__»:=entryFor_alias (id' := "frozenset.__iter__") (by kernel_rfl) rfl (by decide +kernel) (by kernel_rfl)
theorem jT(a:Value):argsOk "set.__iter__" ⟨[a],[]⟩:=by unfold argsOk;kernel_rfl
theorem eT:Slot "set_iterator" "__iter__" "set_iterator.__iter__":=
 .of (owner := "set_iterator") (n := "__iter__") (by rw[typeLookup_type,builtinLookup_eq_fast];kernel_rfl) (by decide +kernel) (by decide +kernel) (by decide +kernel)
  (by first|exact .inl (by decide +kernel)|exact .inr (by decide +kernel)) (by rw[isSubtype_type];kernel_rfl)
theorem aA:Slot "set_iterator" "__next__" "set_iterator.__next__":=
 .of (owner := "set_iterator") (n := "__next__") (by rw[typeLookup_type,builtinLookup_eq_fast];kernel_rfl) (by decide +kernel) (by decide +kernel) (by decide +kernel)
  (by first|exact .inl (by decide +kernel)|exact .inr (by decide +kernel)) (by rw[isSubtype_type];kernel_rfl)
theorem gZ:entryFor table "set_iterator.__iter__" = some Builtin.«dict_keyiterator.__iter__»:=entryFor_alias (id' := "dict_keyiterator.__iter__") (by kernel_rfl) rfl (by decide +kernel) (by kernel_rfl)
theorem bV:entryFor table "set_iterator.__next__" = some Builtin.«set_iterator.__next__»:=entryFor_of_fast (by kernel_rfl)
theorem iW(a:Value):argsOk "set_iterator.__iter__" ⟨[a],[]⟩:=by unfold argsOk;kernel_rfl
theorem ce(a:Value):argsOk "set_iterator.__next__" ⟨[a],[]⟩:=by unfold argsOk;kernel_rfl
theorem fX{α:Type}:∀(l:List α) (i:Nat) (h:i<l.length),(l[i]::l.eraseIdx i).Perm l
 |[],_,h=>by simp at h
 |x::l,0,_=>.refl _
 | x::l,i+1,h=>by
  have h':i<l.length:=(by exists h);show (l[i]::x::l.eraseIdx i).Perm (x::l);exact(List.Perm.swap x l[i] _).trans (List.Perm.cons x (fX l i h'))
theorem kX{k:Nat->Sem α}{Q:α->Shared->Prop}{M:Model}(b:n≠0)(h:∀i d',i<n->wpAny M A (k i) Q E { s with drawn:=d' }):wpAny M A (choose .order n >>= k) Q E s:=by
 intro c p a;refine⟨b,h _ _ (Nat.mod_lt _ (Nat.pos_of_ne_zero b)) c p a⟩
theorem jo{α:Type}{M:Model}:∀(n:Nat) (xs:List α) (s:Shared) (Q:List α->Shared->Prop),xs.length=n->(∀ys d',ys.Perm xs->Q ys { s with drawn:=d' })->wpAny M A (drawOrder n xs) Q E s
 | 0,xs,s,Q,hl,h=>by
  have e:xs=[]:=aaz hl;subst e;exact aaf (h [] s.drawn (.refl _))
 |n+1,[],s,Q,hl,h=>by simp at hl
 | n+1,x::xs,s,Q,hl,h=>by
  refine kX (by simp) λi b hi=>?_;have a:(x::xs)[i]?=some (x::xs)[i]:=List.getElem?_eq_getElem hi;rw[a];dsimp only;refine aaa (jo n ((x::xs).eraseIdx i) _ _ (by rw[List.length_eraseIdx_of_lt hi];simpa using hl) λys d' hp=>aaf (h _ d' ?_));exact(List.Perm.cons _ hp).trans (fX _ i hi)
section
abbrev cP(first:Value)(i:Nat)(x:Value)(n ep:Nat):Obj:={ cls:=.type "set_iterator", dict:=none,data:=.fields #[first,.int (i:Int) 0,x,.int (n:Int) 0,.int (ep:Int) 0],slots:=#[] }
theorem sD{I:Addr}{Q:Option Value->Shared->Prop}(hh:A.handled=none)(c:∀h',(∀b o,s.heap.get? b=some o->h'.get? b=some o)->Q none { s with heap:=h' }){QQ:PySem.Fin->Shared->Prop} :
  wpAny (model prog w) A.in1 (do let e ← newExc (.type "StopIteration") [];raiseNew e:Sem PySem.Fin) QQ (λe s'=>wpAny (model prog w) A (do if (← isInstance e (.type "StopIteration"))=true then pure none else throw e) Q E s') s:=by
 refine aaa ?_;simp only[newExc,newTuple];refine aaa (aaF ?_ (by size_fits));refine aaa (m:=firstArgMember _ _) (wpAny_of_eq (a:=Value.none) (by first|rfl|(simp only[firstArgMember];rfl)) ?_);refine aaF ?_ (by size_fits);simp only[raiseNew];refine aaa (wpAny_handled ?_);rw[show A.in1.handled=none from hh];refine aaa (aaf (wpAny_throw ?_));refine aaa (wpAny_isInstance (T := "StopIteration") (b:=true) ⟨_,Heap.get?_push_size _ rfl,rfl⟩ isSubtype_stop ?_);exact aaf (c _ λb o e=>Heap.get?_push_of_some _ (Heap.get?_push_of_some _ e))
variable    {f:Nat} {t:SetTable} {Q:Option Value->Shared->Prop}
theorem nR{nx:Nat}(ho:s.heap.get? I=some (cP (.int (f:Int) 0) i (.ref a) n ep))(e:s.heap.get? a=some o)(hd:o.data=.set es ep t)(d:t.fits es.size=true)(c:n=es.size)
  (hs:∀(j:Value->Shared->Prop) (Q':Option (Value×Nat)->Shared->Prop),Q' (some (x,nx)) s->wpAny (model prog w) A.in1 (setNext a f i ep) Q' j s)
  (g:∀h',h'.get? I=some (cP (.int (nx:Int) 0) (i+1) (.ref a) n ep)->Heap.SameBut I s.heap h'->Q (some x) { s with heap:=h' }):wpAny (model prog w) A (pyNext (.ref I)) Q E s:=by
 have b:s.TypeIs (.ref I) "set_iterator" := ⟨_,ho,rfl⟩;subst c;unfold pyNext;refine aaa (abw (wpAny_callSpecial?_slot (name:=Str.ofString "__next__") b aA (aay aA b bV ?_ (ce _))));unfold Builtin.«set_iterator.__next__»;refine aaa (m:=slotArgs "__next__" 0 _) (aaf ?_)
 try dsimp only
 refine aaa (wpAny_fieldsOf ho rfl ?_)
 try dsimp only
 refine aaa (abh e hd d ?_);rw[if_neg (by simp)]
 try dsimp only
 simp only[Int.toNat_natCast];refine aaa (hs _ _ ?_)
 try dsimp only
 refine aaa (aa5 ho (by simp) λh1 g1 b1=>?_);refine aaa (aa5 (s:={ s with heap:=h1 }) g1 (by simp) λh2 g2 b2=>?_);refine aaf ⟨x,rfl,aaf (g h2 ?_ (b1.trans b2))⟩;rw[g2];rfl
theorem nS(hh:A.handled=none)(ho:s.heap.get? I=some (cP (.int (f:Int) 0) i (.ref a) n ep))(l:s.heap.get? a=some o)(hd:o.data=.set es ep t)(g:t.fits es.size=true)(d:n=es.size)
  (hs:∀(q:Value->Shared->Prop) (Q':Option (Value×Nat)->Shared->Prop),Q' none s->wpAny (model prog w) A.in1 (setNext a f i ep) Q' q s)
  (p:∀h',(∀b ob,b≠I->s.heap.get? b=some ob->h'.get? b=some ob)->Q none { s with heap:=h' }):wpAny (model prog w) A (pyNext (.ref I)) Q E s:=by
 have c:s.TypeIs (.ref I) "set_iterator" := ⟨_,ho,rfl⟩;subst d;unfold pyNext;refine aaa (abw (wpAny_callSpecial?_slot (name:=Str.ofString "__next__") c aA (aay aA c bV ?_ (ce _))));unfold Builtin.«set_iterator.__next__»;refine aaa (m:=slotArgs "__next__" 0 _) (aaf ?_)
 try dsimp only
 refine aaa (wpAny_fieldsOf ho rfl ?_)
 try dsimp only
 refine aaa (abh l hd g ?_);rw[if_neg (by simp)]
 try dsimp only
 simp only[Int.toNat_natCast];refine aaa (hs _ _ ?_)
 try dsimp only
 refine aaa (aa5 ho (by simp) λh1 g1 b1=>?_);exact sD (s:={ s with heap:=h1 }) (I:=I) hh λh' k=>p h' λb ob j e=>k b ob ((b1.2 b j).trans e)
theorem pV{hx:Int}{place:Nat}(ho:s.heap.get? I=some (cP (.ref pl) i (.ref a) n ep))(g:s.heap.get? a=some o)(hd:o.data=.set es ep t)(f:t.fits es.size=true)(k:n=es.size)
  (hp:s.heap.get? pl=some op) (e:op.data=.seq pls c) (d:pls[i]?=some (.int (place:Int) 0)) (b:es[place]?=some (hx,x))
  (l:∀h',h'.get? I=some (cP (.ref pl) (i+1) (.ref a) n ep)->Heap.SameBut I s.heap h'->Q (some x) { s with heap:=h' }):wpAny (model prog w) A (pyNext (.ref I)) Q E s:=by
 have j:s.TypeIs (.ref I) "set_iterator" := ⟨_,ho,rfl⟩;subst k;unfold pyNext;refine aaa (abw (wpAny_callSpecial?_slot (name:=Str.ofString "__next__") j aA (aay aA j bV ?_ (ce _))));unfold Builtin.«set_iterator.__next__»;refine aaa (m:=slotArgs "__next__" 0 _) (aaf ?_)
 try dsimp only
 refine aaa (wpAny_fieldsOf ho rfl ?_)
 try dsimp only
 refine aaa (abh g hd f ?_);rw[if_neg (by simp)]
 try dsimp only
 simp only[Int.toNat_natCast];refine aaa (m:=seqItems? _) ?_;unfold seqItems?;refine aaa (wpAny_load hp ?_);rw[e];refine aaf ?_;dsimp only;rw[d];dsimp only;simp only[Int.toNat_natCast];refine aaa (m:=setNextDrawn _ _ _) ?_;unfold setNextDrawn;refine aaa (abm g hd f ?_);dsimp only;simp only[bne_self_eq_false,Bool.false_eq_true,if_false];rw[b];refine aaf ?_;refine aaa (aa5 ho (by simp) λh1 g1 b1=>?_);refine aaf ⟨x,rfl,aaf (l h1 ?_ b1)⟩;rw[g1];rfl
theorem pW(hh:A.handled=none)(ho:s.heap.get? I=some (cP (.ref pl) i (.ref a) n ep))(q:s.heap.get? a=some o)(hd:o.data=.set es ep t)(p:t.fits es.size=true)(l:n=es.size)
  (hp:s.heap.get? pl=some op) (f:op.data=.seq pls c) (d:pls[i]?=none)
  (r:∀h',(∀b ob,b≠I->s.heap.get? b=some ob->h'.get? b=some ob)->Q none { s with heap:=h' }):wpAny (model prog w) A (pyNext (.ref I)) Q E s:=by
 have j:s.TypeIs (.ref I) "set_iterator" := ⟨_,ho,rfl⟩;subst l;unfold pyNext;refine aaa (abw (wpAny_callSpecial?_slot (name:=Str.ofString "__next__") j aA (aay aA j bV ?_ (ce _))));unfold Builtin.«set_iterator.__next__»;refine aaa (m:=slotArgs "__next__" 0 _) (aaf ?_)
 try dsimp only
 refine aaa (wpAny_fieldsOf ho rfl ?_)
 try dsimp only
 refine aaa (abh q hd p ?_);rw[if_neg (by simp)]
 try dsimp only
 simp only[Int.toNat_natCast];refine aaa (m:=seqItems? _) ?_;unfold seqItems?;refine aaa (wpAny_load hp ?_);rw[f];refine aaf ?_;dsimp only;rw[d];dsimp only;refine aaa (aa5 ho (by simp) λh1 g1 b1=>?_);refine aaa (aa5 (s:={ s with heap:=h1 }) g1 (by simp) λh2 g2 b2=>?_);exact sD (s:={ s with heap:=h2 }) (I:=I) hh λh' k=>r h' λb ob g e=>k b ob ((b2.2 b g).trans ((b1.2 b g).trans e))
theorem gn{r:Option (Value×Nat)}(b:byText w=true)(d:s.heap.get? a=some o)(hd:o.data=.set es ep t)(c:t.fits es.size=true)
  (hr:((pickOrder (w.params.setOrder a ep) es)[g]?).map (λe=>(e.2,slot))=r) (h:Q' r s):wpAny (model prog w) A' (setNext a slot g ep) Q' E s:=by
 unfold setNext;refine aaa (abm d hd c ?_);dsimp only;unfold setsByText;refine aaa (aaa (abt (aaf ?_)));rw[show (model prog w).w.params.followText "set-order" = true from b];simp only[bne_self_eq_false,Bool.false_eq_true,if_false,if_true];refine aaa (m:=setWalk a) ?_;unfold setWalk;refine aaa (abm d hd c ?_);dsimp only;unfold setsByText;refine aaa (aaa (abt (aaf ?_)));rw[show (model prog w).w.params.followText "set-order" = true from b];simp only[if_true];refine aaa (abt (aaf ?_));refine aaf ?_;rw[← hr] at h;exact h
theorem g0(d:byText w=false)(f:s.heap.get? a=some o)(hd:o.data=.set es ep t)(e:t.fits es.size=true)(c:(!t.plain&&decide (es.size > 1))=false)(b:t.led=true)
  (h:Q' (match es[SetTable.below t.place slot]?,t.place[SetTable.below t.place slot]? with|some (_,x),some j=>some (x,j+1)|_,_=>none) s):wpAny (model prog w) A' (setNext a slot g ep) Q' E s:=by
 unfold setNext;refine aaa (abm f hd e ?_);dsimp only;unfold setsByText;refine aaa (aaa (abt (aaf ?_)));rw[show (model prog w).w.params.followText "set-order" = false from d];simp only[Bool.false_eq_true,if_false];show wpAny _ _ (if (!t.plain&&decide (es.size > 1))=true then _ else _) _ _ _;rw[c];simp only[Bool.false_eq_true,if_false];refine aaa ?_;show wpAny _ _ (if (!t.led&&!es.isEmpty)=true then _ else _) _ _ _;rw[b];simp only[Bool.not_true,Bool.false_and,Bool.false_eq_true,if_false];exact aaf (aaf h)
end
theorem sE{α:Type}(next:Nat->Nat):∀(a k:Nat) (left:List α) (out:Array α),left.length<=a->(pickOrder.go next a k left out).toList.Perm (out.toList++left)
 | 0,k,left,out,h=>by
  have e:left=[]:=aaz (by nofun);subst e;show out.toList.Perm (out.toList++[]);rw[aao]
 | a+1,k,[],out,_=>by
  show out.toList.Perm (out.toList++[]);rw[aao]
 | a+1,k,x::left,out,h=>by
  show (match (x::left)[next k % (x::left).length]? with
   |some y=>pickOrder.go next a (k+1) ((x::left).eraseIdx (next k % (x::left).length)) (out.push y)
   |none=>out).toList.Perm _
  have hi:next k % (x::left).length<(x::left).length:=Nat.mod_lt _ (by simp);rw[List.getElem?_eq_getElem hi];dsimp only;refine(sE next a (k+1) _ _ (by rw[List.length_eraseIdx_of_lt hi];simp at h ⊢;nofun)).trans ?_;rw[Array.toList_push,aap];exact aaP _ (fX _ _ hi)
theorem g6(next:Nat->Nat)(xs:Array α):(pickOrder next xs).toList.Perm xs.toList:=by
 unfold pickOrder;have q:=sE next xs.size 0 xs.toList #[] (by simp);simpa using q
theorem AM(es:Array (Int×Value)):∀ys:List Nat,(∀j∈ys,j<es.size)->ys.filterMap (λj=>(es[j]?).map (·.2))=ys.map λj=>((es[j]?).map (·.2)).getD Value.none
 |[],_=>rfl
 | j::ys,h=>by
  have a:=h j aab;rw[abi,Array.getElem?_eq_getElem a];show es[j].2::ys.filterMap (λj=>(es[j]?).map (·.2))=_;rw[AM es ys λi hi=>h i (aae _ hi),abC,Array.getElem?_eq_getElem a];rfl
section
variable          {t:SetTable}
theorem g7{f:Value}(ho:s.heap.get? I=some (cP f i x n ep))(h:Q (.ref I) s):wpAny (model prog w) A (pyIter (.ref I)) Q E s:=by
 have a:s.TypeIs (.ref I) "set_iterator" := ⟨_,ho,rfl⟩;refine wpAny_pyIter_slot a eT (aay eT a gZ ?_ (iW _));show wpAny _ _ (ret (.ref I)) _ _ s;exact aaf ⟨_,rfl, "set_iterator", _,a,aA.lookup,h⟩
theorem sG(hs:Heap.SameBut I s.heap h'):Moved [I] Eq s { s with heap:=h' }:=
 ⟨λb ob a e=>(hs.2 b (λz=>a (by simp[z]))).trans e,rfl,rfl,rfl,aac _⟩
theorem sH(hs:∀b ob,b≠I->s.heap.get? b=some ob->h'.get? b=some ob):Moved [I] Eq s { s with heap:=h' }:=
 ⟨λb ob a e=>hs b ob (λz=>a (by simp[z])) e,rfl,rfl,rfl,aac _⟩
theorem pX(hh:A.handled=none)(hne:a≠I)(hd:o.data=.set es ep t)(hf:t.fits es.size=true)(hby:byText w=true) :
  WalksS prog w A I [I,a] [I] Eq es.size (λi v=>((pickOrder (w.params.setOrder a ep) es).toList.map (·.2))[i]?=some v) (λi s=>s.heap.get? I=some (cP (.int ((0:Nat):Int) 0) i (.ref a) es.size ep)/\s.heap.get? a=some o) where
 sub:=λb hb=>by simp at hb;simp[hb]
 grefl:=λ_=>rfl
 gtrans:=λ_ _ _ x y=>x.trans y
 frame:=λi s h' tk st _ k=>⟨k I (by simp) _ st.1,k a (by simp) _ st.2⟩
 item:=λi s Q E hi st hQ=>by
  have hl:(pickOrder (w.params.setOrder a ep) es).size=es.size:=by rw[← abO,(g6 _ es).length_eq,abO]
  have hx:(pickOrder (w.params.setOrder a ep) es)[i]?=some ((pickOrder (w.params.setOrder a ep) es)[i]'(by nofun)):=Array.getElem?_eq_getElem _;refine nR (x:=((pickOrder (w.params.setOrder a ep) es)[i]'(by nofun)).2) (nx:=0) st.1 st.2 hd hf rfl (λE' Q' q=>gn hby st.2 hd hf (by rw[hx];rfl) q) λh' g b=>hQ _ _ ?_ ⟨g,(b.2 a hne).trans st.2⟩ (sG b);rw[List.getElem?_map,Array.getElem?_toList,hx];rfl
 done:=λs Q E st hQ=>by
  have hl:(pickOrder (w.params.setOrder a ep) es).size=es.size:=by rw[← abO,(g6 _ es).length_eq,abO]
  refine nS hh st.1 st.2 hd hf rfl (λE' Q' q=>gn hby st.2 hd hf (by rw[Array.getElem?_eq_none (by nofun)];rfl) q) λh' k=>hQ _ (sH k)
 self:=λi s Q E st h=>g7 st.1 h
theorem sI(hh:A.handled=none)(hne:a≠I)(hd:o.data=.set es ep t)(hf:t.fits es.size=true)(hby:byText w=false)(hdr:(!t.plain&&decide (es.size > 1))=false)(hr:Ris t.place)(hled:t.led=true) :
  WalksS prog w A I [I,a] [I] Eq es.size (λi v=>(es.toList.map (·.2))[i]?=some v) (λi s=>(∃f:Nat,SetTable.below t.place f=i/\s.heap.get? I=some (cP (.int (f:Int) 0) i (.ref a) es.size ep))/\s.heap.get? a=some o) where
 sub:=λb hb=>by simp at hb;simp[hb]
 grefl:=λ_=>rfl
 gtrans:=λ_ _ _ x y=>x.trans y
 frame:=λi s h' tk st _ k=>by
  obtain⟨⟨f,f0,g⟩,ga⟩:=st;exact⟨⟨f,f0,k I (by simp) _ g⟩,k a (by simp) _ ga⟩
 item:=λi s Q E hi st hQ=>by
  obtain⟨⟨f,f0,g⟩,ga⟩:=st
  have hsz:t.place.size=es.size:=by
   have hf':=hf;simp only[SetTable.fits,Bool.and_eq_true,beq_iff_eq] at hf';exact hf'.1
  have hpl:t.place[i]?=some (t.place[i]'(by nofun)):=Array.getElem?_eq_getElem _;have hes:es[i]?=some (es[i]'hi):=Array.getElem?_eq_getElem _;refine nR (x:=(es[i]'hi).2) (nx:=(t.place[i]'(by nofun))+1) g ga hd hf rfl (λE' Q' q=>g0 hby ga hd hf hdr hled (by rw[f0,hes,hpl];exact q)) λh' g' b=>hQ _ _ ?_ ⟨⟨_,pU hr hpl,g'⟩,(b.2 a hne).trans ga⟩ (sG b);rw[List.getElem?_map,Array.getElem?_toList,hes];rfl
 done:=λs Q E st hQ=>by
  obtain⟨⟨f,f0,g⟩,ga⟩:=st;refine nS hh g ga hd hf rfl (λE' Q' q=>g0 hby ga hd hf hdr hled ?_) λh' k=>hQ _ (sH k);have hbe:es[SetTable.below t.place f]?=none:=by rw[f0];exact Array.getElem?_eq_none (aac _)
  rw[hbe];exact q
 self:=λi s Q E st h=>by
  obtain⟨⟨f,f0,g⟩,ga⟩:=st;exact g7 g h
theorem mG{ys:List Nat}(hh:A.handled=none)(hne:a≠I)(hnp:pl≠I)(hd:o.data=.set es ep t)(hf:t.fits es.size=true)(hpd:op.data=.seq (ys.map λ(i:Nat)=>Value.int (i:Int) 0).toArray c)(hys:ys.Perm (List.range es.size)) :
  WalksS prog w A I [I,a,pl] [I] Eq es.size (λi v=>(ys.filterMap λj=>(es[j]?).map (·.2))[i]?=some v) (λi s=>s.heap.get? I=some (cP (.ref pl) i (.ref a) es.size ep)/\s.heap.get? a=some o/\s.heap.get? pl=some op) where
 sub:=λb hb=>by simp at hb;simp[hb]
 grefl:=λ_=>rfl
 gtrans:=λ_ _ _ x y=>x.trans y
 frame:=λi s h' tk st _ k=>⟨k I (by simp) _ st.1,k a (by simp) _ st.2.1,k pl (by simp) _ st.2.2⟩
 item:=λi s Q E hi st hQ=>by
  have hl:ys.length=es.size:=by rw[hys.length_eq,abX]
  have hyi:ys[i]?=some (ys[i]'(by nofun)):=List.getElem?_eq_getElem _;have hlt:ys[i]'(by nofun)<es.size:=abY.mp (hys.mem_iff.mp (aaQ _));have hes:es[ys[i]'(by nofun)]?=some es[ys[i]'(by nofun)]:=Array.getElem?_eq_getElem hlt;refine pV (x:=es[ys[i]'(by nofun)].2) (hx:=es[ys[i]'(by nofun)].1) (place:=ys[i]'(by nofun)) st.1 st.2.1 hd hf rfl st.2.2 hpd (by rw[List.getElem?_toArray,List.getElem?_map,hyi];rfl) hes λh' g b=>hQ _ _ ?_ ⟨g,(b.2 a hne).trans st.2.1,(b.2 pl hnp).trans st.2.2⟩ (sG b);have all:=AM es ys λj hj=>abY.mp (hys.mem_iff.mp hj);rw[all,List.getElem?_map,hyi];show some (((es[ys[i]'(by nofun)]?).map (·.2)).getD Value.none)=_;rw[hes];rfl
 done:=λs Q E st hQ=>by
  have hl:ys.length=es.size:=by rw[hys.length_eq,abX]
  exact pW hh st.1 st.2.1 hd hf rfl st.2.2 hpd (by rw[List.getElem?_toArray,List.getElem?_eq_none (by rw[abz];nofun)]) λh' k=>hQ _ (sH k)
 self:=λi s Q E st h=>g7 st.1 h
theorem xr(y:s.heap.get? a=some o)(hex:o.ExactSet)(hd:o.data=.set es ep t)(u:t.fits es.size=true)(d:es.size<scanBound)(z:t.led=!byText w)(M:t.plain=true->Ris t.place)
  (h:∀(I:Addr) (fp:List Addr) (St:Nat->Shared->Prop) (ord:List Value) (h':Heap) (d':Drawn),(∀A':Around,A'.handled=none->WalksS prog w A' I fp [I] Eq es.size (λi v=>ord[i]?=some v) St)->St 0 { s with heap:=h',drawn:=d' } ->
   (∀b∈fp,b<h'.objs.size)->I∈fp->a≠I->(∀b∈fp,b=a∨s.heap.objs.size<=b)->ord.Perm (es.toList.map (·.2))->(∀b ob,s.heap.get? b=some ob->h'.get? b=some ob)->Q (.ref I) { s with heap:=h',drawn:=d' }) :
  wpAny (model prog w) A (pyIter (.ref a)) Q E s:=by
 have P:s.TypeIs (.ref a) "set" := ⟨o,y,hex.1⟩;refine wpAny_pyIter_slot P F.slot_set_iter (aay F.slot_set_iter P iV ?_ (jT _));unfold Builtin.«frozenset.__iter__»;refine aaa (m:=Builtin.Frozenset.slot0 "__iter__" _) (aaf ?_);refine aaa (m:=Builtin.Frozenset.sizeOf _) (aaa (abh y hd u (aaf ?_)));have alt:a<s.heap.objs.size:=aag y;unfold setDrawn;refine aaa (aaa (abm y hd u ?_));dsimp only;unfold setsByText;refine aaa (aaa (abt (aaf ?_)));refine aaf ?_;show wpAny _ _ (if (!byText w&&(!t.plain&&decide (es.size > 1)))=true then _ else _) _ _ _
 have fin:∀(first:Value) (h1:Heap) (K:Drawn),(∀b ob,s.heap.get? b=some ob->h1.get? b=some ob)->s.heap.objs.size<=h1.objs.size ->
   (∀(I:Addr),I=h1.objs.size->Q (.ref I) { s with heap:=h1.push (cP first 0 (.ref a) es.size ep),drawn:=K }) ->
   wpAny (model prog w) A.in1 (do
    let e ← setEpoch a
    let v ← newFields "set_iterator" [first,rawInt 0,Value.ref a,rawInt es.size,rawInt e]
    ret v) (λfin s'=>∃v,fin=Fin.done (Flow.ret v)/\∃S r,s'.TypeIs v S/\typeLookup (Value.type S) (Str.ofString "__next__")=pure (some r)/\Q v s') E { s with heap:=h1,drawn:=K }:=by
  intro first h1 K k X q;refine aaa (wpAny_setEpoch_of (s:={ s with heap:=h1,drawn:=K }) (k a o y) hd u ?_);exact aaa (aaF (aaf ⟨_,rfl, "set_iterator", _,⟨_,Heap.get?_push_size _ rfl,rfl⟩,aA.lookup,q _ rfl⟩))
 by_cases n:(!byText w&&(!t.plain&&decide (es.size > 1)))=true
 ·rw[if_pos n];refine aaa (jo es.size (List.range es.size) s _ (by simp) λys d' hp=>?_);refine aaa (wpAny_newTuple ?_ (by rw[List.length_map,hp.length_eq,List.length_range];exact fits_of_scanBound d));generalize R:({ cls:=.type "tuple", data:=.seq (ys.map λ(i:Nat)=>rawInt (i:Int)).toArray }:Obj)=op;have l:(s.heap.push op).objs.size=s.heap.objs.size+1:=abp ..;have O:op.data=.seq (ys.map λ(i:Nat)=>Value.int (i:Int) 0).toArray 0:=by rw[← R];rfl
  refine fin _ (s.heap.push op) d' (λb ob e=>Heap.get?_push_of_some _ e) (by rw[l];exact aaU _) λI g=>?_;rw[l] at g;have N:s.heap.objs.size≠I:=by rw[g];exact aak (aaA _)
  have c:a≠I:=by rw[g];exact aak (aaS alt)
  have L:((s.heap.push op).push (cP (.ref s.heap.objs.size) 0 (.ref a) es.size ep)).objs.size=s.heap.objs.size+2:=by rw[abp,l]
  have J:((s.heap.push op).push (cP (.ref s.heap.objs.size) 0 (.ref a) es.size ep)).get? I=some (cP (.ref s.heap.objs.size) 0 (.ref a) es.size ep):=by
   rw[g,← l];exact Heap.get?_push_size _ rfl
  have H:((s.heap.push op).push (cP (.ref s.heap.objs.size) 0 (.ref a) es.size ep)).get? a=some o:=Heap.get?_push_of_some _ (Heap.get?_push_of_some _ y);have V:((s.heap.push op).push (cP (.ref s.heap.objs.size) 0 (.ref a) es.size ep)).get? s.heap.objs.size=some op:=Heap.get?_push_of_some _ (Heap.get?_push_size s.heap (o:=op) (by rw[← R];rfl))
  have U:∀b∈[I,a,s.heap.objs.size],b<((s.heap.push op).push (cP (.ref s.heap.objs.size) 0 (.ref a) es.size ep)).objs.size:=by
   intro b d;rw[L];simp only[List.mem_cons,List.not_mem_nil,or_false] at d;rcases d with rfl|rfl|rfl
   ·rw[g];exact aaA _
   ·exact aaS (aaS alt)
   ·exact aaS (aaA _)
  have G:∀b∈[I,a,s.heap.objs.size],b=a∨s.heap.objs.size<=b:=by
   intro b d;simp only[List.mem_cons,List.not_mem_nil,or_false] at d;rcases d with rfl|rfl|rfl
   ·exact .inr (by rw[g];exact aaU _)
   ·exact .inl rfl
   ·exact .inr (aac _)
  have T:(ys.filterMap λj=>(es[j]?).map (·.2)).Perm (es.toList.map (·.2)):=by
   refine(hp.filterMap λj=>(es[j]?).map (·.2)).trans ?_;rw[← PySem.filterMap_getElem?_range es,List.map_filterMap]
  exact h I [I,a,s.heap.objs.size] _ (ys.filterMap λj=>(es[j]?).map (·.2)) _ d' (λA' D=>mG (op:=op) D c N hd u O hp) ⟨J,H,V⟩ U (by simp) c G T (λb ob e=>Heap.get?_push_of_some _ (Heap.get?_push_of_some _ e))
 ·rw[if_neg n];refine aaa (aaf ?_);refine fin _ s.heap s.drawn (λb ob e=>e) (aac _) λI g=>?_;have c:a≠I:=by rw[g];exact aak alt
  have B:∀b∈[I,a],b<(s.heap.push (cP (rawInt 0) 0 (.ref a) es.size ep)).objs.size:=by
   intro b d;rw[abp];simp only[List.mem_cons,List.not_mem_nil,or_false] at d;rcases d with rfl|rfl
   ·rw[g];exact aaA _
   ·exact aaS alt
  have J:(s.heap.push (cP (rawInt 0) 0 (.ref a) es.size ep)).get? I=some (cP (rawInt 0) 0 (.ref a) es.size ep):=by rw[g];exact Heap.get?_push_size _ rfl
  have H:(s.heap.push (cP (rawInt 0) 0 (.ref a) es.size ep)).get? a=some o:=Heap.get?_push_of_some _ y
  have G:∀b∈[I,a],b=a∨s.heap.objs.size<=b:=by
   intro b d;simp only[List.mem_cons,List.not_mem_nil,or_false] at d;rcases d with rfl|rfl
   ·exact .inr (by rw[g];exact aac _)
   ·exact .inl rfl
  cases p:byText w with
  |true=>exact h I [I,a] _ ((pickOrder (w.params.setOrder a ep) es).toList.map (·.2)) _ s.drawn (fun A' D=>pX D c hd u p) ⟨J,H⟩ B (by simp) c G ((g6 _ es).map _) (fun b ob e=>Heap.get?_push_of_some _ e)
  | false=>
   have f:(!t.plain&&decide (es.size > 1))=false:=by
    rw[p,Bool.not_false,Bool.true_and] at n;exact abT.mpr n
   have hr:Ris t.place:=by
    cases q:t.plain with
    |true=>exact M q
    | false=>
     rw[q,Bool.not_false,Bool.true_and] at f;have h1:¬es.size > 1:=of_decide_eq_false f
     have W:t.place.size=es.size:=by
      have C:=u;simp only[SetTable.fits,Bool.and_eq_true,beq_iff_eq] at C;exact C.1
     have hl:t.place.toList.length<=1:=by rw[abO];nofun
     unfold Ris
     match Y:t.place.toList,hl with
     |[],_=>exact .nil
     |[x],_=>exact List.pairwise_singleton _ _
   exact h I [I,a] _ (es.toList.map (·.2)) _ s.drawn (λA' D=>sI D c hd u p f hr (by rw[z,p];rfl)) ⟨⟨0,pT hr,J⟩,H⟩ B (by simp) c G (.refl _) (λb ob e=>Heap.get?_push_of_some _ e)
end
section
variable          {t:SetTable}
theorem xt{Q:Bool->Shared->Prop}(e:s.TypeIs (.ref a) "set")(h:Q false s):wpAny (model prog w) A (Builtin.List.listLengthHint (.ref a)) Q E s:=by
 unfold Builtin.List.listLengthHint;refine aaa (wpAny_specialOf e F.slot_set_len.lookup ?_);generalize c:("set.__len__" : String)=d
 wp_delta
 rw[show splitId d=some ("set", "__len__") from by subst c;decide +kernel];subst c;refine aaa (wpAny_isInstance (b:=true) e sub_set_self ?_);rw[if_neg (by decide)];show wpAny _ _ (if _=true then _ else _) _ _ _;rw[if_pos (by decide +kernel)];refine aaa (wpAny_typeOf e ?_);exact aaf h
theorem mH{Q:List Value->Shared->Prop}(hh:A.handled=none)(K:s.heap.get? a=some o)(hex:o.ExactSet)(hd:o.data=.set es ep t)(X:t.fits es.size=true)(p:es.size<scanBound)(m:t.led=!byText w)(B:t.plain=true->Ris t.place)
  (Z:∀(vs:List Value) (h':Heap) (d':Drawn) (tk:Nat),vs.Perm (es.toList.map (·.2))->s.heap.objs.size<h'.objs.size->(∀b ob,s.heap.get? b=some ob->h'.get? b=some ob)->Q vs { s with heap:=h',drawn:=d',toks:=tk }) :
  wpAny (model prog w) A (collect (.ref a)) Q E s:=by
 have alt:a<s.heap.objs.size:=aag K;unfold collect;refine aaa (wpAny_runValue (codeAny_builtin F.entry_proto_collect ?_));rw[aaZ F.plain_proto_collect _];show wpAny _ A.in1 (newList [] >>= λl=>again (.builtin "list.__iadd__" ⟨[l,.ref a],[]⟩)) _ _ s;refine aaa (aaF ?_);refine aaf ⟨plainId_quiet F.plain_list_iadd _,codeAny_builtin F.entry_list_iadd ?_⟩;rw[aaZ F.plain_list_iadd _];generalize L:({ cls:=.type "list", dict:=none,data:=.seq ([]:List Value).toArray }:Obj)=ol;have g1:(s.heap.push ol).get? s.heap.objs.size=some ol:=Heap.get?_push_size s.heap (o:=ol) (by rw[← L];rfl);have ga:(s.heap.push ol).get? a=some o:=Heap.get?_push_of_some _ K;have Y:Shared.TypeIs { s with heap:=s.heap.push ol } (.ref a) "set" := ⟨o,ga,hex.1⟩;show wpAny _ A.in1 (Builtin.List.listExtendWith (.ref s.heap.objs.size) (.ref a) (.ref s.heap.objs.size)) _ _ _;unfold Builtin.List.listExtendWith;refine aaa (wpAny_typeOf Y ?_)
 have h1:Builtin.List.listSameRef (.ref s.heap.objs.size) (.ref a)=false:=by
  simp only[Builtin.List.listSameRef,beq_eq_false_iff_ne];exact(aak alt).symm
 rw[if_neg (by rw[h1];decide)];refine aaa (xr (s:={ s with heap:=s.heap.push ol }) ga hex hd X p m B λI fp St ord h2 S W u V M G n c C=>?_);refine aaa (aaW (xt ⟨o,C a o ga,hex.1⟩ ?_));rw[if_pos (by decide)];refine aaa (wpAny_rule ?_);refine aaa ?_;have g2:h2.get? s.heap.objs.size=some { cls:=.type "list", data:=.seq ([]:List Value).toArray }:=by rw[L];exact C _ _ g1
 show wpAny _ A.in1 (updateSeq s.heap.objs.size (·.push .none) >>= λ_=>updateSeq s.heap.objs.size (·.pop)) _ _ _;refine aaa (wpAny_updateSeq (s:={ s with heap:=h2,drawn:=S }) g2 rfl ?_);have g3:=Heap.get?_update_self (Obj.mapSeq (·.push Value.none)) g2 rfl;refine wpAny_updateSeq g3 rfl ?_;have P:=Heap.get?_update_self (Obj.mapSeq (·.pop)) g3 rfl;generalize D:(h2.update s.heap.objs.size (Obj.mapSeq (·.push Value.none))).update s.heap.objs.size (Obj.mapSeq (·.pop))=N at P ⊢
 have i:∀b ob,b≠s.heap.objs.size->h2.get? b=some ob->N.get? b=some ob:=λb ob k e=>by
  rw[← D];exact(Heap.get?_update_other _ _ (Ne.symm k)).trans ((Heap.get?_update_other _ _ (Ne.symm k)).trans e)
 have H:(s.heap.push ol).objs.size=s.heap.objs.size+1:=abp ..
 have f:s.heap.objs.size∉fp:=λg=>by
  rcases n _ g with z|z
  ·exact absurd z (aak alt).symm
  ·have z:(s.heap.push ol).objs.size<=s.heap.objs.size:=z;rw[H] at z;exact absurd z (Nat.not_succ_le_self _)
 have hIS:I≠s.heap.objs.size:=λe=>f (e ▸ M);have r:=(W A.in1 hh).frame 0 _ N s.toks u (aac _) λb p ob e=>i b ob (λz=>f (z ▸ p)) e
 have x:∀b ob,s.heap.get? b=some ob->b≠s.heap.objs.size/\b≠I:=λb ob e=>by
  refine⟨aak (aag e),λz=>?_⟩;rcases n _ M with y|y
  ·exact G y.symm
  ·have y:(s.heap.push ol).objs.size<=I:=y;rw[H,← z] at y;exact absurd (aaq (aag e) (Nat.le_of_succ_le y)) (aaX _)
 refine aaf ⟨plainId_quiet F.plain_extend_loop _,codeAny_extend_loopS (W A.in1 hh) (fits_of_scanBound p) _ f _ es.size 0 _ _ _ rfl (aan _) r P (ItemsOf.nil _) λs' acc c' g O d=>?_⟩;show wpAny _ A (load s.heap.objs.size >>= _) _ _ s';refine aaa (wpAny_load O ?_);refine aaf ?_;obtain⟨h9,g9,d9,q,v⟩:=s';have eg:g9=s.gens:=g.gens.symm;have ed:d9=S:=g.drawn;have eo:v=s.os:=g.os;subst eg ed eo;have hl:ord.length=es.size:=by rw[c.length_eq,abz,abO]
 have T:acc.toList=ord:=by
  refine List.ext_getElem? λj=>?_;by_cases J:j<acc.size
  ·have R:acc[j]?=some acc[j]:=Array.getElem?_eq_getElem J;rw[Array.getElem?_toList,R,d.2 j _ R]
  ·have U:es.size<=j:=by rw[d.1] at J;nofun
   rw[Array.getElem?_toList,Array.getElem?_eq_none (by nofun),List.getElem?_eq_none (by nofun)]
 refine Z _ h9 _ q (by rw[T];exact c) (aag O) λb ob e=>?_;obtain⟨n1,n2⟩:=x b ob e;exact g.heap b ob (by simp[n1,n2]) (i b ob n1 (C b ob (Heap.get?_push_of_some _ e)))
end
theorem g8{α:Type}[DecidableEq α]:∀(σ ss:List α),σ.Nodup->(∀k∈σ,k∈ss)->ss.length=σ.length->ss.Perm σ
 | [],ss,_,_,hl=>by
  have:ss=[]:=aaz (by exists hl);subst this;exact .refl _
 | k::σ,ss,g,d,hl=>by
  have i:k∈ss:=d k (aab ..);have hp:=List.perm_cons_erase i;have a:=abJ.mp g
  have b:(ss.erase k).length=σ.length:=by
   have:=hp.length_eq;simp only[List.length_cons] at this hl;nofun
  refine hp.trans (.cons k (g8 σ (ss.erase k) a.2 (λj f=>?_) b));have c:j≠k:=λe=>a.1 (e ▸ f);exact(List.mem_erase_of_ne c).mpr (d j (aae _ f))
theorem xu{x:Str}{v:Value}(h:Value.isStrOf x v=true):strOf v=x:=by
 obtain⟨t,rfl⟩:=Value.isStrOf_shape h;rfl
theorem sorted_set{σ:List Str}(hh:A.handled=none)(R:SetZ (PySem.strKind prog w) s.heap a σ (!byText w))(L:σ.length<64)
  (S:∀(p:Addr) (out:List Value) (ss:List Str) (e:Nat) (h':Heap) (d':Drawn) (tk:Nat),s.heap.objs.size<=p->h'.get? p=some (seqObj "list" out.toArray e)->StrsAre out ss->ss.Perm σ->sortedS ss=true ->
   (∀b o,s.heap.get? b=some o->h'.get? b=some o)->Q (.ref p) { s with heap:=h',drawn:=d',toks:=tk }) :
  wpAny (model prog w) A (call (.builtin "sorted") [.ref a]) Q E s:=by
 obtain⟨o,es,ep,t,ho,hex,hd,T,l,z,P,D,H,n,G⟩:=R;refine Calls.call_function_entry kind_sorted plain_sorted entry_sorted (args_sorted1 _) ?_;unfold Builtin.«sorted»;refine aaa (m:=checkCount "sorted" 1 1 _) (aaf ?_);refine aaa (mH (by exists hh) ho hex hd P z n G λvs h' d' tk c I u=>?_);have d:vs.length=σ.length:=by rw[c.length_eq,abz,abO];exact D
 refine aaa (wpAny_newList ?_ (hsz:=by rw[sizeLine_eq];nofun));show wpAny _ _ _ _ _ { s with heap:=h'.push (seqObj "list" vs.toArray 0),drawn:=d',toks:=tk };have f:(h'.push (seqObj "list" vs.toArray 0)).get? h'.objs.size=some (seqObj "list" vs.toArray 0):=Heap.get?_push_size _ rfl
 have j:∀v∈vs,∃x t,v=.str x t:=λv O=>by
  have C:=c.mem_iff.mp O;obtain⟨e,he,rfl⟩:=abE.mp C;obtain⟨⟨k,u,_⟩,_⟩:=T e he;obtain⟨t,q⟩:=Value.isStrOf_shape u;exact⟨k,t,q⟩
 have g:=strsAre_map vs j
 have F:(vs.map strOf).Perm σ:=by
  refine g8 σ _ H (λk u=>?_) (by rw[abz,d]);obtain⟨e,he,J⟩:=(l k).mp u;refine abE.mpr ⟨e.2,c.mem_iff.mpr (abE.mpr ⟨e,he,rfl⟩),xu J⟩
 have r:s.heap.objs.size<=h'.objs.size:=ab1 I;refine aaa (aaW (aay slot_list_sort ⟨_,f,rfl⟩ entry_list_sort (list_sort_treeK strKind_oneLt f g.keysOf (λN M rest e=>keyKind_strs (by rw[← e];exact g)) (by rw[d];exact L) λi X W=>⟨_,rfl,?_⟩) (args_list_sort _)));obtain⟨B,b1,b2,V⟩:=sorted_out_str g X W;obtain⟨U,K⟩:=sortedHeap_at (out:=(arrOf i).map (·.2)) f;refine aaf ⟨_,rfl,S h'.objs.size ((arrOf i).map (·.2)).toList B U _ d' tk r (by rw[abf];exact K) b1 (b2.trans F) V λb ob z=>?_⟩;have y:b<h'.objs.size:=aaq (aag z) r;rw[sortedHeap_old (aak y) (by rw[size_push'];exact aaS y)];exact Heap.get?_push_of_some _ (u b ob z)
end KS
namespace L2
open PySem PySem.Spec PyProof.Rows
variable{ss zs:List Str}{X:Cx}{σ σ0:St}{H F F' H' Z:Hp}{s:Shared}{a p:Addr}{ty tv te ta tb:TE}{pos:Pos}{ixs T μ m:List Nat}{i n j:Nat}{y z x b:Str}{wi:TI}{g:TG}{tc u:TT}{ys:List (Key×V)}{Q:VK}{v:V}{xs vs:List V}{A B:List Addr}{ks k:List Key}{t:TA}{gs:TGs}{w:World}{gV:Int->Int->V}
theorem dQ{vs:List Value}(h:StrsAre vs ss):Vals (ss.map V.str) vs:=by
 induction h with
 |nil=>exact .nil
 |cons y t h a=>exact .cons ⟨t,rfl⟩ a
theorem gp:∀{ss:List Str} {vs:List Value},Vals (ss.map V.str) vs->StrsAre vs ss
 |[],_,.nil=>.nil
 |s::ss,_,.cons ⟨t,e⟩ r=>by subst e;exact .cons s t (gp r)
theorem StrsAre.len:∀{vs:List Value} {ss:List Str},StrsAre vs ss->vs.length=ss.length
 |_,_,.nil=>rfl
 |_,_,.cons _ _ h=>by simp[StrsAre.len h]
def setO(P:Program)(w:World)(q:Addr)(σ:List Str):HO:=.ext λh=>KS.SetZ (PySem.strKind P w) h q σ (!KS.byText w)
theorem Inv.laidD{pins:List (Addr×Obj)}{h':Heap}{o:HO}{t':Nat}{d':Drawn}(I:Inv X pins σ H s)(k:∀b u,s.heap.get? b=some u->h'.get? b=some u)(hp:s.heap.objs.size<=a)(new:ObjOk X.prog X.w (upd H a o) h' a o) :
  Inv X pins σ (upd H a o) { s with heap:=h',drawn:=d',toks:=t' }:=
 I.call (ch:=[]) (g':=s.gens) (Un.laid k hp (I.hok.fresh hp)) (I.hok.laid k hp new) I.bare (λ_ z=>nomatch z)
def sJ(P:Program)(w:World)(K:Frag):List V->Hp->VK->Prop:=λxs H Q=>∃(p:Addr) (σ:List Str),xs=[.ref p]/\(H p=some (setO P w p σ)∨SqL K H p (σ.map .str))/\σ.length<64 /\
 ∀q ss,H q=none->ss.Perm σ->sortedS ss=true->Q (.ref q) (upd H q (.lst (ss.map .str)))
theorem kY(t:X.calm=true):CallR X (.builtin "sorted") (sJ X.prog X.w X.K):=by
 intro pins s σ H xs us Q I r h;obtain⟨p,x,rfl,a,f,q⟩:=h;obtain⟨u,rfl,k⟩:=fE r;cases k;rcases a with a|a
 ·obtain⟨d,_,_⟩:=I.hok p _ a;refine KS.sorted_set (I.ok.hd t) d f λi out ss e h' w tk c n g hp hs m=>?_;have hl:ss.length<64:=by rw[hp.length_eq];exact f
  refine⟨.ref i,_,I.laidD (t':=tk) (d':=w) (o:=.lst (ss.map .str)) m c ⟨?_,out,e,dQ g,n⟩,rfl,q i ss (I.hok.fresh c) hp hs⟩;rw[abz,sizeLine_eq];nofun
 ·obtain⟨its,r',pl,l⟩:=I.list a;have d:=gp r';have j:=StrsAre.len d;refine sorted_strs pl.isList d (by nofun) λout ss h1 h2 v=>?_;obtain⟨e,he⟩:=sortedAll_at s.heap its out;have hl:ss.length<64:=by rw[h2.length_eq];exact f
  refine⟨.ref (s.heap.objs.size+1),_,I.laid (t':=s.toks) (o:=.lst (ss.map .str)) (λb o e=>sortedAll_old e) (aaU _) ⟨?_,out.toList,e,dQ h1,by rw[abf];exact he⟩,rfl,q _ ss (I.hok.fresh (aaU _)) h2 v⟩;rw[abz,sizeLine_eq];nofun
theorem pY(J:X.calm=true):CallR X (.type "list") (λxs H Q=>∃p kvs,xs=[.ref p]/\Rd H p (.dK kvs)/\∀l,H l=none->Q (.ref l) (upd H l (.lst (kvs.map λkv=>kV kv.1)))):=by
 intro pins s σ H xs us Q I r h;obtain⟨p,kvs,rfl,A,q⟩:=h;obtain⟨u,rfl,D⟩:=fE r;cases D;obtain⟨w,K,vs,y,m⟩:kvs.length<=sizeLine/\(p==sysModules)=false/\∃vs,KV kvs vs/\s.heap.DictOf (ax X.prog X.w) p vs:=A.ok I.hok;obtain⟨ep,n⟩:=m.dictAt;have hl:kvs.length=vs.length:=aa2 y;refine PySem.W.kdl_call (PySem.W.kdl_dict (knd:=ax X.prog X.w) (kvs:=vs) (ep:=ep) K) (I.ok.hd J) n (by rw[← hl];exact w) λh' tk c N G B f=>?_
 have F:Vals (kvs.map λkv=>kV kv.1) c.toList:=by
  have g:c.toList.length=kvs.length:=by rw[abO,f.1,hl]
  have d:∀j v,c.toList[j]?=some v->∃k x,vs[j]?=some (k,x)/\jJ k v=true:=λj v e=>f.2 j v (by rw[← Array.getElem?_toList];exact e);clear f B;generalize c.toList=us at g d;clear n m hl w q A I
  induction y generalizing us with
  |nil=>cases us with|nil=>exact .nil|cons a b=>simp at g
  | cons h1 h2 E=>
   cases us with
   |nil=>simp at g
   | cons a b=>
    refine .cons ?_ (E b (by exists g) λj v e=>by simpa using d (j+1) v (by exists e));obtain⟨k,x,C,M⟩:=d 0 a rfl;simp only[List.getElem?_cons_zero,Option.some.injEq] at C;subst C;have L:_=k:=h1.1;show RelV (kV _) a;rw[L];rcases aP M with ⟨i,t,rfl,rfl⟩|⟨z,t,rfl,rfl⟩
    ·exact⟨t,rfl⟩
    ·exact⟨t,rfl⟩
 exact⟨.ref s.heap.objs.size,_,I.laid (t':=tk) (o:=.lst (kvs.map λkv=>kV kv.1)) G (aac _) ⟨by rw[abz];exact w,c.toList,N,F,by rw[abf];exact B⟩,rfl,q _ (I.hok.fresh (aac _))⟩
def sK(K:Frag):List V->Hp->VK->Prop:=λxs H Q=>(∃p ys,xs=[.ref p]/\(SqL K H p ys∨SqT K H p ys)/\∀l,H l=none->Q (.ref l) (upd H l (.lst ys)))∨∃p kvs,xs=[.ref p]/\Rd H p (.dK kvs)/\∀l,H l=none->Q (.ref l) (upd H l (.lst (kvs.map λa=>kV a.1)))
theorem Di(K:Frag)(a:X.calm=true)(h:X.K=K):BCall X (.type "list") (sK K):=by subst h;exact⟨kO.or (pY a)⟩
theorem Dj{o i value:Expr}{td:TE}{pos':Pos}(hu:X.A.units+1<cLine)(ho:BE X o td)(hi:BE X i ty)(a:BE X value tv)(hs:swapsWith value (some (.Subscript o i pos')) pos.line X.env=pure false) :
  BS X (.Assign [.Subscript o i pos'] value pos) (wH td ty tv):=⟨Cs hu ho.h hi.h a.h hs⟩
theorem Dk{T F:List Str}{scope:Scope}{elt tg iter:Expr}{ifs:List Expr}{py a:Pos}(j:X.calm=true)(S:CompScope X T F ixs scope)(hi:BI X tg iter wi)
  (e:∀C s H fp,BG (bt X (T++F) scope (aB X.env scope.names []) C s H fp) tg g) (d:∀C s H fp,BIf (bt X (T++F) scope (aB X.env scope.names []) C s H fp) ifs tc) (he:∀C s H fp,BE (bt X (T++F) scope (aB X.env scope.names []) C s H fp) elt te)
  (hs:∀x,foldedSetIterable iter X.env x=pure x) (k:X.N.Nodup) (c:X.N[i]?=some y) (hx:Loc X.env.scope y)
  (b:swapsWith (.ListComp elt [⟨tg,iter,ifs,0⟩] scope pos) (some (.Name y py)) a.line X.env=pure true) (f:X.fn y=true∨X.env.scope.names.lookup y=some .local) :
  BS X (.Assign [.Name y py] (.ListComp elt [⟨tg,iter,ifs,0⟩] scope pos) a) (qU (gy T.length ixs wi g tc te) (fU i)):=
 ⟨CB j S hi.h (λC s H fp=>(e C s H fp).h) (λC s H fp=>(d C s H fp).h) (λC s H fp=>(he C s H fp).h) hs k c hx b f⟩
theorem LS{α:Type}{x:α}{r:List α}:atI (x::r) (0:Int)=some x:=cn (j:=0) rfl
def HX(K:Frag)(mg:Str->Option Value)(x:Str)(xs:List V):Prop:=∃a,mg x=some (.ref a)/\∀H,SqT K H a xs
theorem sL{K:Frag}{ys:List V}(h:SqL K H p ys)(q:∀l,H l=none->Q (.ref l) (upd H l (.lst ys))):sK K [.ref p] H Q:=.inl ⟨p,ys,rfl,.inl h,q⟩
theorem sM{K:Frag}{ys:List V}(h:SqT K H p ys)(q:∀l,H l=none->Q (.ref l) (upd H l (.lst ys))):sK K [.ref p] H Q:=.inl ⟨p,ys,rfl,.inr h,q⟩
theorem pZ{K:Frag}{kvs:List (Key×V)}(h:Rd H p (.dK kvs))(q:∀l,H l=none->Q (.ref l) (upd H l (.lst (kvs.map λkv=>kV kv.1)))):sK K [.ref p] H Q:=.inr ⟨p,kvs,rfl,h,q⟩
theorem kZ(h:zs.Nodup):(KS.dedup1 zs z).Nodup:=by
 unfold KS.dedup1;split
 ·exact h
 ·rename_i a;exact KS.nodup_snoc h a
theorem p8 :y∈KS.dedup1 zs z↔y∈zs∨y=z:=by
 unfold KS.dedup1;split
 ·rename_i a;exact⟨.inl,λh=>h.elim id λe=>e ▸ a⟩
 ·simp
inductive D where
 |non|bl (b:Bool)|int (i:Int)|str (x:Str)|lst (xs:List D)|tup (xs:List D)|dct (ks:List Key) (xs:List D)|ty (T:String)|opq (a:Addr) (n:Nat)|gt (xs:List D)|dt (ks:List (List Key)) (xs:List D)
variable{d e:D}{ds as:List D}{gD:Int->Int->D}
def plKV:Key×V->Bool
 |(.inr z,.int i)=>decide (z.length<=20)&&z.cps.toList.all (λc=>decide (c<16 ^ 8))&&decide (i.natAbs.log2<20)&&decide ((PySem.PyData.shown (.int i)).length<=8)
 |_=>false
mutual
inductive Den(K:Frag)(F:Hp):V->D->Prop where
 |non:Den K F .non .non
 |bl (b:Bool):Den K F (.bl b) (.bl b)
 |int (i:Int):Den K F (.int i) (.int i)
 |str (x:Str):Den K F (.str x) (.str x)
 |ty (T:String):Den K F (.ty T) (.ty T)
 |lst {a:Addr} {xs:List V} {ds:List D}:SqL K F a xs->Dens K F xs ds->Den K F (.ref a) (.lst ds)
 |tup {a:Addr} {xs:List V} {ds:List D}:F a=some (.tup xs)->Dens K F xs ds->Den K F (.ref a) (.tup ds)
 |dct {a:Addr} {ys:List (Key×V)} {ks:List Key} {ds:List D}:Rd F a (.dK ys)->ys.map (·.1)=ks->Dens K F (ys.map (·.2)) ds->Den K F (.ref a) (.dct ks ds)
 |opq {a:Addr} {ys:List (Key×V)} {n:Nat}:Rd F a (.dK ys)->ys.length=n->ys.all plKV=true->Den K F (.ref a) (.opq a n)
 |gt {a:Addr} {xs:List V} {ds:List D}:SqT K F a xs->Dens K F xs ds->Den K F (.ref a) (.gt ds)
 |dt {a:Addr} {ys:List (List Key×V)} {ks:List (List Key)} {ds:List D}:Rd F a (.dT ys)->ys.map (·.1)=ks->Dens K F (ys.map (·.2)) ds->Den K F (.ref a) (.dt ks ds)
inductive Dens(K:Frag)(F:Hp):List V->List D->Prop where
 |nil:Dens K F [] []
 |cons {x:V} {d:D} {xs:List V} {ds:List D}:Den K F x d->Dens K F xs ds->Dens K F (x::xs) (d::ds)
end
theorem Same.rd{u:HO}(e:Same F F')(h:Rd F a u):Rd F' a u:=h.elim (λh=>.inl (e _ _ h)) fun⟨o,h⟩=>.inr ⟨o,e _ _ h⟩
theorem Den.mono{K:Frag}(e:Same F F')(h:Den K F v d):Den K F' v d:=
 Den.rec (motive_1:=λv d _=>Den K F' v d) (motive_2:=λv d _=>Dens K F' v d) .non .bl .int .str .ty (λh _ t=>.lst (e.seq h) t) (λh _ t=>.tup (e _ _ h) t) (λh k _ t=>.dct (e.rd h) k t) (λh k p=>.opq (e.rd h) k p) (λh _ t=>.gt (h.same e) t) (λh k _ t=>.dt (e.rd h) k t) .nil (λ_ _ h t=>.cons h t) h
theorem Dens.mono{K:Frag}(e:Same F F'){v:List V}{d:List D}(h:Dens K F v d):Dens K F' v d:=
 Dens.rec (motive_1:=λ_ _ _=>True) (motive_2:=λv d _=>Dens K F' v d) trivial (λ_=>trivial) (λ_=>trivial) (λ_=>trivial) (λ_=>trivial) (λ_ _ _=>trivial) (λ_ _ _=>trivial) (λ_ _ _ _=>trivial) (λ_ _ _=>trivial) (λ_ _ _=>trivial) (λ_ _ _ _=>trivial) .nil (λh _ _ t=>.cons (h.mono e) t) h
section
variable {K:Frag} 
theorem Dens.length{xs:List V}{ds:List D}(h:Dens K F xs ds):xs.length=ds.length:=
 Dens.rec (motive_1:=λ_ _ _=>True) (motive_2:=λxs ds _=>xs.length=ds.length) trivial (λ_=>trivial) (λ_=>trivial) (λ_=>trivial) (λ_=>trivial) (λ_ _ _=>trivial) (λ_ _ _=>trivial) (λ_ _ _ _=>trivial) (λ_ _ _=>trivial) (λ_ _ _=>trivial) (λ_ _ _ _=>trivial) rfl (λ_ _ _ t=>congrArg (·+1) t) h
theorem Dens.get:∀{xs:List V} {ds:List D} {i:Nat} {d:D},Dens K F xs ds->ds[i]?=some d->∃x,xs[i]?=some x/\Den K F x d
 |_,_,_,_,.nil,e=>by simp at e
 |_,_,0,_,.cons h _,e=>by simp at e;subst e;exact⟨_,rfl,h⟩
 | _,_,i+1,d,.cons h t,e=>by
  obtain⟨x,h1,h2⟩:=Dens.get (i:=i) (d:=d) t (by exists e);exact⟨x,(by exists h1),h2⟩
theorem Dens.get':∀{xs:List V} {ds:List D} {i:Nat} {x:V},Dens K F xs ds->xs[i]?=some x->∃d,ds[i]?=some d/\Den K F x d
 |_,_,_,_,.nil,e=>by simp at e
 |_,_,0,_,.cons h _,e=>by simp at e;subst e;exact⟨_,rfl,h⟩
 | _,_,i+1,d,.cons h t,e=>by
  obtain⟨x,h1,h2⟩:=Dens.get' (i:=i) (x:=d) t (by exists e);exact⟨x,(by exists h1),h2⟩
theorem Dens.append{ys:List V}{es:List D}(h:Dens K F xs ds)(s:Dens K F ys es):Dens K F (xs++ys) (ds++es):=
 Dens.rec (motive_1:=λ_ _ _=>True) (motive_2:=λxs ds _=>Dens K F (xs++ys) (ds++es)) trivial (λ_=>trivial) (λ_=>trivial) (λ_=>trivial) (λ_=>trivial) (λ_ _ _=>trivial) (λ_ _ _=>trivial) (λ_ _ _ _=>trivial) (λ_ _ _=>trivial) (λ_ _ _=>trivial) (λ_ _ _ _=>trivial) s (λh _ _ t=>.cons h t) h
theorem Dens.take:∀{xs:List V} {ds:List D} (n:Nat),Dens K F xs ds->Dens K F (xs.take n) (ds.take n)
 |_,_,0,_=>.nil
 |_,_,_+1,.nil=>.nil
 |_,_,n+1,.cons r t=>.cons r (Dens.take n t)
theorem Dens.drop:∀{xs:List V} {ds:List D} (n:Nat),Dens K F xs ds->Dens K F (xs.drop n) (ds.drop n)
 |_,_,0,r=>r
 |_,_,_+1,.nil=>.nil
 |_,_,n+1,.cons r t=>Dens.drop n t
theorem Dens.set{x:V}{d:D}(r:Den K F x d):∀{xs:List V} {ds:List D} (i:Nat),Dens K F xs ds->Dens K F (xs.set i x) (ds.set i d)
 |_,_,_,.nil=>.nil
 |_,_,0,.cons _ t=>.cons r t
 |_,_,i+1,.cons q t=>.cons q (Dens.set r i t)
theorem Dens.snoc{x:V}(h:Dens K F xs ds)(q:Den K F x d):Dens K F (xs++[x]) (ds++[d]):=h.append (.cons q .nil)
theorem Dens.reverse:∀{xs:List V} {ds:List D},Dens K F xs ds->Dens K F xs.reverse ds.reverse
 |_,_,.nil=>.nil
 |_,_,.cons r t=>by rw[aaM,aaM];exact(Dens.reverse t).snoc r
theorem Dens.strs:∀(zs:List Str),Dens K F (zs.map V.str) (zs.map D.str)
 |[]=>.nil
 |z::zs=>.cons (.str z) (Dens.strs zs)
theorem Dens.ints:∀(zs:List Int),Dens K F (zs.map V.int) (zs.map D.int)
 |[]=>.nil
 |z::zs=>.cons (.int z) (Dens.ints zs)
theorem Den.str_eq(h:Den K F v (.str z)):v=.str z:=by cases h;rfl
theorem Den.int_eq{z:Int}(h:Den K F v (.int z)):v=.int z:=by cases h;rfl
theorem Den.bl_eq{z:Bool}(h:Den K F v (.bl z)):v=.bl z:=by cases h;rfl
theorem Den.non_eq(h:Den K F v .non):v=.non:=by cases h;rfl
theorem Dens.strs_eq:∀{zs:List Str} {xs:List V},Dens K F xs (zs.map D.str)->xs=zs.map V.str
 |[],_,.nil=>rfl
 |z::zs,_,.cons h t=>by rw[h.str_eq,Dens.strs_eq t];rfl
theorem Dens.bls_eq:∀{zs:List Bool} {xs:List V},Dens K F xs (zs.map D.bl)->xs=zs.map V.bl
 |[],_,.nil=>rfl
 |z::zs,_,.cons h t=>by rw[h.bl_eq,Dens.bls_eq t];rfl
end
mutual
def v9:D->DV
 |.non=>.non
 |.bl b=>.bl b
 |.int i=>.int i
 |.str x=>.str x
 |.lst xs=>.lst (toDVs xs)
 |.tup xs=>.tup (toDVs xs)
 |.dct _ _=>.non
 |.ty _=>.non
 |.opq _ _=>.non
 |.gt _=>.non
 |.dt _ _=>.non
def toDVs:List D->List DV
 |[]=>[]
 |d::ds=>v9 d::toDVs ds
end
mutual
def okD:D->Bool
 |.lst xs=>okDs xs
 |.tup xs=>okDs xs
 |.dct _ _=>false
 |.ty _=>false
 |.opq _ _=>false
 |.gt _=>false
 |.dt _ _=>false
 |_=>true
def okDs:List D->Bool
 |[]=>true
 |d::ds=>okD d&&okDs ds
end
theorem Den.deep{K:Frag}(h:Den K H v d):okD d=true->Deep K H v (v9 d):=
 Den.rec (motive_1:=λv d _=>okD d=true->Deep K H v (v9 d)) (motive_2:=λv d _=>okDs d=true->Deeps K H v (toDVs d)) (λ_=>.non) (λb _=>.bl b) (λb _=>.int b) (λb _=>.str b) (λ_ o=>nomatch o) (λh _ t o=>.lst h (t o)) (λh _ t o=>.tup (SqT.of h) (t o)) (λ_ _ _ _ o=>nomatch o) (λ_ _ _ o=>nomatch o) (λ_ _ _ o=>nomatch o) (λ_ _ _ _ o=>nomatch o) (λ_=>.nil) (λ_ _ h t o=>.cons (h (abL.mp o).1) (t (abL.mp o).2)) h
def dEq(d e:D):Bool:=deq (v9 d) (v9 e)
inductive FV where
 |fz (d:D)|fl (a:Addr) (ds:List D)|fd (a:Addr) (ks:List Key) (ds:List D)|ft (a:Addr) (ks:List (List Key)) (ds:List D)
def Dl:Nat->Str
 |0 => "Asking"
 |1 => "Reader"
 |_ => "Desk"
def b4:Nat->List Str
 |0=>["form", "name", "place", "at", "turn", "steps", "done", "length"]
 |_=>[]
structure Oo where
 a:Addr
 c:Nat
 ps:List FV
inductive OV where
 |fz (d:D)|fl (ds:List D)|fd (ks:List Key) (ds:List D)|ft (ks:List (List Key)) (ds:List D)|ot (ps:List FV)|ob (o:Oo)|obs (xs:List Oo)|obh (xs:List Oo) (a:Addr)
variable{o:OV}{P:OV->Prop}{f:D->D->(OV->Prop)->Prop}
inductive Fw(K:Frag)(F H:Hp):V->FV->List Addr->Prop where
 |fz {v:V} {d:D}:Den K F v d->Fw K F H v (.fz d) []
 |fl {a:Addr} {xs:List V} {ds:List D}:H a=some (.lst xs)->Dens K F xs ds->Fw K F H (.ref a) (.fl a ds) [a]
 |fd {a:Addr} {ys:List (Key×V)} {ks:List Key} {ds:List D}:H a=some (.dK ys)->ys.map (·.1)=ks->Dens K F (ys.map (·.2)) ds->Fw K F H (.ref a) (.fd a ks ds) [a]
 |ft {a:Addr} {ys:List (List Key×V)} {ks:List (List Key)} {ds:List D}:H a=some (.dT ys)->ys.map (·.1)=ks->Dens K F (ys.map (·.2)) ds->Fw K F H (.ref a) (.ft a ks ds) [a]
inductive Fws(K:Frag)(F H:Hp):List V->List FV->List Addr->Prop where
 |nil:Fws K F H [] [] []
 |cons {x:V} {o:FV} {xs:List V} {os:List FV} {A B:List Addr}:Fw K F H x o A->Fws K F H xs os B->Fws K F H (x::xs) (o::os) (A++B)
inductive Ob(K:Frag)(F H:Hp):V->Oo->List Addr->Prop where
 |mk {a C dx:Addr} {c:Nat} {fs:List (Str×V)} {ps:List FV} {A:List Addr}:H a=some (.ins C dx fs)->PySem.W.nsIn K mainGlobals (Dl c)=some (some (.ref C))->fs.map (·.1)=(b4 c).take ps.length->ps.length<=(b4 c).length->Fws K F H (fs.map (·.2)) ps A->Ob K F H (.ref a) ⟨a,c,ps⟩ (a::A)
inductive Obs(K:Frag)(F H:Hp):List V->List Oo->List Addr->Prop where
 |nil:Obs K F H [] [] []
 |cons {x:V} {o:Oo} {xs:List V} {os:List Oo} {A B:List Addr}:Ob K F H x o A->Obs K F H xs os B->Obs K F H (x::xs) (o::os) (A++B)
inductive Ow(K:Frag)(F H:Hp):V->OV->List Addr->Prop where
 |fz {v:V} {d:D}:Den K F v d->Ow K F H v (.fz d) []
 |fl {a:Addr} {xs:List V} {ds:List D}:H a=some (.lst xs)->Dens K F xs ds->Ow K F H (.ref a) (.fl ds) [a]
 |fd {a:Addr} {ys:List (Key×V)} {ks:List Key} {ds:List D}:H a=some (.dK ys)->ys.map (·.1)=ks->Dens K F (ys.map (·.2)) ds->Ow K F H (.ref a) (.fd ks ds) [a]
 |ft {a:Addr} {ys:List (List Key×V)} {ks:List (List Key)} {ds:List D}:H a=some (.dT ys)->ys.map (·.1)=ks->Dens K F (ys.map (·.2)) ds->Ow K F H (.ref a) (.ft ks ds) [a]
 |ot {a:Addr} {xs:List V} {ps:List FV} {A:List Addr}:F a=some (.tup xs)->Fws K F H xs ps A->Ow K F H (.ref a) (.ot ps) A
 |ob {v:V} {o:Oo} {A:List Addr}:Ob K F H v o A->Ow K F H v (.ob o) A
 |obs {a:Addr} {xs:List V} {os:List Oo} {A:List Addr}:H a=some (.lst xs.reverse)->Obs K F H xs os A->Ow K F H (.ref a) (.obs os) (a::A)
 |obh {a b:Addr} {xs:List V} {os:List Oo} {A:List Addr}:H a=some (.lst (.ref b::xs).reverse)->Obs K F H xs os A->Ow K F H (.ref a) (.obh os b) (a::A)
section
variable {K:Frag} 
theorem Fw.keep(e:Same F F'){o:FV}(h:Fw K F H v o A)(k:∀a u,a∈A->H a=some u->H' a=some u):Fw K F' H' v o A:=by
 cases h with
 |fz h=>exact .fz (h.mono e)
 |fl h t=>exact .fl (k _ _ (aab ..) h) (t.mono e)
 |fd h q t=>exact .fd (k _ _ (aab ..) h) q (t.mono e)
 |ft h q t=>exact .ft (k _ _ (aab ..) h) q (t.mono e)
theorem Fws.keep(e:Same F F'){v:List V}{o:List FV}(h:Fws K F H v o A)(k:∀a u,a∈A->H a=some u->H' a=some u):Fws K F' H' v o A:=by
 induction h with
 |nil=>exact .nil
 |cons h t c=>exact .cons (h.keep e λa u b=>k a u (aaw _ b)) (c λa u b=>k a u (aal _ b))
theorem Ob.keep(e:Same F F'){o:Oo}(h:Ob K F H v o A)(k:∀a u,a∈A->H a=some u->H' a=some u):Ob K F' H' v o A:=by
 cases h with
 |mk h c n l t=>exact .mk (k _ _ (aab ..) h) c n l (t.keep e λa u b=>k a u (aae _ b))
theorem Obs.keep(e:Same F F'){v:List V}{o:List Oo}(h:Obs K F H v o A)(k:∀a u,a∈A->H a=some u->H' a=some u):Obs K F' H' v o A:=by
 induction h with
 |nil=>exact .nil
 |cons h t c=>exact .cons (h.keep e λa u b=>k a u (aaw _ b)) (c λa u b=>k a u (aal _ b))
theorem Fw.live{o:FV}(h:Fw K F H v o A):∀a∈A,∃u,H a=some u:=by
 cases h with
 |fz h=>exact λ_ z=>nomatch z
 |fl h t=>exact λb z=>⟨_,abG.mp z ▸ h⟩
 |fd h q t=>exact λb z=>⟨_,abG.mp z ▸ h⟩
 |ft h q t=>exact λb z=>⟨_,abG.mp z ▸ h⟩
theorem Fws.live{v:List V}{o:List FV}(h:Fws K F H v o A):∀a∈A,∃u,H a=some u:=by
 induction h with
 |nil=>exact λ_ z=>nomatch z
 |cons h t c=>exact λb z=>(abA.mp z).elim (h.live b) (c b)
theorem Ob.live{o:Oo}(h:Ob K F H v o A):∀a∈A,∃u,H a=some u:=by
 cases h with
 |mk h c n l t=>exact λb z=>(abH.mp z).elim (λz=>⟨_,z ▸ h⟩) (t.live b)
theorem Obs.live{v:List V}{o:List Oo}(h:Obs K F H v o A):∀a∈A,∃u,H a=some u:=by
 induction h with
 |nil=>exact λ_ z=>nomatch z
 |cons h t c=>exact λb z=>(abA.mp z).elim (h.live b) (c b)
end
inductive Ows(K:Frag)(F H:Hp):List V->List OV->List Addr->Prop where
 |nil:Ows K F H [] [] []
 |cons {x:V} {o:OV} {xs:List V} {os:List OV} {A B:List Addr}:Ow K F H x o A->Ows K F H xs os B->Ows K F H (x::xs) (o::os) (A++B)
theorem Ow.keep{K:Frag}(e:Same F F')(h:Ow K F H v o A)(k:∀a u,a∈A->H a=some u->H' a=some u):Ow K F' H' v o A:=by
 cases h with
 |fz h=>exact .fz (h.mono e)
 |fl h t=>exact .fl (k _ _ (aab ..) h) (t.mono e)
 |fd h q t=>exact .fd (k _ _ (aab ..) h) q (t.mono e)
 |ft h q t=>exact .ft (k _ _ (aab ..) h) q (t.mono e)
 |ot h t=>exact .ot (e _ _ h) (t.keep e k)
 |ob h=>exact .ob (h.keep e k)
 |obs h t=>exact .obs (k _ _ (aab ..) h) (t.keep e λa u b=>k a u (aae _ b))
 |obh h t=>exact .obh (k _ _ (aab ..) h) (t.keep e λa u b=>k a u (aae _ b))
theorem Ows.keep{K:Frag}(e:Same F F'){v:List V}{o:List OV}(h:Ows K F H v o A)(k:∀a u,a∈A->H a=some u->H' a=some u):Ows K F' H' v o A:=by
 induction h with
 |nil=>exact .nil
 |cons h t c=>exact .cons (h.keep e λa u b=>k a u (aaw _ b)) (c λa u b=>k a u (aal _ b))
theorem Ow.live{K:Frag}(h:Ow K F H v o A):∀a∈A,∃u,H a=some u:=by
 cases h with
 |fz h=>exact λ_ z=>nomatch z
 |fl h t=>exact λb z=>⟨_,abG.mp z ▸ h⟩
 |fd h q t=>exact λb z=>⟨_,abG.mp z ▸ h⟩
 |ft h q t=>exact λb z=>⟨_,abG.mp z ▸ h⟩
 |ot h t=>exact t.live
 |ob h=>exact h.live
 |obs h t=>exact λb z=>(abH.mp z).elim (λz=>⟨_,z ▸ h⟩) (t.live b)
 |obh h t=>exact λb z=>(abH.mp z).elim (λz=>⟨_,z ▸ h⟩) (t.live b)
theorem Ows.live{K:Frag}{v:List V}{o:List OV}(h:Ows K F H v o A):∀a∈A,∃u,H a=some u:=by
 induction h with
 |nil=>exact λ_ z=>nomatch z
 |cons h t c=>exact λb z=>(abA.mp z).elim (h.live b) (c b)
def NT(H:Hp)(A:List Addr):Prop:=∀a∈A,∀xs,H a≠some (.tup xs)
theorem NT.nil :NT H []:=λ_ z=>nomatch z
theorem NT.one{o:HO}(h:H a=some o)(n:∀xs,o≠.tup xs)(t:NT H A):NT H (a::A):=λb c xs z=>(abH.mp c).elim (λy=>n xs (aai (h.symm.trans (y ▸ z)))) (λy=>t b y xs z)
theorem NT.app(s:NT H A)(t:NT H B):NT H (A++B):=λb a=>(abA.mp a).elim (s b) (t b)
section
variable {K:Frag} 
theorem Fw.nt{o:FV}(h:Fw K F H v o A):NT H A:=by
 cases h with
 |fz h=>exact .nil
 |fl h t=>exact .one h (λ_ z=>nomatch z) .nil
 |fd h q t=>exact .one h (λ_ z=>nomatch z) .nil
 |ft h q t=>exact .one h (λ_ z=>nomatch z) .nil
theorem Fws.nt{v:List V}{o:List FV}(h:Fws K F H v o A):NT H A:=by
 induction h with
 |nil=>exact .nil
 |cons h t a=>exact h.nt.app a
theorem Ob.nt{o:Oo}(h:Ob K F H v o A):NT H A:=by
 cases h with
 |mk h c n l t=>exact .one h (λ_ z=>nomatch z) t.nt
theorem Obs.nt{v:List V}{o:List Oo}(h:Obs K F H v o A):NT H A:=by
 induction h with
 |nil=>exact .nil
 |cons h t a=>exact h.nt.app a
theorem Ow.nt(h:Ow K F H v o A):NT H A:=by
 cases h with
 |fz h=>exact .nil
 |fl h t=>exact .one h (λ_ z=>nomatch z) .nil
 |fd h q t=>exact .one h (λ_ z=>nomatch z) .nil
 |ft h q t=>exact .one h (λ_ z=>nomatch z) .nil
 |ot h t=>exact t.nt
 |ob h=>exact h.nt
 |obs h t=>exact .one h (λ_ z=>nomatch z) t.nt
 |obh h t=>exact .one h (λ_ z=>nomatch z) t.nt
end
def hJ:FV->D
 |.fz d=>d
 |.fl _ ds=>.lst ds
 |.fd _ ks ds=>.dct ks ds
 |.ft _ ks ds=>.dt ks ds
def Gm:OV->Option D
 |.fz d=>some d
 |.fl ds=>some (.lst ds)
 |.fd ks ds=>some (.dct ks ds)
 |.ft ks ds=>some (.dt ks ds)
 |.ot ps=>some (.tup (ps.map hJ))
 |_=>none
theorem Fw.freeze{K:Frag}(e:Same F F'){o:FV}(h:Fw K F H v o A)(k:∀a u,a∈A->H a=some u->F' a=some u):Den K F' v (hJ o):=by
 cases h with
 |fz h=>exact h.mono e
 |fl h t=>exact .lst (SqL.of (k _ _ (aab ..) h)) (t.mono e)
 |fd h q t=>exact .dct (.inl (k _ _ (aab ..) h)) q (t.mono e)
 |ft h q t=>exact .dt (.inl (k _ _ (aab ..) h)) q (t.mono e)
theorem Fws.freeze{K:Frag}(e:Same F F'){v:List V}{o:List FV}(h:Fws K F H v o A)(k:∀a u,a∈A->H a=some u->F' a=some u):Dens K F' v (o.map hJ):=by
 induction h with
 |nil=>exact .nil
 |cons h t c=>exact .cons (h.freeze e λa u b=>k a u (aaw _ b)) (c λa u b=>k a u (aal _ b))
theorem Ow.freeze{K:Frag}(e:Same F F')(h:Ow K F H v o A)(k:∀a u,a∈A->H a=some u->F' a=some u)(hd:Gm o=some d):Den K F' v d:=by
 cases h with
 |fz h=>cases hd;exact h.mono e
 |fl h t=>cases hd;exact .lst (SqL.of (k _ _ (aab ..) h)) (t.mono e)
 |fd h q t=>cases hd;exact .dct (.inl (k _ _ (aab ..) h)) q (t.mono e)
 |ft h q t=>cases hd;exact .dt (.inl (k _ _ (aab ..) h)) q (t.mono e)
 |ot h t=>cases hd;exact .tup (e _ _ h) (t.freeze e k)
 |_=>cases hd
def flat:OV->Option D
 |.fz d=>some d
 |.fl ds=>some (.lst ds)
 |.fd ks ds=>some (.dct ks ds)
 |.ft ks ds=>some (.dt ks ds)
 |_=>none
inductive Acc(K:Frag)(F H:Hp):V->D->Prop where
 |fz {v:V} {d:D}:Den K F v d->Acc K F H v d
 |lst {a:Addr} {xs:List V} {ds:List D}:H a=some (.lst xs)->Dens K F xs ds->Acc K F H (.ref a) (.lst ds)
 |dct {a:Addr} {ys:List (Key×V)} {ks:List Key} {ds:List D}:H a=some (.dK ys)->ys.map (·.1)=ks->Dens K F (ys.map (·.2)) ds->Acc K F H (.ref a) (.dct ks ds)
 |dt {a:Addr} {ys:List (List Key×V)} {ks:List (List Key)} {ds:List D}:H a=some (.dT ys)->ys.map (·.1)=ks->Dens K F (ys.map (·.2)) ds->Acc K F H (.ref a) (.dt ks ds)
section
variable {K:Frag} 
theorem Ow.acc(h:Ow K F H v o A)(e:flat o=some d):Acc K F H v d:=by
 cases h with
 |fz h=>simp only[flat,Option.some.injEq] at e;subst e;exact .fz h
 |fl h t=>simp only[flat,Option.some.injEq] at e;subst e;exact .lst h t
 |fd h q t=>simp only[flat,Option.some.injEq] at e;subst e;exact .dct h q t
 |ft h q t=>cases e;exact .dt h q t
 |_=>cases e
theorem Acc.den(e:Same F H)(h:Acc K F H v d):Den K H v d:=by
 cases h with
 |fz h=>exact h.mono e
 |lst h t=>exact .lst (SqL.of h) (t.mono e)
 |dct h k t=>exact .dct (.inl h) k (t.mono e)
 |dt h k t=>exact .dt (.inl h) k (t.mono e)
theorem Acc.asL(e:Same F H)(h:Acc K F H v (.lst ds)):∃a xs,v=.ref a/\SqL K H a xs/\Dens K F xs ds:=by
 cases h with
 |fz h=>cases h with|lst h t=>exact⟨_,_,rfl,e.seq h,t⟩
 |lst h t=>exact⟨_,_,rfl,SqL.of h,t⟩
theorem Acc.asT(e:Same F H)(h:Acc K F H v (.tup ds)):∃a xs,v=.ref a/\SqT K H a xs/\Dens K F xs ds:=by
 cases h with
 |fz h=>cases h with|tup h t=>exact⟨_,_,rfl,SqT.of (e _ _ h),t⟩
theorem Acc.asD(e:Same F H)(h:Acc K F H v (.dct ks ds)):∃a ys,v=.ref a/\Rd H a (.dK ys)/\ys.map (·.1)=ks/\Dens K F (ys.map (·.2)) ds:=by
 cases h with
 |fz h=>cases h with|dct h k t=>exact⟨_,_,rfl,e.rd h,k,t⟩
 |dct h k t=>exact⟨_,_,rfl,.inl h,k,t⟩
theorem Acc.asTH(e:Same F H)(h:Acc K F H v (.tup ds)):∃a xs,v=.ref a/\H a=some (.tup xs)/\Dens K F xs ds:=by
 cases h with
 |fz h=>cases h with|tup h t=>exact⟨_,_,rfl,e _ _ h,t⟩
theorem Acc.asG(e:Same F H)(h:Acc K F H v (.gt ds)):∃a xs,v=.ref a/\SqT K H a xs/\Dens K F xs ds:=by
 cases h with
 |fz h=>cases h with|gt h t=>exact⟨_,_,rfl,h.same e,t⟩
theorem Acc.asDT{ks:List (List Key)}(e:Same F H)(h:Acc K F H v (.dt ks ds)):∃a ys,v=.ref a/\Rd H a (.dT ys)/\ys.map (·.1)=ks/\Dens K F (ys.map (·.2)) ds:=by
 cases h with
 |fz h=>cases h with|dt h k t=>exact⟨_,_,rfl,e.rd h,k,t⟩
 |dt h k t=>exact⟨_,_,rfl,.inl h,k,t⟩
theorem Acc.str_eq(h:Acc K F H v (.str z)):v=.str z:=by cases h with|fz h=>exact h.str_eq
theorem Acc.int_eq{z:Int}(h:Acc K F H v (.int z)):v=.int z:=by cases h with|fz h=>exact h.int_eq
theorem Acc.bl_eq{z:Bool}(h:Acc K F H v (.bl z)):v=.bl z:=by cases h with|fz h=>exact h.bl_eq
theorem Acc.non_eq(h:Acc K F H v .non):v=.non:=by cases h with|fz h=>exact h.non_eq
theorem Acc.ty_eq{T:String}(h:Acc K F H v (.ty T)):v=.ty T:=by cases h with|fz h=>cases h;rfl
end
abbrev FSt:=List (Option OV)
variable{ρ:FSt}
inductive Slots(K:Frag)(F H:Hp):St->FSt->List Addr->Prop where
 |nil:Slots K F H [] [] []
 |skip {x:Option V} {σ:St} {ρ:FSt} {A:List Addr}:Slots K F H σ ρ A->Slots K F H (x::σ) (none::ρ) A
 |has {v:V} {o:OV} {σ:St} {ρ:FSt} {A B:List Addr}:Ow K F H v o A->Slots K F H σ ρ B->Slots K F H (some v::σ) (some o::ρ) (A++B)
section
variable {K:Frag} 
theorem Slots.keep(e:Same F F')(h:Slots K F H σ ρ A)(k:∀a u,a∈A->H a=some u->H' a=some u):Slots K F' H' σ ρ A:=by
 induction h with
 |nil=>exact .nil
 |skip t b=>exact .skip (b k)
 |has h t b=>exact .has (h.keep e λa u c=>k a u (aaw _ c)) (b λa u c=>k a u (aal _ c))
theorem Slots.live(h:Slots K F H σ ρ A):∀a∈A,∃u,H a=some u:=by
 induction h with
 |nil=>exact λ_ z=>nomatch z
 |skip t c=>exact c
 |has h t c=>exact λb z=>(abA.mp z).elim (h.live b) (c b)
theorem Slots.nt(h:Slots K F H σ ρ A):NT H A:=by
 induction h with
 |nil=>exact .nil
 |skip _ a=>exact a
 |has h _ a=>exact h.nt.app a
theorem Slots.len(h:Slots K F H σ ρ A):σ.length=ρ.length:=by
 induction h with
 |nil=>rfl
 |skip t a=>exact congrArg (·+1) a
 |has _ t a=>exact congrArg (·+1) a
theorem Slots.take(h:Slots K F H σ ρ A)(e:ρ[i]?=some (some o)):∃v B A',σ[i]?=some (some v)/\Ow K F H v o B/\A.Perm (B++A')/\Slots K F H σ (ρ.set i none) A':=by
 induction h generalizing i with
 |nil=>cases e
 | skip t a=>
  cases i with
  |zero=>cases e
  | succ i=>
   obtain⟨v,B,A',h1,h2,c,b⟩:=a (i:=i) e;exact⟨v,B,A',h1,h2,c,.skip b⟩
 | @has _ _ _ _ C _ h t a=>
  cases i with
  |zero=>cases e;exact ⟨_,_,_,rfl,h,aaC _,.skip t⟩
  | succ i=>
   obtain⟨v,B,A',h1,h2,c,b⟩:=a (i:=i) e;exact⟨v,B,C++A',h1,h2,(aaP C c).trans (by rw[← aap,← aap];exact aa4 A' aaY),.has h b⟩
theorem Slots.drop(i:Nat)(x:Option V)(h:Slots K F H σ ρ A):∃A' B,A.Perm (B++A')/\Slots K F H (σ.set i x) (ρ.set i none) A':=by
 induction h generalizing i with
 |nil=>exact⟨[],[],aaC _,.nil⟩
 | skip t a=>
  cases i with
  |zero=>exact ⟨_,[],aaC _,.skip t⟩
  | succ i=>
   obtain⟨A',B,h1,h2⟩:=a i;exact⟨A',B,h1,.skip h2⟩
 | @has _ _ _ _ C _ h t a=>
  cases i with
  |zero=>exact ⟨_,_,aaC _,.skip t⟩
  | succ i=>
   obtain⟨A',B,c,b⟩:=a i;exact⟨C++A',B,(aaP C c).trans (by rw[← aap,← aap];exact aa4 A' aaY),.has h b⟩
theorem Slots.put(s:Slots K F H σ ρ A)(e:ρ[i]?=some none)(b:σ[i]?=some (some v))(h:Ow K F H v o B):∃A',A'.Perm (B++A)/\Slots K F H σ (ρ.set i (some o)) A':=by
 induction s generalizing i with
 |nil=>cases e
 | skip t a=>
  cases i with
  |zero=>cases b;exact ⟨_,aaC _,.has h t⟩
  | succ i=>
   obtain⟨A',h1,h2⟩:=a (i:=i) e b;exact⟨A',h1,.skip h2⟩
 | @has _ _ _ _ C _ h' t a=>
  cases i with
  |zero=>cases e
  | succ i=>
   obtain⟨A',h1,h2⟩:=a (i:=i) e b;exact⟨C++A',(aaP C h1).trans (by rw[← aap,← aap];exact aa4 _ aaY),.has h' h2⟩
end
inductive RV where
 |ov (o:OV)|br (i:Nat)
variable{r:RV}
structure SameN(Z H:Hp):Prop where
 s:Same Z H
 n:∀a xs,Z a≠some (.tup xs)
theorem SameN.free(h:SameN Z H)(e:H a=none):Z a=none:=h.s.free e
theorem SameN.trans(h:SameN Z H)(e:Same H H'):SameN Z H':=⟨h.s.trans e,h.n⟩
theorem SameN.back{b:Hp}(h:SameN b H)(e:Same Z b):SameN Z H:=⟨e.trans h.s,λa xs z=>h.n a xs (e a _ z)⟩
theorem SameN.none :SameN (λ_=>.none) H:=⟨(λ_ _ z=>nomatch z),λ_ _ z=>nomatch z⟩
structure Rel(K:Frag)(F Z H:Hp)(σ:St)(ρ:FSt)(A:List Addr):Prop where
 sl:Slots K F H σ ρ A
 nd:A.Nodup
 fr:∀a∈A,F a=none/\Z a=none
 fh:Same F H
 zh:SameN Z H
 dj:∀a o,F a=some o->Z a=none
def RV1(K:Frag)(F H:Hp)(σ:St)(v:V):RV->List Addr->Prop
 |.ov o,B=>Ow K F H v o B
 |.br i,B=>σ[i]?=some (some v)/\B=[]
structure Fresh(F Z:Hp)(A B:List Addr):Prop where
 nd:B.Nodup
 fr:∀b∈B,F b=none/\Z b=none/\b∉A
theorem Fresh.nil :Fresh F Z A []:=⟨abQ,λ_ z=>nomatch z⟩
inductive RVL(K:Frag)(F H:Hp)(σ:St):List V->List RV->List Addr->Prop where
 |nil:RVL K F H σ [] [] []
 |cons {v:V} {r:RV} {vs:List V} {rs:List RV} {A B:List Addr}:RV1 K F H σ v r A->RVL K F H σ vs rs B->RVL K F H σ (v::vs) (r::rs) (A++B)
section
variable {K:Frag}    
theorem RV1.keep(h:RV1 K F H σ v r B)(e:Same F F')(k:∀a u,a∈B->H a=some u->H' a=some u):RV1 K F' H' σ v r B:=by
 cases r with
 |ov o=>exact Ow.keep e h k
 |br i=>exact h
theorem RV1.live(h:RV1 K F H σ v r B):∀b∈B,∃u,H b=some u:=by
 cases r with
 |ov o=>exact Ow.live h
 |br i=>intro b a;rw[h.2] at a;cases a
theorem RV1.nt(h:RV1 K F H σ v r B):NT H B:=by
 cases r with
 |ov o=>exact Ow.nt h
 |br i=>intro b a;rw[h.2] at a;cases a
theorem RVL.keep(e:Same F F'){v:List V}{r:List RV}(h:RVL K F H σ v r B)(k:∀a u,a∈B->H a=some u->H' a=some u):RVL K F' H' σ v r B:=by
 induction h with
 |nil=>exact .nil
 |cons h t c=>exact .cons (h.keep e λa u b=>k a u (aaw _ b)) (c λa u b=>k a u (aal _ b))
theorem mix(B:List Addr)(H Z:Hp):∃G:Hp,(∀b,b∈B->G b=H b)/\∀b,b∉B->G b=Z b:=by
 classical
 exact⟨λb=>if b∈B then H b else Z b,λb a=>if_pos a,λb a=>if_neg a⟩
theorem Rel.hold(R:Rel K F Z H σ ρ A)(live:∀b∈B,∃u,H b=some u)(nt:NT H B)(f:Fresh F Z A B):∃i,Same Z i/\Rel K F i H σ ρ A/\(∀b∈B,∃u,i b=some u) /\
  ∀k H2 g l,Same F k->Rel K k i H2 σ g l->Rel K k Z H2 σ g l/\Fresh k Z l B/\∀b u,b∈B->H b=some u->H2 b=some u:=by
 obtain⟨i,e,d⟩:=mix B H Z;refine⟨i,λb o h=>?_,⟨R.sl,R.nd,λa j=>⟨(R.fr a j).1,?_⟩,R.fh,⟨λb o h=>?_,λb xs h=>?_⟩,λa o h=>?_⟩,λb c=>?_,λk H2 g l m R2=>?_⟩
 ·rw[d b λc=>by rw[(f.fr b c).2.1] at h;cases h];exact h
 ·rw[d a λc=>(f.fr a c).2.2 j];exact(R.fr a j).2
 ·by_cases c:b∈B
  ·rw[e b c] at h;exact h
  ·rw[d b c] at h;exact R.zh.s b o h
 ·by_cases c:b∈B
  ·rw[e b c] at h;exact nt b c xs h
  ·rw[d b c] at h;exact R.zh.n b xs h
 ·rw[d a λc=>by rw[(f.fr a c).1] at h;cases h];exact R.dj a o h
 ·obtain⟨u,hu⟩:=live b c;exact⟨u,by rw[e b c];exact hu⟩
 ·have sz:Same Z i:=λb o h=>by
   rw[d b λc=>by rw[(f.fr b c).2.1] at h;cases h];exact h
  refine⟨⟨R2.sl,R2.nd,λa j=>⟨(R2.fr a j).1,sz.free (R2.fr a j).2⟩,R2.fh,R2.zh.back sz,λa o h=>sz.free (R2.dj a o h)⟩,⟨f.nd,λb c=>?_⟩,λb u c hu=>?_⟩
  ·obtain⟨u,hu⟩:=live b c;refine⟨?_,(f.fr b c).2.1,λh=>?_⟩
   ·cases q:k b with
    |none=>rfl
    | some w=>
     have:=R2.dj b w q;rw[e b c,hu] at this;cases this
   ·have:=(R2.fr b h).2;rw[e b c,hu] at this;cases this
  ·exact R2.zh.s b u (by rw[e b c];exact hu)
structure Pure(F H F' H':Hp):Prop where
 ff:Same F F'
 hh:Same H H'
 fh:Same F' H'
 nw:∀a o,F' a=some o->F a=none->H a=none
theorem Pure.refl(e:Same F H):Pure F H F H:=⟨Same.refl _,Same.refl _,e,λa o h n=>by rw[n] at h;cases h⟩
theorem Pure.new{o:HO}(e:Same F H)(hp:H p=none):Pure F H F (upd H p o):=⟨Same.refl _,bO hp,e.trans (bO hp),λa o h n=>by rw[n] at h;cases h⟩
theorem Pure.frz{p:Addr}{o:HO}(e:Same F H)(hp:H p=none):Pure F H (upd F p o) (upd H p o):=by
 have d:F p=none:=e.free hp;refine⟨bO d,bO hp,λb u h=>?_,λa u h n=>?_⟩
 ·by_cases c:b=p
  ·subst c;rw[af] at h ⊢;exact h
  ·rw[ai c] at h ⊢;exact e b u h
 ·by_cases c:a=p
  ·subst c;exact hp
  ·rw[ai c,n] at h;cases h
theorem Rel.step(R:Rel K F Z H σ ρ A)(p:Pure F H F' H'):Rel K F' Z H' σ ρ A:=by
 refine⟨R.sl.keep p.ff λa u _ h=>p.hh a u h,R.nd,λa b=>⟨?_,(R.fr a b).2⟩,p.fh,R.zh.trans p.hh,λa o h=>?_⟩
 ·cases q:F' a with
  |none=>rfl
  | some o=>
   have:=p.nw a o q (R.fr a b).1;obtain⟨u,hu⟩:=R.sl.live a b;rw[hu] at this;cases this
 ·cases q:F a with
  |none=>exact R.zh.free (p.nw a o h q)
  |some u=>exact R.dj a u q
structure New(H F':Hp)(B:List Addr):Prop where
 nd:B.Nodup
 fr:∀b∈B,H b=none/\F' b=none
theorem New.nil:New H F' []:=⟨abQ,λ_ z=>nomatch z⟩
theorem New.one(h:H p=none)(f:F' p=none):New H F' [p]:=⟨by simp,λb a=>by
 have:b=p:=(by exists a);rw[this];exact⟨h,f⟩⟩
theorem Rel.fresh(R:Rel K F Z H σ ρ A)(n:New H F' B):Fresh F' Z A B:=⟨n.nd,λb a=>⟨(n.fr b a).2,R.zh.free (n.fr b a).1,λc=>by
 obtain⟨u,hu⟩:=R.sl.live b c;rw[(n.fr b a).1] at hu;cases hu⟩⟩
def KQ:RV->FSt->Option (D×FSt)
 | .ov o,ρ=>match Gm o with
  |some d=>some (d,ρ)
  |none=>none
 | .br i,ρ=>match ρ[i]? with
  | some (some o)=>match Gm o with
   |some d=>some (d,ρ.set i (some (.fz d)))
   |none=>none
  |_=>none
def fzR:RV->FSt->Option (D×FSt)
 |.ov (.fz d),ρ=>some (d,ρ)
 |.ov (.fl ds),ρ=>some (.lst ds,ρ)
 |.ov (.fd ks ds),ρ=>some (.dct ks ds,ρ)
 |.ov (.ft ks ds),ρ=>some (.dt ks ds,ρ)
 |.ov (.ot ps),ρ=>some (.tup (ps.map hJ),ρ)
 |.ov _,_=>none
 | .br i,ρ=>match ρ[i]? with
  |some (some (.fz d))=>some (d,ρ)
  |some (some (.fl ds))=>some (.lst ds,ρ.set i (some (.fz (.lst ds))))
  |some (some (.fd ks ds))=>some (.dct ks ds,ρ.set i (some (.fz (.dct ks ds))))
  |some (some (.ft ks ds))=>some (.dt ks ds,ρ.set i (some (.fz (.dt ks ds))))
  |some (some (.ot ps))=>some (.tup (ps.map hJ),ρ.set i (some (.fz (.tup (ps.map hJ)))))
  |_=>none
theorem HY{x:Option OV}(h:ρ[i]?=some x):ρ.set i x=ρ:=by
 apply List.ext_getElem?;intro j;by_cases a:i=j
 ·subst a;rw[h,List.getElem?_set_self (List.getElem?_eq_some_iff.mp h).1]
 ·rw[List.getElem?_set_ne a]
theorem HZ(r:RV)(ρ:FSt):fzR r ρ=KQ r ρ:=by
 cases r with
 |ov o=>cases o <;> rfl
 | br i=>
  simp only[fzR,KQ]
  cases e:ρ[i]? with
  |none=>rfl
  | some x=>
   cases x with
   |none=>rfl
   | some o=>
    cases o with
    |fz d=>simp only[Gm];rw[HY e]
    |_=>rfl
def fzL:List RV->FSt->Option (List D×FSt)
 |[],ρ=>some ([],ρ)
 | r::c,ρ=>match fzR r ρ with
  | some (d,b)=>match fzL c b with
   |some (ds,a)=>some (d::ds,a)
   |none=>none
  |none=>none
theorem Rel.grow(R:Rel K F Z H σ ρ A)(live:∀b∈B,∃u,H b=some u)(f:∀b∈B,F b=none/\Z b=none/\b∉A):∃F',Same F F'/\Rel K F' Z H σ ρ A/\(∀a u,a∈B->H a=some u->F' a=some u)/\∀a o,F' a=some o->F a=none->a∈B:=by
 obtain⟨G,e,c⟩:=mix B H F
 have s:Same F G:=λb o h=>by
  rw[c b λd=>by rw[(f b d).1] at h;cases h];exact h
 refine⟨G,s,⟨R.sl.keep s λ_ _ _ h=>h,R.nd,λa g=>⟨?_,(R.fr a g).2⟩,λb o h=>?_,R.zh,λa o h=>?_⟩,λa u g h=>?_,λa o h n=>?_⟩
 ·rw[c a λd=>(f a d).2.2 g];exact(R.fr a g).1
 ·by_cases d:b∈B
  ·rw[e b d] at h;exact h
  ·rw[c b d] at h;exact R.fh b o h
 ·by_cases d:a∈B
  ·exact(f a d).2.1
  ·rw[c a d] at h;exact R.dj a o h
 ·rw[e a g];exact h
 ·by_cases d:a∈B
  ·exact d
  ·rw[c a d,n] at h;cases h
theorem bd{C:List Addr}(h:A.Perm (B++C))(n:A.Nodup):B.Nodup/\C.Nodup/\(∀b∈B,b∉C):=by
 have:=h.nodup_iff.mp n;rw[abN] at this;exact⟨this.1,this.2.1,λb c a=>this.2.2 b c b a rfl⟩
theorem Rel.takeI(R:Rel K F Z H σ ρ A)(e:ρ[i]?=some (some o)):∃v B A',σ[i]?=some (some v)/\Ow K F H v o B/\Rel K F Z H σ (ρ.set i none) A'/\Fresh F Z A' B/\A.Perm (B++A'):=by
 obtain⟨v,B,A',h1,h2,d,j⟩:=R.sl.take e;obtain⟨n1,n2,n3⟩:=bd d R.nd;have mA:∀a∈A',a∈A:=λa c=>d.mem_iff.mpr (abA.mpr (.inr c));have g:∀a∈B,a∈A:=λa c=>d.mem_iff.mpr (abA.mpr (.inl c));exact⟨v,B,A',h1,h2,⟨j,n2,λa c=>R.fr a (mA a c),R.fh,R.zh,R.dj⟩,⟨n1,λb f=>⟨(R.fr b (g b f)).1,(R.fr b (g b f)).2,n3 b f⟩⟩,d⟩
theorem eI(e:ρ[i]?=some (some o)):(ρ.set i none)[i]?=some none:=by
 have hi:i<ρ.length:=(List.getElem?_eq_some_iff.mp e).1;simp[hi]
theorem Rel.putI(R:Rel K F Z H σ ρ A)(e:ρ[i]?=some none)(d:σ[i]?=some (some v))(h:Ow K F H v o B)(f:Fresh F Z A B):∃A',Rel K F Z H σ (ρ.set i (some o)) A'/\A'.Perm (B++A):=by
 obtain⟨A',h1,h2⟩:=R.sl.put e d h;refine⟨A',⟨h2,h1.nodup_iff.mpr ?_,λa c=>?_,R.fh,R.zh,R.dj⟩,h1⟩
 ·exact abN.mpr ⟨f.nd,R.nd,λa c b g z=>(f.fr a c).2.2 (z ▸ g)⟩
 ·rcases abA.mp (h1.mem_iff.mp c) with q|q
  ·exact⟨(f.fr a q).1,(f.fr a q).2.1⟩
  ·exact R.fr a q
theorem Rel.frz{v:V}{r:RV}{B:List Addr}{d:D}{b:FSt}(R:Rel K F Z H σ ρ A)(h:RV1 K F H σ v r B)(f:Fresh F Z A B)(e:fzR r ρ=some (d,b)) :
  ∃F' A',Same F F'/\Rel K F' Z H σ b A'/\Den K F' v d/\(∀a o,F' a=some o->F a=none->a∈A∨a∈B)/\∀a∈A',a∈A:=by
 rw[HZ] at e
 cases r with
 | ov o=>
  simp only[KQ] at e
  cases hs:Gm o with
  |none=>rw [hs] at e;cases e
  | some t=>
   rw[hs] at e;cases e;obtain⟨F',s,c,k,n⟩:=R.grow (Ow.live h) f.fr;exact⟨F',A,s,c,Ow.freeze s h k hs,λa o h1 h2=>.inr (n a o h1 h2),λ_ z=>z⟩
 | br i=>
  simp only[KQ] at e;split at e
  ·rename_i o ho
   cases hs:Gm o with
   |none=>rw[hs] at e;cases e
   | some t=>
    rw[hs] at e;cases e;obtain⟨j,w,A',h1,h2,c,q,pm⟩:=R.takeI ho;have m:j=v:=aai (aai (h1.symm.trans h.1));subst m;obtain⟨F',s,R2,k,n⟩:=c.grow (Ow.live h2) q.fr;have dn:=Ow.freeze s h2 k hs;obtain⟨u,g,l⟩:=R2.putI (eI ho) h1 (.fz dn) Fresh.nil;rw[abr] at g;refine⟨F',u,s,g,dn,λa o h1 h2=>.inl (pm.mem_iff.mpr (abA.mpr (.inl (n a o h1 h2)))),λa p=>?_⟩;have:=l.mem_iff.mp p;exact pm.mem_iff.mpr (abA.mpr (.inr (by exists this)))
  ·cases e
theorem Rel.frzL:∀{c:List RV} {vs:List V} {B:List Addr} {ds:List D} {ρ a:FSt} {F:Hp} {A:List Addr},Rel K F Z H σ ρ A->RVL K F H σ vs c B->Fresh F Z A B->fzL c ρ=some (ds,a) ->
  ∃F' A',Same F F'/\Rel K F' Z H σ a A'/\Dens K F' vs ds:=by
 intro c
 induction c with
 | nil=>
  intro vs B ds ρ a F A R h f e;simp only[fzL,Option.some.injEq,Prod.mk.injEq] at e;obtain⟨rfl,rfl⟩:=e;cases h;exact⟨F,A,Same.refl _,R,.nil⟩
 | cons r c o=>
  intro vs B ds ρ a F A R h f e
  cases h with
  | @cons v _ vs _ I B2 h t=>
   simp only[fzL] at e;split at e
   ·rename_i d l s;split at e
    ·rename_i w k p;simp only[Option.some.injEq,Prod.mk.injEq] at e;obtain⟨rfl,rfl⟩:=e;obtain⟨n1,n2,n3⟩:=bd (aaC (I++B2)) f.nd;obtain⟨G,L,j,C,y,m,n⟩:=R.frz h ⟨n1,λb g=>f.fr b (abA.mpr (.inl g))⟩ s
     obtain⟨E,J,i,R2,x⟩:=o C (t.keep j λ_ _ _ z=>z) ⟨n2,λb g=>by
      have fb:=f.fr b (abA.mpr (.inr g));refine⟨?_,fb.2.1,λz=>fb.2.2 (n b z)⟩
      cases q:G b with
      |none=>rfl
      | some u=>
       rcases m b u q fb.1 with z|z
       ·exact absurd z fb.2.2
       ·exact absurd g (n3 b z)⟩ p
     exact⟨E,J,j.trans i,R2,.cons (y.mono i) x⟩
    ·cases e
   ·cases e
def look(ρ:FSt):RV->Option OV
 |.ov o=>some o
 | .br i=>match ρ[i]? with
  |some (some o)=>some o
  |_=>none
def iX(ρ:FSt):RV->Option D
 |.ov o=>flat o
 | .br i=>match ρ[i]? with
  |some (some o)=>flat o
  |_=>none
def jp(ρ:FSt):List RV->Option (List D)
 |[]=>some []
 | r::a=>match iX ρ r with
  | some d=>match jp ρ a with
   |some ds=>some (d::ds)
   |none=>none
  |none=>none
theorem Rel.acc(R:Rel K F Z H σ ρ A)(h:RV1 K F H σ v r B)(e:iX ρ r=some d):Acc K F H v d:=by
 cases r with
 |ov o=>exact Ow.acc h e
 | br i=>
  simp only[iX] at e;split at e
  ·rename_i o ho;obtain⟨a,c,A',h1,h2,_⟩:=R.takeI ho;have b:a=v:=aai (aai (h1.symm.trans h.1));subst b;exact h2.acc e
  ·cases e
inductive Accs(K:Frag)(F H:Hp):List V->List D->Prop where
 |nil:Accs K F H [] []
 |cons {v:V} {d:D} {vs:List V} {ds:List D}:Acc K F H v d->Accs K F H vs ds->Accs K F H (v::vs) (d::ds)
theorem Rel.accs{a:List RV}(R:Rel K F Z H σ ρ A)(h:RVL K F H σ vs a B)(e:jp ρ a=some ds):Accs K F H vs ds:=by
 induction h generalizing ds with
 |nil=>cases e;exact .nil
 | @cons v r vs a A B h t f=>
  unfold jp at e
  cases b:iX ρ r with
  |none=>rw [b] at e;cases e
  | some d=>
   cases c:jp ρ a with
   |none=>rw[b,c] at e;cases e
   | some g=>
    rw[b,c] at e;cases e;exact .cons (R.acc h b) (f c)
end
abbrev FE:=FSt->(RV->FSt->Prop)->Prop
variable{fa fb fe fk:FE}
abbrev FT:=FSt->(Bool->FSt->Prop)->Prop
variable{fc ft:FT}
abbrev FA:=FSt->(List RV->FSt->Prop)->Prop
abbrev FO:=FSt->(Option Int->FSt->Prop)->Prop
def View(μ:List Nat)(a σ:St):Prop:=∀j i:Nat,μ[j]?=some i->a[j]?=σ[i]?/\j<a.length/\i<σ.length
theorem View.id(a:σ.length=n):View (List.range n) σ σ:=λj i h=>by
 rw[List.getElem?_eq_some_iff] at h;obtain⟨h1,h2⟩:=h;rw[List.getElem_range] at h2;rw[abX] at h1;subst h2;exact⟨rfl,by nofun,by nofun⟩
structure EF(K:Frag)(μ:List Nat)(t:TE)(f:FE):Prop where
 h:∀{F Z H:Hp} {τ σ:St} {ρ:FSt} {A:List Addr} {Q:VK} {P:RV->FSt->Prop},View μ τ σ->Rel K F Z H σ ρ A->f ρ P ->
  (∀r ρ' v F' H' A' B,P r ρ'->Same F F'->Rel K F' Z H' σ ρ' A'->RV1 K F' H' σ v r B->Fresh F' Z A' B->Q v H')->t τ H Q
structure TF(K:Frag)(μ:List Nat)(t:TT)(f:FT):Prop where
 h:∀{F Z H:Hp} {τ σ:St} {ρ:FSt} {A:List Addr} {Q:Bool->Hp->Prop} {P:Bool->FSt->Prop},View μ τ σ->Rel K F Z H σ ρ A->f ρ P ->
  (∀b ρ' F' H' A',P b ρ'->Same F F'->Rel K F' Z H' σ ρ' A'->Q b H')->t τ H Q
structure AF(K:Frag)(μ:List Nat)(t:TA)(f:FA):Prop where
 h:∀{F Z H:Hp} {τ σ:St} {ρ:FSt} {A:List Addr} {Q:List V->Hp->Prop} {P:List RV->FSt->Prop},View μ τ σ->Rel K F Z H σ ρ A->f ρ P ->
  (∀rs ρ' vs F' H' A' B,P rs ρ'->Same F F'->Rel K F' Z H' σ ρ' A'->RVL K F' H' σ vs rs B->Fresh F' Z A' B->Q vs H')->t τ H Q
structure OF(K:Frag)(μ:List Nat)(t:TO)(f:FO):Prop where
 h:∀{F Z H:Hp} {τ σ:St} {ρ:FSt} {A:List Addr} {Q:Option Int->Hp->Prop} {P:Option Int->FSt->Prop},View μ τ σ->Rel K F Z H σ ρ A->f ρ P ->
  (∀x ρ' F' H' A',P x ρ'->Same F F'->Rel K F' Z H' σ ρ' A'->Q x H')->t τ H Q
def Dm(K:Frag)(F H:Hp)(P:OV->Prop)(Q:VK):Prop:=∀o v F' H' B,P o->Pure F H F' H'->Ow K F' H' v o B->New H F' B->Q v H'
structure OpF(K:Frag)(r:R2)(f:D->D->(OV->Prop)->Prop):Prop where
 h:∀{F H:Hp} {x y:V} {d e:D} {Q:VK} {P:OV->Prop},Same F H->Acc K F H x d->Acc K F H y e->f d e P->Dm K F H P Q->r x y H Q
structure CallF(K:Frag)(r:List V->Hp->VK->Prop)(f:List D->(OV->Prop)->Prop):Prop where
 h:∀{F H:Hp} {xs:List V} {ds:List D} {Q:VK} {P:OV->Prop},Same F H->Accs K F H xs ds->f ds P->Dm K F H P Q->r xs H Q
structure SlF(K:Frag)(r:V->Option Int->Option Int->Hp->VK->Prop)(f:D->Option Int->Option Int->(OV->Prop)->Prop):Prop where
 h:∀{F H:Hp} {x:V} {d:D} {lo hi:Option Int} {Q:VK} {P:OV->Prop},Same F H->Acc K F H x d->f d lo hi P->Dm K F H P Q->r x lo hi H Q
@[irreducible] def br(b:Bool)(A B:Prop):Prop:=if b=true then A else B
theorem cH{A B:Prop}(h:A):br true A B:=by unfold br;exact h
theorem cJ{A B:Prop}(h:B):br false A B:=by unfold br;exact h
theorem wa{A B:Prop}(h:br true A B):A:=by unfold br at h;exact h
theorem wb{A B:Prop}(h:br false A B):B:=by unfold br at h;exact h
theorem aq{b:Bool}{A B:Prop}(c:Prop)(e:b=true↔c)(h1:c->A)(h2:¬c->B):br b A B:=by
 cases b with
 |true=>exact cH (h1 (e.mp rfl))
 |false=>exact cJ (h2 λz=>nomatch e.mpr z)
def ab(i:Nat):FE:=λρ Q=>match ρ[i]? with
 |some (some (.fz d))=>Q (.ov (.fz d)) ρ
 |some (some _)=>Q (.br i) ρ
 |_=>False
def fC(d:D):FE:=λρ Q=>Q (.ov (.fz d)) ρ
def on2(ρ:FSt)(r s:RV)(k:D->D->Prop):Prop:=match iX ρ r with
 | some d=>match iX ρ s with
  |some e=>k d e
  |none=>False
 |none=>False
def on1(ρ:FSt)(r:RV)(k:D->Prop):Prop:=match iX ρ r with
 |some d=>k d
 |none=>False
def onL(ρ:FSt)(a:List RV)(k:List D->Prop):Prop:=match jp ρ a with
 |some d=>k d
 |none=>False
def onB(d:D)(k:Bool->Prop):Prop:=match d with
 |.bl b=>k b
 |_=>False
def fOp(f:D->D->(OV->Prop)->Prop)(fa fb:FE):FE:=λρ Q=>fa ρ λr b=>fb b λs a=>on2 a r s λd e=>f d e λo=>Q (.ov o) a
def dR(fa fb:FE):FE:=λρ Q=>fa ρ λr a=>on1 a r λd=>onB d λc=>br c (fb a Q) (Q (.ov (.fz (.bl false))) a)
def MY(fa fb:FE):FE:=λρ Q=>fa ρ λr a=>on1 a r λd=>onB d λc=>br c (Q (.ov (.fz (.bl true))) a) (fb a Q)
def H0(fa:FE):FE:=λρ Q=>fa ρ λr a=>on1 a r λd=>onB d λc=>Q (.ov (.fz (.bl (!c)))) a
def Ia(fc:FT)(fa fb:FE):FE:=λρ Q=>fc ρ λb a=>br b (fa a Q) (fb a Q)
def jq(f g:D->D->(OV->Prop)->Prop)(fa fb fc:FE):FE:=λρ Q=>fa ρ λr c=>fb c λs a=>on2 a r s λd e=>f d e λo=>match o with
 |.fz (.bl k)=>br k (fc a λt b=>on2 b s t λj i=>g j i λo=>Q (.ov o) b) (Q (.ov (.fz (.bl false))) a)
 |_=>False
def au(fa:FE):FT:=λρ Q=>fa ρ λr a=>on1 a r λd=>onB d λc=>Q c a
def iY(ft:FT):FT:=λρ Q=>ft ρ λc a=>Q (!c) a
def LU(fa fb:FT):FT:=λρ Q=>fa ρ λc a=>br c (fb a Q) (Q false a)
def fOr(fa fb:FT):FT:=λρ Q=>fa ρ λc a=>br c (Q true a) (fb a Q)
def wc:D->Option Bool
 |.non=>some false
 |.bl b=>some b
 |.int i=>some (i != 0)
 |.str y=>if y.length<=sizeLine then some ((y.length:Int) != 0) else none
 |.lst xs=>some (!xs.isEmpty)
 |.tup xs=>some (!xs.isEmpty)
 |.dct _ _=>none
 |.ty _=>none
 |.opq _ _=>none
 |.gt _=>none
 |.dt _ _=>none
def Gn(fa:FE):FT:=λρ Q=>fa ρ λr a=>on1 a r λd=>match wc d with
 |some k=>Q k a
 |none=>False
def kC:FT:=λρ Q=>Q true ρ
def ae:FA:=λρ Q=>Q [] ρ
def aa(fa:FE)(fr:FA):FA:=λρ Q=>fa ρ λr b=>fr b λc a=>Q (r::c) a
def fCB(f:List D->(OV->Prop)->Prop)(fa:FA):FE:=λρ Q=>fa ρ λb a=>onL a b λds=>f ds λo=>Q (.ov o) a
def iZ(fa:FA):FE:=λρ Q=>fa ρ λc b=>match fzL c b with
 |some (ds,a)=>ds.length<=sizeLine/\Q (.ov (.fl ds)) a
 |none=>False
def fw(fa:FA):FE:=λρ Q=>fa ρ λc b=>match fzL c b with
 |some (ds,a)=>ds.length<=sizeLine/\Q (.ov (.fz (.tup ds))) a
 |none=>False
def cp:FO:=λρ Q=>Q none ρ
def dJ(fa:FE):FO:=λρ Q=>fa ρ λr a=>on1 a r λd=>match d with
 |.int i=>Q (some i) a
 |_=>False
def fSl(f:D->Option Int->Option Int->(OV->Prop)->Prop)(fe:FE)(fl fh:FO):FE:=λρ Q=>fe ρ λr c=>fl c λlo b=>fh b λhi a=>on1 a r λd=>f d lo hi λo=>Q (.ov o) a
def Dn:FE:=λρ Q=>Q (.ov (.fd [] [])) ρ
section
variable {K:Frag} 
theorem bW{k:D->Prop}(h:on1 ρ r k):∃d,iX ρ r=some d/\k d:=by
 unfold on1 at h;split at h
 ·exact⟨_,by assumption,h⟩
 ·exact h.elim
theorem nT{s:RV}{k:D->D->Prop}(h:on2 ρ r s k):∃d e,iX ρ r=some d/\iX ρ s=some e/\k d e:=by
 unfold on2 at h;split at h
 ·split at h
  ·exact⟨_,_,by assumption,by assumption,h⟩
  ·exact h.elim
 ·exact h.elim
theorem sN{r:List RV}{k:List D->Prop}(h:onL ρ r k):∃d,jp ρ r=some d/\k d:=by
 unfold onL at h;split at h
 ·exact⟨_,by assumption,h⟩
 ·exact h.elim
theorem nU{k:Bool->Prop}(h:onB d k):∃b,d=.bl b/\k b:=by
 unfold onB at h;split at h
 ·exact⟨_,rfl,h⟩
 ·exact h.elim
theorem sO(b:μ[j]?=some i):EF K μ (dD j) (ab i):=⟨by
 intro F Z H c σ ρ A Q P a R h q;unfold ab at h;generalize e:ρ[i]?=o at h
 cases o with
 |none=>exact False.elim h
 | some o=>
  cases o with
  |none=>exact False.elim h
  | some o=>
   obtain⟨v,B,A',h1,h2,k,g,f⟩:=R.takeI e;refine⟨v,(a j i b).1.trans h1,?_⟩
   cases o with
   | fz d=>
    cases h2 with
    |fz dn=>exact q _ _ v F H A [] h (Same.refl _) R (.fz dn) Fresh.nil
   |_=>exact q _ _ v F H A [] h (Same.refl _) R ⟨h1,rfl⟩ Fresh.nil⟩
theorem Ib(hd:∀F,Den K F v d):EF K μ (tC v) (fC d):=⟨fun {F Z H a σ ρ A Q P} b R h q=>q _ _ v F H A [] h (Same.refl _) R (.fz (hd F)) Fresh.nil⟩
theorem Ic{i:Int}:EF K μ (tC (.int i)) (fC (.int i)):=Ib λ_=>.int i
theorem Ie{i:Str}:EF K μ (tC (.str i)) (fC (.str i)):=Ib λ_=>.str i
theorem LV{i:Bool}:EF K μ (tC (.bl i)) (fC (.bl i)):=Ib λ_=>.bl i
theorem Ig:EF K μ (tC .non) (fC .non):=Ib λ_=>.non
theorem LW{T:String}:EF K μ (tC (.ty T)) (fC (.ty T)):=Ib λ_=>.ty T
theorem Rel.after(R:Rel K F Z H σ ρ A)(q:∀o v F' H' B,P o->Same F F'->Rel K F' Z H' σ ρ A->Ow K F' H' v o B->Fresh F' Z A B->Q v H'):Dm K F H P Q:=
 λo v F' H' B p a b nw=>q o v F' H' B p a.ff (R.step a) b (R.fresh nw)
theorem LX{r:R2}(ho:OpF K r f)(u:EF K μ ta fa)(t:EF K μ tb fb):EF K μ (tOp r ta tb) (fOp f fa fb):=⟨by
 intro F Z H I σ ρ A Q P g R h q;refine u.h g R h λM j x U H1 Y W h1 m G v1 f1=>?_;obtain⟨N,sz,c,J,back⟩:=G.hold v1.live v1.nt f1;refine t.h g c h1 λL i y T H2 X V h2 b R2 k f2=>?_;obtain⟨a,z,s⟩:=back _ _ _ _ b R2;obtain⟨d,e,D,C,w⟩:=nT h2;refine ho.h a.fh (a.acc (v1.keep b s) D) (a.acc k C) w (a.after λo v S O B p l E n fr=>q _ _ _ _ _ _ _ p ((m.trans b).trans l) E n fr)⟩
theorem Do(l:EF K μ ta fa)(k:EF K μ tb fb):EF K μ (BF ta tb) (dR fa fb):=⟨by
 intro F Z H n σ ρ A Q P b R h q;refine l.h b R h λp i x s H1 w u h1 e a v1 f1=>?_;obtain⟨d,m,h2⟩:=bW h1;obtain⟨c,rfl,f⟩:=nU h2;refine⟨c,(a.acc v1 m).bl_eq,?_⟩
 cases c with
 |true=>exact k.h b a (wa f) λo g y r H2 v t h2 j=>q _ _ _ _ _ _ _ h2 (e.trans j)
 |false=>exact q _ _ _ _ _ _ _ (wb f) e a (.fz (.bl false)) Fresh.nil⟩
theorem Ih(l:EF K μ ta fa)(k:EF K μ tb fb):EF K μ (K9 ta tb) (MY fa fb):=⟨by
 intro F Z H n σ ρ A Q P b R h q;refine l.h b R h λp i x s H1 w u h1 e a v1 f1=>?_;obtain⟨d,m,h2⟩:=bW h1;obtain⟨c,rfl,f⟩:=nU h2;refine⟨c,(a.acc v1 m).bl_eq,?_⟩
 cases c with
 |false=>exact k.h b a (wb f) λo g y r H2 v t h2 j=>q _ _ _ _ _ _ _ h2 (e.trans j)
 |true=>exact q _ _ _ _ _ _ _ (wa f) e a (.fz (.bl true)) Fresh.nil⟩
theorem Dp(g:EF K μ ta fa):EF K μ (BH ta) (H0 fa):=⟨by
 intro F Z H k σ ρ A Q P e R h q;refine g.h e R h λl b x m H1 o n h1 f a v1 f1=>?_;obtain⟨d,j,h2⟩:=bW h1;obtain⟨c,rfl,i⟩:=nU h2;exact⟨c,(a.acc v1 j).bl_eq,q _ _ _ _ _ _ _ i f a (.fz (.bl _)) Fresh.nil⟩⟩
theorem LY(j:TF K μ tc fc)(l:EF K μ ta fa)(k:EF K μ tb fb):EF K μ (tIf tc ta tb) (Ia fc fa fb):=⟨by
 intro F Z H p σ ρ A Q P c R h q;refine j.h c R h λb g r H1 s h1 e f=>?_
 cases b with
 |true=>exact l.h c f (wa h1) λi a y m H2 o n h2 d=>q _ _ _ _ _ _ _ h2 (e.trans d)
 |false=>exact k.h c f (wb h1) λi a y m H2 o n h2 d=>q _ _ _ _ _ _ _ h2 (e.trans d)⟩
theorem xv{r r':R2}{S:D->D->(OV->Prop)->Prop}{tc:TE}{fc:FE}(ho:OpF K r f)(I:OpF K r' S)(ha:EF K μ ta fa)(c:EF K μ tb fb)(hc:EF K μ tc fc):EF K μ (kE r r' ta tb tc) (jq f S fa fb fc):=⟨by
 intro F Z H τ σ ρ A Q P s R h q;refine ha.h s R h λr1 ρ1 x F1 H1 A1 B1 h1 O R1 v1 f1=>?_;obtain⟨Z',sz,N,zl,back⟩:=R1.hold v1.live v1.nt f1;refine c.h s N h1 λr2 Y y F2 H2 W V h2 n R2 C f2=>?_;obtain⟨i,f1',k1⟩:=back _ _ _ _ n R2;obtain⟨d,e,e1,e2,h3⟩:=nT h2;have j:Fresh F2 Z W V:=⟨f2.nd,λb c=>⟨(f2.fr b c).1,sz.free (f2.fr b c).2.1,(f2.fr b c).2.2⟩⟩;refine ho.h i.fh (i.acc (v1.keep n k1) e1) (i.acc C e2) h3 λo v U H3 B p m G nw=>?_;have T:=i.step m
 have f3:Fresh U Z W V:=⟨j.nd,λb c=>⟨(by
  cases z:U b with
  |none=>rfl
  | some u=>
   obtain⟨w,hw⟩:=C.live b c;rw[m.nw b u z (j.fr b c).1] at hw;exact nomatch hw),(j.fr b c).2⟩⟩
 have t:=C.keep m.ff λa u _ z=>m.hh a u z;split at p
 ·rename_i k
  cases G with
  | fz dn=>
   refine⟨k,dn.bl_eq,?_⟩
   cases k with
   |false=>exact q _ _ _ _ _ _ _ (wb p) ((O.trans n).trans m.ff) T (.fz (.bl false)) Fresh.nil
   | true=>
    obtain⟨Z2,sz2,M,zl2,l⟩:=T.hold t.live t.nt f3;refine hc.h s M (wa p) λr4 X w F4 H4 A4 B4 h4 E R4 v4 f4=>?_;obtain⟨g,f4',k4⟩:=l _ _ _ _ E R4;obtain⟨d',e',L,J,h5⟩:=nT h4;exact I.h g.fh (g.acc (t.keep E k4) L) (g.acc v4 J) h5 (g.after λo v F5 H5 B p s5 R5 G fr=>q _ _ _ _ _ _ _ p ((((O.trans n).trans m.ff).trans E).trans s5) R5 G fr)
 ·exact p.elim⟩
theorem sP(g:EF K μ ta fa):TF K μ (rB ta) (au fa):=⟨by
 intro F Z H k σ ρ A Q P e R h q;refine g.h e R h λl b x m H1 o n h1 f a v1 f1=>?_;obtain⟨d,j,h2⟩:=bW h1;obtain⟨c,rfl,i⟩:=nU h2;exact⟨c,(a.acc v1 j).bl_eq,q _ _ _ _ _ i f a⟩⟩
theorem Ii{t:TT}{f:FT}(h:TF K μ t f):TF K μ (K6 t) (iY f):=⟨fun {F Z H d σ ρ A Q P} c R p q=>h.h c R p λb a e H1 g h1=>q _ _ _ _ _ h1⟩
theorem Ij{t:TT}{f g:FT}(h:TF K μ t f)(h':TF K μ u g):TF K μ (K5 t u) (LU f g):=⟨fun {F Z H k σ ρ A Q P} a R p q=>h.h a R p λb i m H1 o h1 c d=>by
 cases b with
 |true=>exact h'.h a d (wa h1) λb e l H2 n h2 j=>q _ _ _ _ _ h2 (c.trans j)
 |false=>exact q _ _ _ _ _ (wb h1) c d⟩
theorem LZ{t:TT}{f g:FT}(h:TF K μ t f)(h':TF K μ u g):TF K μ (tOr t u) (fOr f g):=⟨fun {F Z H k σ ρ A Q P} a R p q=>h.h a R p λb i m H1 o h1 c d=>by
 cases b with
 |false=>exact h'.h a d (wb h1) λb e l H2 n h2 j=>q _ _ _ _ _ h2 (c.trans j)
 |true=>exact q _ _ _ _ _ (wa h1) c d⟩
theorem Ik:TF K μ LF kC:=⟨fun {F Z H a σ ρ A Q P} b R p q=>q _ _ _ _ _ p (Same.refl _) R⟩
theorem Dq{x:V}{k:Bool}(e:Same F H)(h:Acc K F H x d)(c:wc d=some k):KH K x H k:=by
 cases d with
 |non=>rw[h.non_eq];exact(aai c).symm
 |bl b=>rw[h.bl_eq];exact(aai c).symm
 |int i=>rw[h.int_eq];exact(aai c).symm
 | str y=>
  rw[h.str_eq];simp only[wc] at c;split at c
  ·exact⟨by assumption,by simpa using c.symm⟩
  ·cases c
 | lst ds=>
  obtain⟨a,xs,rfl,h1,h2⟩:=h.asL e;have:=h2.length;refine .inl ⟨xs,h1,?_⟩;simp only[wc,Option.some.injEq] at c;rw[← c];cases xs <;> cases ds <;> simp at this ⊢
 | tup ds=>
  obtain⟨a,xs,rfl,h1,h2⟩:=h.asT e;have:=h2.length;refine .inr (.inl ⟨xs,h1,?_⟩);simp only[wc,Option.some.injEq] at c;rw[← c];cases xs <;> cases ds <;> simp at this ⊢
 | dct ks ds=>
  simp[wc] at c
 |ty T=>simp[wc] at c
 |opq a n=>simp[wc] at c
 |gt xs=>simp[wc] at c
 |dt ks xs=>simp[wc] at c
theorem Il(g:EF K μ ta fa):TF K μ (LQ K ta) (Gn fa):=⟨by
 intro F Z H j σ ρ A Q P c R h q;refine g.h c R h λl b x m H1 o n h1 e a v1 f1=>?_;obtain⟨d,i,h2⟩:=bW h1;split at h2
 ·rename_i k f;exact⟨k,Dq a.fh (a.acc v1 i) f,q _ _ _ _ _ h2 e a⟩
 ·exact h2.elim⟩
theorem AN:AF K μ kB ae:=⟨fun {F Z H a σ ρ A Q P} b R p q=>q _ _ _ _ _ _ _ p (Same.refl _) R .nil Fresh.nil⟩
theorem mI{tr:TA}{fr:FA}(f:EF K μ ta fa)(hr:AF K μ tr fr):AF K μ (eP ta tr) (aa fa fr):=⟨by
 intro F Z H s σ ρ A Q P j R h q;refine f.h j R h λv l x C H1 I E h1 o r v1 f1=>?_;obtain⟨w,sz,i,m,back⟩:=r.hold v1.live v1.nt f1;refine hr.h j i h1 λt k y B H2 G D h2 d R2 n f2=>?_;obtain⟨g,c,p⟩:=back _ _ _ _ d R2;refine q _ _ _ _ _ _ _ h2 (o.trans d) g (.cons (v1.keep d p) n) ⟨abN.mpr ⟨c.nd,f2.nd,λa f b e z=>?_⟩,λb e=>?_⟩
 ·obtain⟨u,hu⟩:=m a f;rw[z,(f2.fr b e).2.1] at hu;cases hu
 ·rcases abA.mp e with z|z
  ·exact c.fr b z
  ·exact⟨(f2.fr b z).1,sz.free (f2.fr b z).2.1,(f2.fr b z).2.2⟩⟩
theorem L0{r:List V->Hp->VK->Prop}{f:List D->(OV->Prop)->Prop}{fa:FA}(i:CallF K r f)(j:AF K μ t fa):EF K μ (tCB r t) (fCB f fa):=⟨by
 intro F Z H m σ ρ A Q P c R h q;refine j.h c R h λn b xs w H1 y x h1 e a v1 f1=>?_;obtain⟨ds,k,h2⟩:=sN h1;exact i.h a.fh (a.accs v1 k) h2 (a.after λo v u s B p d l g fr=>q _ _ _ _ _ _ _ p (e.trans d) l g fr)⟩
theorem Im{fa:FA}(l:AF K μ t fa):EF K μ (KL t) (iZ fa):=⟨by
 intro F Z H r σ ρ A Q P d R h q;refine l.h d R h λs c xs x H1 C y h1 i n v1 f1=>?_;split at h1
 ·rename_i ds a e;obtain⟨b,z,g,R2,dn⟩:=n.frzL v1 f1 e;refine⟨by rw[dn.length];exact h1.1,λp hp=>?_⟩;have k:b p=none:=R2.fh.free hp;exact R2.after (P:=λo=>P (.ov o) a) (λo v w u B p f m j fr=>q _ _ _ _ _ _ _ p ((i.trans g).trans f) m j fr) _ _ b _ [p] h1.2 (Pure.new R2.fh hp) (.fl af dn) (New.one hp k)
 ·exact h1.elim⟩
theorem Io{fa:FA}(l:AF K μ t fa):EF K μ (KJ t) (fw fa):=⟨by
 intro F Z H r σ ρ A Q P d R h q;refine l.h d R h λs c xs x H1 C y h1 i n v1 f1=>?_;split at h1
 ·rename_i ds a e;obtain⟨b,z,g,R2,dn⟩:=n.frzL v1 f1 e;refine⟨by rw[dn.length];exact h1.1,λp hp=>?_⟩;have k:b p=none:=R2.fh.free hp;refine R2.after (P:=λo=>P (.ov o) a) (λo v w u B p f m j fr=>q _ _ _ _ _ _ _ p ((i.trans g).trans f) m j fr) _ _ (upd b p (.tup xs)) _ [] h1.2 (Pure.frz R2.fh hp) (.fz (.tup af (dn.mono (bO k)))) New.nil
 ·exact h1.elim⟩
theorem Dr:EF K μ rS Dn:=⟨by
 intro F Z H e σ ρ A Q P f R h q p hp;have c:F p=none:=R.fh.free hp;exact R.after (P:=λo=>P (.ov o) ρ) (λo v i g B p a d b fr=>q _ _ _ _ _ _ _ p a d b fr) _ _ F _ [p] h (Pure.new R.fh hp) (.fd af rfl .nil) (New.one hp c)⟩
theorem Ds:OF K μ mr cp:=⟨fun {F Z H a σ ρ A Q P} b R p q=>q _ _ _ _ _ p (Same.refl _) R⟩
theorem Dt(f:EF K μ ta fa):OF K μ (Ci ta) (dJ fa):=⟨by
 intro F Z H j σ ρ A Q P c R h q;refine f.h c R h λk b x l H1 n m h1 e a v1 f1=>?_;obtain⟨d,g,h2⟩:=bW h1;split at h2
 ·rename_i i;exact⟨i,(a.acc v1 g).int_eq,q _ _ _ _ _ h2 e a⟩
 ·exact h2.elim⟩
theorem L1{r:V->Option Int->Option Int->Hp->VK->Prop}{f:D->Option Int->Option Int->(OV->Prop)->Prop}{tl th:TO}{fl fh:FO}(hr:SlF K r f)(he:EF K μ te fe)(hl:OF K μ tl fl)(hh:OF K μ th fh):EF K μ (tSl r te tl th) (fSl f fe fl fh):=⟨by
 intro F Z H G σ ρ A Q P b R h q;refine he.h b R h λJ k x U H1 A1 W h1 m E v1 f1=>?_;obtain⟨L,sz,g,I,back⟩:=E.hold v1.live v1.nt f1;refine hl.h b g h1 λlo j T H2 Y h2 e R2=>?_;refine hh.h b R2 h2 λhi i S N X u c C=>?_;obtain⟨a,w,s⟩:=back _ _ _ _ (e.trans c) C;obtain⟨d,y,t⟩:=bW u;exact hr.h a.fh (a.acc (v1.keep (e.trans c) s) y) t (a.after λo v O M B p l z n fr=>q _ _ _ _ _ _ _ p (((m.trans e).trans c).trans l) z n fr)⟩
end
abbrev Pk:=OV->List OV->Prop
abbrev Ct:=List OV->Pk->Prop
variable{c:Ct}
def takeR:RV->FSt->Option (OV×FSt)
 |.ov o,ρ=>some (o,ρ)
 | .br i,ρ=>match ρ[i]? with
  |some (some o)=>some (o,ρ.set i none)
  |_=>none
def takeL:List RV->FSt->Option (List OV×FSt)
 |[],ρ=>some ([],ρ)
 | r::c,ρ=>match takeR r ρ with
  | some (o,b)=>match takeL c b with
   |some (os,a)=>some (o::os,a)
   |none=>none
  |none=>none
def putL:List RV->List OV->FSt->FSt
 |.br i::a,o::os,ρ=>putL a os (ρ.set i (some o))
 |.ov _::a,_::os,ρ=>putL a os ρ
 |_,_,ρ=>ρ
def spM(K:Frag)(c:Ct):Sp:=λvs H Q _=>∃(F Z:Hp) (os:List OV) (C:List Addr) (P:OV->List OV->Prop),Same F H/\SameN Z H/\(∀a o,F a=some o->Z a=none)/\Ows K F H vs os C/\C.Nodup/\(∀a∈C,F a=none/\Z a=none)/\c os P /\
 ∀o b v F' H' d B,P o b->Same F F'->Same F' H'->Same Z H'->(∀a o,F' a=some o->Z a=none)->Ows K F' H' vs b d->Ow K F' H' v o B->(d++B).Nodup->(∀a∈d++B,F' a=none/\Z a=none)->Q v H'
def ag(c:Ct)(fa:FA):FE:=λρ Q=>fa ρ λe b=>match takeL e b with
 |some (os,a)=>c os λo d=>Q (.ov o) (putL e d a)
 |none=>False
def fFz(fe:FE):FE:=λρ Q=>fe ρ λr b=>match fzR r b with
 |some (d,a)=>Q (.ov (.fz d)) a
 |none=>False
section
variable {K:Frag}     
theorem Rel.takeR{b:FSt}(R:Rel K F Z H σ ρ A)(h:RV1 K F H σ v r B)(f:Fresh F Z A B)(e:L2.takeR r ρ=some (o,b)) :
  ∃C A',Rel K F Z H σ b A'/\Ow K F H v o C/\Fresh F Z A' C/\(∀a∈A',a∈A)/\∀a∈C,a∈A∨a∈B:=by
 cases r with
 | ov o'=>
  simp only[L2.takeR,Option.some.injEq,Prod.mk.injEq] at e;obtain⟨rfl,rfl⟩:=e;exact⟨B,A,R,h,f,λ_ z=>z,λ_ z=>.inr z⟩
 | br i=>
  simp only[L2.takeR] at e;split at e
  ·rename_i o' ho;simp only[Option.some.injEq,Prod.mk.injEq] at e;obtain⟨rfl,rfl⟩:=e;obtain⟨d,l,A',h1,h2,k,j,pm⟩:=R.takeI ho;have g:d=v:=aai (aai (h1.symm.trans h.1));subst g;exact⟨l,A',k,h2,j,λa c=>pm.mem_iff.mpr (abA.mpr (.inr c)),λa c=>.inl (pm.mem_iff.mpr (abA.mpr (.inl c)))⟩
  ·cases e
theorem Rel.takeL:∀{i:List RV} {vs:List V} {B:List Addr} {os:List OV} {ρ c:FSt} {A:List Addr},Rel K F Z H σ ρ A->RVL K F H σ vs i B->Fresh F Z A B->L2.takeL i ρ=some (os,c) ->
  ∃C A',Rel K F Z H σ c A'/\Ows K F H vs os C/\Fresh F Z A' C/\(∀a∈A',a∈A)/\∀a∈C,a∈A∨a∈B:=by
 intro i
 induction i with
 | nil=>
  intro vs B os ρ c A R h f e;simp only[L2.takeL,Option.some.injEq,Prod.mk.injEq] at e;obtain⟨rfl,rfl⟩:=e;cases h;exact⟨[],A,R,.nil,f,λ_ z=>z,λ_ z=>nomatch z⟩
 | cons r i w=>
  intro vs B os ρ c A R h f e
  cases h with
  | @cons v _ vs _ I B2 h t=>
   simp only[L2.takeL] at e;split at e
   ·rename_i o p D;split at e
    ·rename_i q n x;simp only[Option.some.injEq,Prod.mk.injEq] at e;obtain⟨rfl,rfl⟩:=e;obtain⟨n1,n2,n3⟩:=bd (aaC (I++B2)) f.nd;obtain⟨G,L,E,u,f1,j,m⟩:=R.takeR h ⟨n1,λb d=>f.fr b (abA.mpr (.inl d))⟩ D
     obtain⟨C2,J,R2,s,f2,k,l⟩:=w E t ⟨n2,λb d=>by
      have fb:=f.fr b (abA.mpr (.inr d));exact⟨fb.1,fb.2.1,λz=>fb.2.2 (j b z)⟩⟩ x
     refine⟨G++C2,J,R2,.cons u s,⟨abN.mpr ⟨f1.nd,f2.nd,λa g b d z=>?_⟩,λb d=>?_⟩,λa g=>j a (k a g),λa g=>?_⟩
     ·subst z;rcases l a d with z|z
      ·exact(f1.fr a g).2.2 z
      ·rcases m a g with y|y
       ·exact(f.fr a (abA.mpr (.inr z))).2.2 y
       ·exact n3 a y z
     ·rcases abA.mp d with z|z
      ·exact⟨(f1.fr b z).1,(f1.fr b z).2.1,λy=>(f1.fr b z).2.2 (k b y)⟩
      ·exact f2.fr b z
     ·rcases abA.mp g with z|z
      ·rcases m a z with y|y
       ·exact .inl y
       ·exact .inr (abA.mpr (.inl y))
      ·rcases l a z with y|y
       ·exact .inl (j a y)
       ·exact .inr (abA.mpr (.inr y))
    ·cases e
   ·cases e
theorem Rel.assign(R:Rel K F Z H σ ρ A)(h:Ow K F H v o B)(f:Fresh F Z A B):∃A',Rel K F Z H (σ.set i (some v)) (ρ.set i (some o)) A'/\∀a∈A',a∈A∨a∈B:=by
 obtain⟨g,C,pm,j⟩:=R.sl.drop i (some v);obtain⟨n1,n2,n3⟩:=bd pm R.nd;have mA:∀a∈g,a∈A:=λa c=>pm.mem_iff.mpr (abA.mpr (.inr c));have d:Rel K F Z H (σ.set i (some v)) (ρ.set i none) g:=⟨j,n2,λa c=>R.fr a (mA a c),R.fh,R.zh,R.dj⟩;by_cases hi:i<ρ.length
 ·have hl:=R.sl.len;obtain⟨k,R2,p2⟩:=d.putI (i:=i) (v:=v) (o:=o) (B:=B) (by simp[hi]) (by simp[hl,hi]) h ⟨f.nd,λb e=>⟨(f.fr b e).1,(f.fr b e).2.1,λz=>(f.fr b e).2.2 (mA b z)⟩⟩;rw[abr] at R2;refine⟨k,R2,λa c=>?_⟩;rcases abA.mp (p2.mem_iff.mp c) with z|z
  ·exact .inr z
  ·exact .inl (mA a z)
 ·have hl:=R.sl.len;rw[List.set_eq_of_length_le (by nofun)] at d ⊢;rw[List.set_eq_of_length_le (by nofun)] at d ⊢;exact⟨g,d,λa c=>.inl (mA a c)⟩
theorem Ip(h:σ[i]?=some (some v)):σ.set i (some v)=σ:=by
 apply List.ext_getElem?;intro j;by_cases a:i=j
 ·subst a;have:=(List.getElem?_eq_some_iff.mp h).1;rw[h,List.getElem?_set_self this]
 ·rw[List.getElem?_set_ne a]
theorem Rel.putL:∀{d:List RV} {vs:List V} {os:List OV} {B C:List Addr} {ρ:FSt} {A:List Addr},Rel K F Z H σ ρ A->RVL K F' H' σ vs d B->Ows K F H vs os C->Fresh F Z A C ->
  ∃A',Rel K F Z H σ (L2.putL d os ρ) A'/\∀a∈A',a∈A∨a∈C:=by
 intro d
 induction d with
 | nil=>
  intro vs os B C ρ A R h n f;exact⟨A,R,λ_ z=>.inl z⟩
 | cons r d l=>
  intro vs os B C ρ A R h n f
  cases h with
  | @cons v _ vs _ u s h t=>
   cases n with
   | @cons _ o _ os q C2 h1 j=>
    obtain⟨n1,n2,n3⟩:=bd (aaC (q++C2)) f.nd;have f1:Fresh F Z A q:=⟨n1,λb c=>f.fr b (abA.mpr (.inl c))⟩;have f2:Fresh F Z A C2:=⟨n2,λb c=>f.fr b (abA.mpr (.inr c))⟩
    cases r with
    | ov o'=>
     obtain⟨A',g,m⟩:=l R t j f2;refine⟨A',g,λa e=>(m a e).elim .inl λz=>.inr (abA.mpr (.inr z))⟩
    | br i=>
     obtain⟨w,p,k⟩:=R.assign (i:=i) h1 f1;rw[Ip h.1] at p;obtain⟨A',g,m⟩:=l p t j ⟨n2,λb c=>⟨(f2.fr b c).1,(f2.fr b c).2.1,λz=>(k b z).elim (f2.fr b c).2.2 λy=>n3 b y c⟩⟩;refine⟨A',g,λa e=>?_⟩;rcases m a e with z|z
     ·exact(k a z).elim .inl λy=>.inr (abA.mpr (.inl y))
     ·exact .inr (abA.mpr (.inr z))
theorem mJ{fa:FA}{E:XK}(f:AF K μ t fa):EF K μ (pK (spM K c) [] E t) (ag c fa):=⟨by
 intro F Z H τ σ ρ A Q P N R h q;refine f.h N R h λrs J vs F1 H1 A1 B1 h1 O Y v1 f1=>?_;rw[aao];split at h1
 ·rename_i os k e;obtain⟨C,i,R2,T,f2,m2,c2⟩:=Y.takeL v1 f1 e
  -- r is not handed x is I
  obtain⟨l,g,d⟩:=mix i H1 Z;have V:∀a,a∈i->Z a=none:=λa f=>(R2.fr a f).2;have sz:Same Z l:=λa o z=>by rw[d a λy=>by rw[V a y] at z;cases z];exact z
  refine⟨F1,l,os,C,_,R2.fh,⟨λa o z=>?_,λa xs z=>?_⟩,λa o z=>?_,T,f2.nd,λa f=>⟨(f2.fr a f).1,by rw[d a (f2.fr a f).2.2];exact(f2.fr a f).2.1⟩,h1,λo S v m H3 n B p s fh zh dj M L nd fr=>?_⟩
  ·by_cases y:a∈i
   ·rw[g a y] at z;exact z
   ·rw[d a y] at z;exact R2.zh.s a o z
  ·by_cases y:a∈i
   ·rw[g a y] at z;exact R2.sl.nt a y xs z
   ·rw[d a y] at z;exact R2.zh.n a xs z
  ·rw[d a λy=>by rw[(R2.fr a y).1] at z;cases z];exact R2.dj a o z
  ·have G:∀a∈i,∃u,l a=some u:=λa f=>by
    obtain⟨u,hu⟩:=R2.sl.live a f;exact⟨u,by rw[g a f];exact hu⟩
   have X:Rel K m Z H3 σ k i:=⟨R2.sl.keep s λa u f hu=>zh a u (by rw[g a f];exact hu),R2.nd,λa f=>⟨(by
    cases z:m a with
    |none=>rfl
    | some u=>
     have:=dj a u z;obtain⟨w,hw⟩:=G a f;rw[hw] at this;exact nomatch this),(R2.fr a f).2⟩,fh,⟨sz.trans zh,R2.zh.n⟩,λa o z=>sz.free (dj a o z)⟩
   have D:∀a∈n++B,a∉i:=λa f y=>by
    obtain⟨w,hw⟩:=G a y;rw[(fr a f).2] at hw;cases hw
   obtain⟨n1,n2,n3⟩:=bd (aaC (n++B)) nd
   have fC:Fresh m Z i n:=⟨n1,λb j=>by
    have:=fr b (abA.mpr (.inl j));exact⟨this.1,sz.free this.2,D b (abA.mpr (.inl j))⟩⟩
   obtain⟨A4,W,U⟩:=X.putL v1 M fC;refine q _ _ _ _ _ _ _ p (O.trans s) W L ⟨n2,λb j=>?_⟩;have:=fr b (abA.mpr (.inr j));exact⟨this.1,sz.free this.2,λz=>(U b z).elim (D b (abA.mpr (.inr j))) λy=>n3 b y j⟩
 ·exact h1.elim⟩
theorem L3(he:EF K μ te fe):EF K μ te (fFz fe):=⟨by
 intro F Z H j σ ρ A Q P c R h q;refine he.h c R h λr b v l H1 o m h1 g i v1 f1=>?_;split at h1
 ·rename_i d a e;obtain⟨k,n,f,R2,dn,_,_⟩:=i.frz v1 f1 e;exact q _ _ _ _ _ _ _ h1 (g.trans f) R2 (.fz dn) Fresh.nil
 ·exact h1.elim⟩
end
theorem nV:∀{l:List Nat} {j k i:Nat},l.Nodup->l[j]?=some i->l[k]?=some i->j=k
 |[],_,_,_,_,h,_=>by simp at h
 |a::l,0,0,_,_,_,_=>rfl
 | a::l,0,k+1,i,n,h,h'=>by
  simp at h h';subst h;exact absurd (List.mem_of_getElem? h') (abJ.mp n).1
 | a::l,j+1,0,i,n,h,h'=>by
  simp at h h';subst h';exact absurd (List.mem_of_getElem? h) (abJ.mp n).1
 | a::l,j+1,k+1,i,n,h,h'=>by
  simp at h h';rw[nV (List.nodup_cons.mp n).2 h h']
abbrev FG:=D->FSt->(FSt->Prop)->Prop
variable{fg:FG}
abbrev FGs:=List D->FSt->(FSt->Prop)->Prop
structure GF(K:Frag)(μ:List Nat)(T:List Nat)(g:TG)(f:FG):Prop where
 h:∀{F Z H:Hp} {τ σ:St} {ρ:FSt} {A:List Addr} {v:V} {d:D} {Q:St->Hp->Prop} {P:FSt->Prop},View μ τ σ->Rel K F Z H σ ρ A->Den K F v d->f d ρ P ->
  (∀τ' σ' ρ' A',P ρ'->View μ τ' σ'->Rel K F Z H σ' ρ' A'->(∀i,i∉T->σ'[i]?=σ[i]?)->σ'.length=σ.length->((∀j i:Nat,μ[j]?=some i->i=j)->τ=σ->τ'=σ')->(∀a∈A',a∈A)->Q τ' H)->g v τ H Q
structure GsF(K:Frag)(μ:List Nat)(T:List Nat)(g:TGs)(f:FGs):Prop where
 h:∀{F Z H:Hp} {τ σ:St} {ρ:FSt} {A:List Addr} {v:List V} {d:List D} {Q:St->Hp->Prop} {P:FSt->Prop},View μ τ σ->Rel K F Z H σ ρ A->Dens K F v d->f d ρ P ->
  (∀τ' σ' ρ' A',P ρ'->View μ τ' σ'->Rel K F Z H σ' ρ' A'->(∀i,i∉T->σ'[i]?=σ[i]?)->σ'.length=σ.length->((∀j i:Nat,μ[j]?=some i->i=j)->τ=σ->τ'=σ')->(∀a∈A',a∈A)->Q τ' H)->g v τ H Q
def ac(i:Nat):FG:=λd ρ P=>P (ρ.set i (some (.fz d)))
def i4:FGs:=λds ρ P=>match ds with
 |[]=>P ρ
 |_=>False
def aU(f:FG)(fs:FGs):FGs:=λds ρ P=>match ds with
 |d::ds=>f d ρ λa=>fs ds a P
 |_=>False
def i5(n:Nat)(f:FGs):FG:=λd ρ P=>match d with
 |.tup ds=>ds.length=n/\f ds ρ P
 |_=>False
section
variable {K:Frag} 
theorem sQ(k:μ[j]?=some i)(p:μ.Nodup):GF K μ [i] (fU j) (ac i):=⟨by
 intro F Z H t σ ρ A v d Q P f R dn h q;obtain⟨A',s,m⟩:=R.assign (i:=i) (.fz dn) Fresh.nil;refine q _ (σ.set i (some v)) _ _ h (λg c h'=>⟨?_,by rw[aaI];exact(f g c h').2.1,by rw[aaI];exact(f g c h').2.2⟩) s (λc o=>?_) (aaI ..) (λn e=>?_) λa r=>(m a r).elim id λz=>nomatch z
 ·by_cases b:j=g
  ·subst b;rw[k] at h';cases h';have:=f j i k;rw[List.getElem?_set_self this.2.1,List.getElem?_set_self this.2.2]
  ·have l:i≠c:=λz=>by
    subst z;exact b (nV p k h')
   rw[List.getElem?_set_ne b,List.getElem?_set_ne l];exact(f g c h').1
 ·rw[List.getElem?_set_ne λz=>o (by simp[z])]
 ·rw[n j i k,e]⟩
theorem Du:GsF K μ [] Lg i4:=⟨by
 intro F Z H b σ ρ A v d Q P a R dn h q
 cases dn with
 |nil=>exact⟨rfl,q _ _ _ _ h a R (λ_ _=>rfl) rfl (λ_ e=>e) λ_ z=>z⟩
 |cons _ _=>exact h.elim⟩
theorem xw{T':List Nat}{f:FG}{fs:FGs}(h1:GF K μ T g f)(h2:GsF K μ T' gs fs):GsF K μ (T++T') (BU g gs) (aU f fs):=⟨by
 intro F Z H I σ ρ A v d Q P x R dn h q
 cases dn with
 |nil=>exact h.elim
 | cons E D=>
  refine⟨_,_,rfl,h1.h x R E h fun r t w A' p e G k z n m=>h2.h e G D p fun o s u J p2 c R2 B j l y=>q _ _ _ _ p2 c R2 (λi hi=>?_) (j.trans z) (λa b=>l a (n a b)) λa C=>m a (y a C)⟩;rw[abA,not_or] at hi;rw[B i hi.2,k i hi.1]⟩
theorem Iq{fs:FGs}(h2:GsF K μ T gs fs):GF K μ T (KE K n gs) (i5 n fs):=⟨by
 intro F Z H b σ ρ A v d Q P a R dn h q
 cases dn with
 |tup hs t=>exact⟨_,_,rfl,SqT.of (R.fh _ _ hs),t.length.trans h.1,h2.h a R t h.2 q⟩
 |_=>exact h.elim⟩
end
structure Walk(K:Frag)(F:Hp)(J:It)(ds:List D):Prop where
 go:∀H i,Same F H->i<ds.length->J.go i H
 yld:∀H i x H',Same F H->i<ds.length->J.yld i H x H'->H'=H/\∃d,ds[i]?=some d/\Den K F x d
 stop:∀H,Same F H->J.stop ds.length H
abbrev FI:=FSt->(List D->FSt->Prop)->Prop
variable{fi:FI}
structure ITF(K:Frag)(μ:List Nat)(t:TI)(f:FI):Prop where
 h:∀{F Z H:Hp} {τ σ:St} {ρ:FSt} {A:List Addr} {Q:It->Hp->Prop} {P:List D->FSt->Prop},View μ τ σ->Rel K F Z H σ ρ A->f ρ P ->
  (∀ds ρ' J F' H' A',P ds ρ'->Same F F'->Rel K F' Z H' σ ρ' A'->Walk K F' J ds->Q J H')->t τ H Q
def cf(fe:FE):FI:=λρ Q=>fe ρ λr b=>match fzR r b with
 |some (.lst ds,a)=>Q ds a
 |_=>False
def Ir(fe:FE):FI:=λρ Q=>fe ρ λr b=>match fzR r b with
 |some (.tup ds,a)=>Q ds a
 |_=>False
def fK(z:Str):List D:=z.cps.toList.map λc=>.str ⟨#[c]⟩
def xx(fe:FE):FI:=λρ Q=>fe ρ λr b=>match fzR r b with
 |some (.str z,a)=>Q (fK z) a
 |_=>False
def dF(lo:Int)(n:Nat):List D:=(List.range n).map λ(k:Nat)=>.int (lo+(k:Int))
def dS(fa:FA):FI:=λρ Q=>fa ρ λb a=>onL a b λds=>match ds with
 |[.int j]=>(-(2 ^ 62)<=j/\j<2 ^ 62)/\Q (dF 0 j.toNat) a
 |_=>False
def sR(fa:FA):FI:=λρ Q=>fa ρ λb a=>onL a b λds=>match ds with
 |[.int i,.int j]=>(-(2 ^ 62)<=i/\i<2 ^ 62/\-(2 ^ 62)<=j/\j<2 ^ 62)/\Q (dF i (j - i).toNat) a
 |_=>False
section
variable {K:Frag}  
theorem sS(h:SqL K F a xs)(t:Dens K F xs ds):Walk K F (Itl K a) ds:=
 ⟨λH i s hi=>by
  obtain⟨x,h1,h2⟩:=t.get (List.getElem?_eq_getElem hi);exact⟨xs,x,s.seq h,h1⟩,λH i x H' s hi y=>by
  obtain⟨rfl,y⟩:=y;obtain⟨d,h1,h2⟩:=t.get' (y xs (s.seq h));exact⟨rfl,d,h1,h2⟩,λH s=>⟨xs,s.seq h,by rw[t.length];exact aac _⟩⟩
theorem xy(h:SqT K F a xs)(t:Dens K F xs ds):Walk K F (Itt K a) ds:=
 ⟨λH i s hi=>by
  obtain⟨x,h1,h2⟩:=t.get (List.getElem?_eq_getElem hi);exact⟨xs,x,h.same s,h1⟩,λH i x H' s hi y=>by
  obtain⟨rfl,y⟩:=y;obtain⟨d,h1,h2⟩:=t.get' (y xs (h.same s));exact⟨rfl,d,h1,h2⟩,λH s=>⟨xs,h.same s,by rw[t.length];exact aac _⟩⟩
theorem xz :Walk K F (Its z) (fK z):=
 ⟨λH i s hi=>by (have hi:i<z.cps.size:=by simpa [fK] using hi);exact hi,λH i x H' s hi y=>by
  obtain⟨rfl,c,h1,rfl⟩:=y;exact⟨rfl,.str ⟨#[c]⟩,by rw[fK,List.getElem?_map,h1];rfl,.str _⟩,λH s=>by
  show (fK z).length=z.cps.size;simp[fK]⟩
theorem nW{lo:Int}:Walk K F (Itr lo n) (dF lo n):=
 ⟨λH i s hi=>by (have hi:i<n:=by simpa [dF] using hi);exact hi,λH i x H' s hi y=>by
  obtain⟨rfl,rfl⟩:=y;have hi:i<n:=by simpa [dF] using hi
  exact⟨rfl,.int (lo+i),by simp[dF,hi],.int _⟩,λH s=>by
  show n<=(dF lo n).length;simp[dF]⟩
theorem xA(he:EF K μ te fe):ITF K μ (wv K te) (cf fe):=⟨by
 intro F Z H j σ ρ A Q P c R h q;refine he.h c R h λr a v l H1 p m h1 g i v1 f1=>?_;generalize e:fzR r a=o at h1;obtain _|⟨d,b⟩:=o
 ·exact False.elim h1
 cases d
 case lst ds=>
  obtain⟨k,n,f,R2,dn,_,_⟩:=i.frz v1 f1 e
  cases dn with
  |lst hs t=>exact ⟨_,rfl,⟨_,R2.fh.seq hs⟩,q _ _ _ _ _ _ h1 (g.trans f) R2 (sS hs t)⟩
 all_goals exact False.elim h1⟩
theorem Dv(he:EF K μ te fe):ITF K μ (KF K te) (Ir fe):=⟨by
 intro F Z H j σ ρ A Q P c R h q;refine he.h c R h λr a v l H1 p m h1 g i v1 f1=>?_;generalize e:fzR r a=o at h1;obtain _|⟨d,b⟩:=o
 ·exact False.elim h1
 cases d
 case tup ds=>
  obtain⟨k,n,f,R2,dn,_,_⟩:=i.frz v1 f1 e
  cases dn with
  |tup hs t=>exact ⟨_,rfl,⟨_,SqT.of (R2.fh _ _ hs)⟩,q _ _ _ _ _ _ h1 (g.trans f) R2 (xy (SqT.of hs) t)⟩
 all_goals exact False.elim h1⟩
theorem Dw(he:EF K μ te fe):ITF K μ (LG te) (xx fe):=⟨by
 intro F Z H i σ ρ A Q P c R h q;refine he.h c R h λr b v k H1 n l h1 f g v1 f1=>?_;split at h1
 ·rename_i z a e;obtain⟨j,m,d,R2,dn,_,_⟩:=g.frz v1 f1 e;exact⟨z,dn.str_eq,q _ _ _ _ _ _ h1 (f.trans d) R2 xz⟩
 ·exact h1.elim⟩
theorem cu(h:Accs K F H xs [d]):∃x,xs=[x]/\Acc K F H x d:=by
 cases h with|cons a t=>cases t;exact⟨_,rfl,a⟩
theorem nX(h:Accs K F H xs [d,e]):∃x y,xs=[x,y]/\Acc K F H x d/\Acc K F H y e:=by
 cases h with|cons a t=>obtain⟨y,rfl,b⟩:=cu t;exact⟨_,_,rfl,a,b⟩
theorem xB{fa:FA}(g:AF K μ t fa):ITF K μ (BY t) (dS fa):=⟨by
 intro F Z H k σ ρ A Q P e R h q;refine g.h e R h λl c xs m H1 o n h1 f b v1 f1=>?_;obtain⟨ds,i,h2⟩:=sN h1;obtain _|⟨d,r⟩:=ds
 ·exact False.elim h2
 cases d
 case int j=>
  cases r with
  |cons=>exact False.elim h2
  | nil=>
   obtain⟨x,rfl,a⟩:=cu (b.accs v1 i);exact⟨j,by rw[a.int_eq],h2.1.1,h2.1.2,q _ _ _ _ _ _ h2.2 f b nW⟩
 all_goals exact False.elim h2⟩
theorem xC{fa:FA}(g:AF K μ t fa):ITF K μ (BZ t) (sR fa):=⟨by
 intro F Z H l σ ρ A Q P e R h q;refine g.h e R h λm d xs n H1 p o h1 f c v1 f1=>?_;obtain⟨ds,k,h2⟩:=sN h1;split at h2
 ·rename_i i j;obtain⟨x,y,rfl,a,b⟩:=nX (c.accs v1 k);exact⟨i,j,by rw[a.int_eq,b.int_eq],h2.1,q _ _ _ _ _ _ h2.2 f c nW⟩
 ·exact h2.elim⟩
end
structure FEnds where
 nx:FSt->Prop
 rt:OV->FSt->Prop
 bk:FSt->Prop:=λ_=>False
 ct:FSt->Prop:=λ_=>False
variable{E:FEnds}
abbrev FS:=FEnds->FSt->Prop
def Pin(n:Nat)(m:List Nat)(σ0 σ:St):Prop:=σ.length=n/\∀i∈m,σ[i]?=σ0[i]?
structure EndsOk(K:Frag)(n:Nat)(m:List Nat)(F Z:Hp)(σ0:St)(D:Ends)(fD:FEnds):Prop where
 nx:∀F' H' σ' ρ' A',Same F F'->Rel K F' Z H' σ' ρ' A'->Pin n m σ0 σ'->fD.nx ρ'->D.nx σ' H'
 rt:∀F' H' σ' ρ' A' v o B,Same F F'->Rel K F' Z H' σ' ρ' A'->Pin n m σ0 σ'->Ow K F' H' v o B->Fresh F' Z A' B->fD.rt o ρ'->D.rt v H'
 bk:∀F' H' σ' ρ' A',Same F F'->Rel K F' Z H' σ' ρ' A'->Pin n m σ0 σ'->fD.bk ρ'->D.bk σ' H'
 ct:∀F' H' σ' ρ' A',Same F F'->Rel K F' Z H' σ' ρ' A'->Pin n m σ0 σ'->fD.ct ρ'->D.ct σ' H'
theorem EndsOk.mono{K:Frag}{c:Hp}{D:Ends}{fD:FEnds}(E:EndsOk K n m F Z σ0 D fD)(e:Same F c):EndsOk K n m c Z σ0 D fD:=
 ⟨λF' H' a b A' s=>E.nx F' H' a b A' (e.trans s),λF' H' a b A' v o B s=>E.rt F' H' a b A' v o B (e.trans s),λF' H' a b A' s=>E.bk F' H' a b A' (e.trans s),λF' H' a b A' s=>E.ct F' H' a b A' (e.trans s)⟩
structure SF(K:Frag)(n:Nat)(m:List Nat)(t:TS)(f:FS):Prop where
 h:∀{F Z H:Hp} {σ0 σ:St} {ρ:FSt} {A:List Addr} {D:Ends} {fD:FEnds},Rel K F Z H σ ρ A->Pin n m σ0 σ->EndsOk K n m F Z σ0 D fD->f fD ρ->t D σ H
def aL:FS:=λD ρ=>D.nx ρ
def AO:FS:=λD ρ=>D.bk ρ
def Iu:FS:=λD ρ=>D.ct ρ
def k6:FSt->(FSt->Prop)->Prop
 |[],k=>k []
 |a::l,k=>k6 l λb=>k (a::b)
theorem eJ:∀(ρ:FSt) (k:FSt->Prop),k6 ρ k↔k ρ
 |[],k=>Iff.rfl
 |a::l,k=>by rw[k6,eJ l]
def ak(f g:FS):FS:=λD ρ=>f { D with nx:=λa=>k6 a (g D) } ρ
@[irreducible] def fIf(c:FT)(f g:FS)(E:FEnds)(ρ:FSt):Prop:=c ρ λb a=>br b (f E a) (g E a)
theorem av{c:FT}{f g:FS}(h:c ρ λb a=>br b (f E a) (g E a)):fIf c f g E ρ:=by unfold fIf;exact h
theorem nY{c:FT}{f:FS}(p:Prop)(rest:p->E.nx ρ)(h:(p->E.nx ρ)->c ρ λb a=>br b (f E a) (E.nx a)):fIf c f aL E ρ:=av (h rest)
def bc(fe:FE):FS:=λD ρ=>fe ρ λr b=>match takeR r b with
 |some (o,a)=>D.rt o a
 |none=>False
def Iv:FS:=λD ρ=>D.rt (.fz .non) ρ
def bQ(fe:FE):FS:=λD ρ=>fe ρ λ_ a=>D.nx a
def bX(fe:FE)(fg:FG):FS:=λD ρ=>fe ρ λr b=>match fzR r b with
 |some (d,a)=>fg d a D.nx
 |none=>False
def cq(i:Nat)(fe:FE):FS:=λD ρ=>fe ρ λr a=>match r with
 |.ov o=>D.nx (a.set i (some o))
 |.br _=>False
def nZ(fg:FG)(fb:FS)(E:FEnds):List D->FSt->Prop
 |[],ρ=>E.nx ρ
 |d::ds,ρ=>fg d ρ λa=>fb { nx:=nZ fg fb E ds,ct:=nZ fg fb E ds,bk:=E.nx,rt:=E.rt } a
@[irreducible] def dg(fg:FG)(fb:FS)(E:FEnds)(ds:List D)(ρ:FSt):Prop:=nZ fg fb E ds ρ
theorem jU(fg:FG)(fb:FS)(E:FEnds)(ds:List D):dg fg fb E ds=nZ fg fb E ds:=by funext ρ;unfold dg;rfl
theorem k7(fg:FG)(fb:FS)(E:FEnds)(ρ:FSt):dg fg fb E [] ρ=E.nx ρ:=by rw[jU];rfl
theorem k9(fg:FG)(fb:FS)(E:FEnds)(d:D)(ds:List D)(ρ:FSt):dg fg fb E (d::ds) ρ=fg d ρ λa=>fb { nx:=dg fg fb E ds,ct:=dg fg fb E ds,bk:=E.nx,rt:=E.rt } a:=by rw[jU,jU];rfl
def p9(fi:FI)(fg:FG)(fb:FS):FS:=λD ρ=>fi ρ λds a=>k6 a (dg fg fb D ds)
def jV(fc:FT)(fb:FS)(E:FEnds):Nat->FSt->Prop
 |0,_=>False
 |n+1,ρ=>fc ρ λb a=>br b (fb { nx:=jV fc fb E n,ct:=jV fc fb E n,bk:=E.nx,rt:=E.rt } a) (E.nx a)
@[irreducible] def cg(fc:FT)(fb:FS)(E:FEnds)(n:Nat)(ρ:FSt):Prop:=jV fc fb E n ρ
theorem hU(fc:FT)(fb:FS)(E:FEnds)(n:Nat):cg fc fb E n=jV fc fb E n:=by funext ρ;unfold cg;rfl
theorem qa(fc:FT)(fb:FS)(E:FEnds)(ρ:FSt):cg fc fb E 0 ρ=False:=by rw[hU];rfl
theorem jr(fc:FT)(fb:FS)(E:FEnds)(n:Nat)(ρ:FSt):cg fc fb E (n+1) ρ=fc ρ λb a=>br b (fb { nx:=cg fc fb E n,ct:=cg fc fb E n,bk:=E.nx,rt:=E.rt } a) (E.nx a):=by rw[hU,hU];rfl
theorem sT{fb:FS}(h:E.nx ρ):dg fg fb E [] ρ:=by rw[k7];exact h
theorem qb{fb:FS}(h:fg d ρ λa=>fb { nx:=dg fg fb E ds,ct:=dg fg fb E ds,bk:=E.nx,rt:=E.rt } a):dg fg fb E (d::ds) ρ:=by rw[k9];exact h
theorem mK{fb:FS}(h:fc ρ λb a=>br b (fb { nx:=cg fc fb E n,ct:=cg fc fb E n,bk:=E.nx,rt:=E.rt } a) (E.nx a)):cg fc fb E (n+1) ρ:=by rw[jr];exact h
def hV(fc:FT)(fb:FS):FS:=λD ρ=>∃n,cg fc fb D n ρ
section
variable {K:Frag}  
theorem Pin.refl{σ:St}(h:σ.length=n):Pin n m σ σ:=⟨h,λ_ _=>rfl⟩
theorem Pin.set{x:Option V}(p:Pin n m σ0 σ)(hi:i∉m):Pin n m σ0 (σ.set i x):=⟨by rw[aaI];exact p.1,λj a=>by
 rw[List.getElem?_set_ne λz=>hi (by rw[z];exact a)];exact p.2 j a⟩
theorem Dx:SF K n m BJ aL:=⟨fun {F Z H σ0 σ ρ A D a} R p E h=>E.nx _ _ _ _ _ (Same.refl _) R p h⟩
theorem xD:SF K n m qZ AO:=⟨fun {F Z H σ0 σ ρ A D a} R p E h=>E.bk _ _ _ _ _ (Same.refl _) R p h⟩
theorem Dy:SF K n m BM Iu:=⟨fun {F Z H σ0 σ ρ A D a} R p E h=>E.ct _ _ _ _ _ (Same.refl _) R p h⟩
theorem Iw{t u:TS}{f g:FS}(h1:SF K n m t f)(h2:SF K n m u g):SF K n m (Lb t u) (ak f g):=⟨fun {F Z H σ0 σ ρ A D b} R p E h=>
 h1.h (fD:={ b with nx:=λa=>k6 a (g b) }) R p ⟨λF' H' c a A' s e d q=>h2.h e d (E.mono s) ((eJ a (g b)).mp q),E.rt,E.bk,E.ct⟩ h⟩
theorem L4{c:TT}{t u:TS}{f g:FS}(i:TF K (List.range n) c fc)(h1:SF K n m t f)(h2:SF K n m u g):SF K n m (Ld c t u) (fIf fc f g):=⟨fun {F Z H σ0 σ ρ A D d} R p E h=>
 i.h (P:=λb a=>br b (f d a) (g d a)) (View.id p.1) R (by unfold fIf at h;exact h) λb a j H1 k q s e=>by
  cases b with
  |true=>exact h1.h e p (E.mono s) (wa q)
  |false=>exact h2.h e p (E.mono s) (wb q)⟩
theorem Iy(he:EF K (List.range n) te fe):SF K n m (Lc te) (bc fe):=⟨by
 intro F Z H σ0 σ ρ A D g R p E h;refine he.h (View.id p.1) R h λr b v i H1 l j h1 c f v1 f1=>?_;split at h1
 ·rename_i o a e;obtain⟨C,k,R2,d,f2,_,_⟩:=f.takeR v1 f1 e;exact E.rt _ _ _ _ _ _ _ _ c R2 p d f2 h1
 ·exact h1.elim⟩
theorem Dz:SF K n m BP Iv:=⟨fun {F Z H σ0 σ ρ A D a} R p E h=>E.rt _ _ _ _ _ _ _ _ (Same.refl _) R p (.fz .non) Fresh.nil h⟩
theorem DA(he:EF K (List.range n) te fe):SF K n m (wo te) (bQ fe):=⟨fun {F Z H σ0 σ ρ A D d} R p E h=>
 he.h (View.id p.1) R h λr a v e H1 g f h1 b c v1 f1=>E.nx _ _ _ _ _ b c p h1⟩
theorem jW(n:Nat):∀j i:Nat,(List.range n)[j]?=some i->i=j:=λj i h=>by
 obtain⟨h1,h2⟩:=List.getElem?_eq_some_iff.mp h;rw[List.getElem_range] at h2;exact h2.symm
theorem Iz(he:EF K (List.range n) te fe)(u:GF K (List.range n) T g fg)(w:∀i∈m,i∉T):SF K n m (qU te g) (bX fe fg):=⟨by
 intro F Z H σ0 σ ρ A D z R p E h;refine he.h (View.id p.1) R h λr j v C H1 J G h1 s x v1 f1=>?_;split at h1
 ·rename_i d f e;obtain⟨B,I,o,R2,dn,_,_⟩:=x.frz v1 f1 e;refine u.h (View.id p.1) R2 dn h1 fun b c l A' q _ y k t a _=>?_;rw[a (jW n) rfl];exact E.nx _ _ _ _ _ (s.trans o) y ⟨t.trans p.1,λi hi=>by rw[k i (w i hi)];exact p.2 i hi⟩ q
 ·exact h1.elim⟩
theorem DB(he:EF K (List.range n) te fe)(hi:i∉m):SF K n m (qU te (fU i)) (cq i fe):=⟨by
 intro F Z H σ0 σ ρ A D d R p E h;refine he.h (View.id p.1) R h λr a v e H1 k f h1 b c v1 f1=>?_
 cases r with
 | ov o=>
  obtain⟨g,R2,_⟩:=c.assign (i:=i) v1 f1;exact E.nx _ _ _ _ _ b R2 (p.set hi) h1
 |br j=>exact h1.elim⟩
theorem IA{tb:TS}{fb:FS}(hi:ITF K (List.range n) wi fi)(hg:GF K (List.range n) T g fg)(hT:∀i∈m,i∉T)(hb:SF K n m tb fb):SF K n m (Lj wi g tb) (p9 fi fg fb):=⟨by
 intro F Z H σ0 σ ρ A D l R p E h;refine hi.h (View.id p.1) R h λds O J M H1 A1 h1 Q R1 P=>?_;rw[eJ] at h1;refine⟨λi k s H'=>k=ds.length - i/\i<=ds.length/\∃F' t A',Same M F'/\Rel K F' Z H' s t A'/\Pin n m σ0 s/\dg fg fb l (ds.drop i) t,⟨_,rfl,aan _,M,O,A1,Same.refl _,R1,p,by rw[abg];exact h1⟩,?_⟩;rintro i k s H' ⟨rfl,Y,F',t,A',s',G,L,h'⟩;by_cases f:i<ds.length
 ·rw[aaN f,k9] at h';refine .inr ⟨P.go H' i (s'.trans G.fh) f,λj H2=>∃I c N,Same M I/\Rel K I Z H2 j c N/\Pin n m σ0 j/\dg fg fb l (ds.drop (i+1)) c,λj H2 q=>⟨_,by nofun,rfl,f,q⟩,λx H2 y=>?_⟩;obtain⟨rfl,d,hd,dn⟩:=P.yld H' i x H2 (s'.trans G.fh) f y;rw[List.getElem?_eq_getElem f] at hd;cases hd;refine hg.h (View.id L.1) G (dn.mono s') h' fun U j c N q _ R2 k X S _=>?_;rw[S (jW n) rfl]
  have C:∀r u a b w,Same F' r->Rel K r Z u a b w->Pin n m σ0 a->dg fg fb l (ds.drop (i+1)) b->∃I c N,Same M I/\Rel K I Z u a c N/\Pin n m σ0 a/\dg fg fb l (ds.drop (i+1)) c:=
   λr u a b w z R3 W V=>⟨r,b,w,s'.trans z,R3,W,V⟩
  refine hb.h (fD:={ nx:=dg fg fb l (ds.drop (i+1)),ct:=dg fg fb l (ds.drop (i+1)),bk:=l.nx,rt:=l.rt }) R2 ⟨X.trans L.1,λi hi=>by rw[k i (hT i hi)];exact L.2 i hi⟩ ⟨C,λr u a b w v o B z=>E.rt r u a b w v o B (Q.trans (s'.trans z)),λr u a b w z=>E.nx r u a b w (Q.trans (s'.trans z)),C⟩ q
 ·have e:i=ds.length:=by nofun
  subst e;rw[abu,k7] at h';exact .inl ⟨P.stop H' (s'.trans G.fh),E.nx _ _ _ _ _ (Q.trans s') G L h'⟩⟩
theorem xE{c:TT}{tb:TS}{fb:FS}(L:TF K (List.range n) c fc)(M:SF K n m tb fb):SF K n m (re c tb) (hV fc fb):=⟨by
 intro F Z H σ0 σ ρ A D f R p E h;obtain⟨N,h⟩:=h;refine⟨λk j H'=>∃F' l A',Same F F'/\Rel K F' Z H' j l A'/\Pin n m σ0 j/\cg fc fb f k l,⟨N,F,ρ,A,Same.refl _,R,p,h⟩,?_⟩;rintro k j H' ⟨F',l,A',s',P,y,h'⟩
 cases k with
 |zero=>rw[qa] at h';exact h'.elim
 | succ k=>
  rw[jr] at h';refine L.h (View.id y.1) P h' λb G Q H1 S q x C=>?_
  cases b with
  |false=>exact E.nx _ _ _ _ _ (s'.trans x) C y (wb q)
  | true=>
   replace q:=wa q;rw[if_pos rfl]
   have u:∀g r a d s,Same Q g->Rel K g Z r a d s->Pin n m σ0 a->cg fc fb f k d->∃w e z,Same F w/\Rel K w Z r a e z/\Pin n m σ0 a/\cg fc fb f k e:=
    λg r a d s t O J I=>⟨g,d,s,(s'.trans x).trans t,O,J,I⟩
   exact⟨λi H2=>∃w e z,Same F w/\Rel K w Z H2 i e z/\Pin n m σ0 i/\cg fc fb f k e,λi H2 q=>⟨k,aaA k,q⟩,
    M.h (fD:={ nx:=cg fc fb f k,ct:=cg fc fb f k,bk:=f.nx,rt:=f.rt }) C y ⟨u,λg r a d s v o B t=>E.rt g r a d s v o B ((s'.trans x).trans t),λg r a d s t=>E.nx g r a d s ((s'.trans x).trans t),u⟩ q⟩⟩
end
def n5(fg:FG)(ft:FT)(fe:FE)(P:List D->FSt->Prop):List D->List D->FSt->Prop
 |[],as,ρ=>P as ρ
 | d::ds,as,ρ=>fg d ρ λf=>ft f λb a=>br b (fe a λr e=>match fzR r e with
  |some (y,c)=>as.length<sizeLine/\n5 fg ft fe P ds (as++[y]) c
  |none=>False) (n5 fg ft fe P ds as a)
@[irreducible] def dU(fg:FG)(ft:FT)(fe:FE)(P:List D->FSt->Prop)(ds as:List D)(ρ:FSt):Prop:=n5 fg ft fe P ds as ρ
theorem jX(fg:FG)(ft:FT)(fe:FE)(P:List D->FSt->Prop)(ds:List D):dU fg ft fe P ds=n5 fg ft fe P ds:=by funext as ρ;unfold dU;rfl
theorem hX(fg:FG)(ft:FT)(fe:FE)(P:List D->FSt->Prop)(as:List D)(ρ:FSt):dU fg ft fe P [] as ρ=P as ρ:=by rw[jX];rfl
theorem ia(fg:FG)(ft:FT)(fe:FE)(P:List D->FSt->Prop)(d:D)(ds as:List D)(ρ:FSt):dU fg ft fe P (d::ds) as ρ=(fg d ρ λf=>ft f λb a=>br b (fe a λr e=>match fzR r e with
  |some (y,c)=>as.length<sizeLine/\dU fg ft fe P ds (as++[y]) c
  |none=>False) (dU fg ft fe P ds as a)):=by rw [jX,jX];rfl
theorem sU{P:List D->FSt->Prop}(h:P as ρ):dU fg ft fe P [] as ρ:=by rw[hX];exact h
theorem qc{P:List D->FSt->Prop}(h:fg d ρ λf=>ft f λb a=>br b (fe a λr e=>match fzR r e with
  |some (y,c)=>as.length<sizeLine/\dU fg ft fe P ds (as++[y]) c
  |none=>False) (dU fg ft fe P ds as a)):dU fg ft fe P (d::ds) as ρ:=by rw [ia];exact h
def IB(no:Nat)(fi:FI)(fg:FG)(ft:FT)(fe:FE):FE:=λρ Q=>fi ρ λds ρ1=>k6 (List.replicate no none++ρ1) (dU fg ft fe (λas a=>Q (.ov (.fl as)) (a.drop no)) ds [])
def muC(no:Nat)(ixs μ:List Nat):List Nat:=List.range no++ixs.map λj=>no+μ.getD j 0
section
variable {K:Frag}     
theorem Slots.none_app{K:Frag}{F H:Hp}{σ:St}{ρ:FSt}{A:List Addr}(h:Slots K F H σ ρ A):∀n,Slots K F H (List.replicate n none++σ) (List.replicate n none++ρ) A
 |0=>h
 |n+1=>.skip (Slots.none_app h n)
theorem Slots.dropN{K:Frag}(n:Nat)(h:Slots K F H σ ρ A):∃A' B,A=B++A'/\Slots K F H (σ.drop n) (ρ.drop n) A':=by
 induction h generalizing n with
 |nil=>cases n <;> exact⟨[],[],rfl,.nil⟩
 | skip t a=>
  cases n with
  |zero=>exact ⟨_,[],rfl,.skip t⟩
  |succ n=>exact a n
 | @has _ _ _ _ C _ h t a=>
  cases n with
  |zero=>exact ⟨_,[],rfl,.has h t⟩
  | succ n=>
   obtain⟨A',B,rfl,h2⟩:=a n;exact⟨A',C++B,by rw[aap],h2⟩
theorem Rel.write{o:HO}(R:Rel K F Z H σ ρ A)(g:a∉A)(f:F a=none)(d:Z a=none):Rel K F Z (upd H a o) σ ρ A:=by
 have e:∀b u,b≠a->H b=some u->upd H a o b=some u:=λb u h q=>by rw[ai h];exact q
 exact⟨R.sl.keep (Same.refl _) λb u c q=>e b u (λz=>g (z ▸ c)) q,R.nd,R.fr,λb u q=>e b u (λz=>by rw[z,f] at q;cases q) (R.fh b u q),⟨λb u q=>e b u (λz=>by rw[z,d] at q;cases q) (R.zh.s b u q),R.zh.n⟩,R.dj⟩
theorem la{no:Nat}{c:St}(f:View μ c σ)(e:∀j∈ixs,j<μ.length):View (muC no ixs μ) (List.replicate no none++kU c ixs) (List.replicate no none++σ):=by
 intro j i h;unfold muC at h;by_cases b:j<no
 ·rw[List.getElem?_append_left (by exists b)] at h;have:=jW no j i h;subst this;rw[List.getElem?_append_left (by exists b),List.getElem?_append_left (by exists b)];refine⟨rfl,?_,?_⟩ <;> simp <;> nofun
 ·rw[List.getElem?_append_right (by exists b)] at h;rw[abX,List.getElem?_map,aaj] at h;obtain⟨a,h1,h2⟩:=h;have d:=e a (List.mem_of_getElem? h1);obtain⟨v1,g,k⟩:=f a (μ.getD a 0) (by rw[List.getD_eq_getElem?_getD,List.getElem?_eq_getElem d];rfl);have l:j - no<ixs.length:=(List.getElem?_eq_some_iff.mp h1).1;refine⟨?_,?_,?_⟩
  ·rw[List.getElem?_append_right (by exists b),aaG,← h2,List.getElem?_append_right (by simp),aaG,Nat.add_sub_cancel_left,← v1];unfold kU;rw[List.getElem?_map,h1];show some ((c[a]?).getD none)=c[a]?;rw[List.getElem?_eq_getElem g];rfl
  ·unfold kU;simp;nofun
  ·simp;nofun
abbrev IC(K:Frag)(fg:FG)(fc:FT)(fe:FE)(P:RV->FSt->Prop)(no:Nat)(m:List Nat)(e Z:Hp)(σ:St)(a:Addr)(rest:List D)(acc:List V)(d:St)(H':Hp):Prop:=
 ∃F' b A' c as,Same e F'/\Rel K F' Z H' c b A'/\View m d c/\(∀i,no<=i->c[i]?=(List.replicate no none++σ)[i]?)/\H' a=some (.lst acc)/\F' a=none/\a∉A'/\Dens K F' acc as /\
   dU fg fc fe (λas b=>P (.ov (.fl as)) (b.drop no)) rest as b
theorem DC{no:Nat}(hi:ITF K μ wi fi)(hix:∀j∈ixs,j<μ.length)(hg:GF K (muC no ixs μ) T g fg)(hT:∀i∈T,i<no)
  (hc:TF K (muC no ixs μ) tc fc) (he:EF K (muC no ixs μ) te fe):EF K μ (gy no ixs wi g tc te) (IB no fi fg fc fe):=⟨by
 intro F Z H τ σ ρ A Q P vw R h q;refine hi.h vw R h λds ρ1 J G H1 A1 h1 s1 Y wk=>?_;rw[eJ] at h1;intro a ha;have O:G a=none:=Y.fh.free ha;have C:Z a=none:=Y.zh.free ha
 have V:a∉A1:=λz=>by
  obtain⟨u,hu⟩:=Y.sl.live a z;rw[ha] at hu;cases hu
 have R1':Rel K G Z (upd H1 a (.lst [])) (List.replicate no none++σ) (List.replicate no none++ρ1) A1:=by
  have:=Y.write (o:=.lst []) V O C;exact⟨this.sl.none_app no,this.nd,this.fr,this.fh,this.zh,this.dj⟩
 have M:∀F' H' f l A' acc as,Same G F'->Rel K F' Z H' f l A'->(∀i,no<=i->f[i]?=(List.replicate no none++σ)[i]?)->H' a=some (.lst acc)->F' a=none->a∉A'->Dens K F' acc as->P (.ov (.fl as)) (l.drop no)->Q (.ref a) H':=by
  intro F' H' f l A' acc as s' c k ha' hF' hA' dn p;obtain⟨A2,B2,e2,I⟩:=c.sl.dropN no
  have es:f.drop no=σ:=by
   apply List.ext_getElem?;intro i;rw[List.getElem?_drop,k (no+i) (by omega),List.getElem?_append_right (by simp),aaG,Nat.add_sub_cancel_left]
  rw[es] at I;have X:∀b∈A2,b∈A':=λb w=>by rw[e2];exact abA.mpr (.inr w)
  have R2:Rel K F' Z H' σ (l.drop no) A2:=⟨I,by have:=c.nd;rw[e2,abN] at this;exact this.2.1,λb w=>c.fr b (X b w),c.fh,c.zh,c.dj⟩
  exact q _ _ _ _ _ _ [a] p (s1.trans s') R2 (.fl ha' dn) ⟨by simp,λb w=>by
   have:b=a:=(by exists w);subst this;exact⟨hF',C,λz=>hA' (X _ z)⟩⟩
 refine⟨λi k acc n H'=>k=ds.length - i/\i<=ds.length/\IC K fg fc fe P no (muC no ixs μ) G Z σ a (ds.drop i) acc n H',
  ⟨_,rfl,aan _,G,_,A1,_,[],Same.refl _,R1',la vw hix,λ_ _=>rfl,af,O,V,.nil,by rw[abg];exact h1⟩,?_⟩
 rintro i k acc n H' ⟨rfl,hle,F',l,A',f,as,s',c,vw',kp,S,N,U,dn,h'⟩;by_cases m:i<ds.length
 ·rw[aaN m,ia] at h';refine .inr ⟨wk.go H' i (s'.trans c.fh) m,λacc n H'=>IC K fg fc fe P no (muC no ixs μ) G Z σ a (ds.drop (i+1)) acc n H',λacc' s H2 z=>⟨_,by omega,rfl,m,z⟩,λx H2 y=>?_⟩;obtain⟨rfl,d,hd,dx⟩:=wk.yld H' i x H2 (s'.trans c.fh) m y;rw[List.getElem?_eq_getElem m] at hd;cases hd;refine hg.h vw' c (dx.mono s') h' fun τ2 s ρ2 A2 p2 t R2 k2 kl2 _ X=>?_
  have L:∀i,no<=i->s[i]?=(List.replicate no none++σ)[i]?:=λi hi=>by
   rw[k2 i λz=>by have:=hT i z;omega];exact kp i hi
  have fD:Fresh F' Z A2 [a]:=⟨by simp,λb w=>by
   have:b=a:=(by exists w);subst this;exact⟨N,C,λz=>U (X _ z)⟩⟩
  obtain⟨Z',sz,R2',zl,back⟩:=R2.hold (B:=[a]) (λb w=>by
   have:b=a:=(by exists w);subst this;exact⟨_,S⟩) (.one S (λ_ z=>nomatch z) .nil) fD
  refine hc.h t R2' p2 λb ρ3 F3 H3 A3 E D R3=>?_
  cases b with
  | false=>
   replace E:=wb E;rw[if_neg abF];obtain⟨R3',f3,k3⟩:=back _ _ _ _ D R3;have fa:=f3.fr a (by simp);exact⟨F3,ρ3,A3,s,as,s'.trans D,R3',t,L,k3 a _ (by simp) S,fa.1,fa.2.2,dn.mono D,E⟩
  | true=>
   replace E:=wa E;rw[if_pos rfl];refine he.h t R3 E λr ρ4 v F4 H4 A4 B4 W s4 R4 v4 f4=>?_;split at W
   ·rename_i y ρ5 e5;obtain⟨F5,A5,s5,R5,dy,_,_⟩:=R4.frz v4 f4 e5;obtain⟨R5',f5,k5⟩:=back _ _ _ _ ((D.trans s4).trans s5) R5;have fa:=f5.fr a (by simp);refine⟨k5 a _ (by simp) S,by rw[dn.length];exact W.1,F5,ρ5,A5,s,as++[y],((s'.trans D).trans s4).trans s5,R5'.write fa.2.2 fa.1 C,t,L,af,fa.1,fa.2.2,(dn.mono ((D.trans s4).trans s5)).snoc dy,W.2⟩
   ·exact W.elim
 ·have e:i=ds.length:=by omega
  subst e;rw[abu,hX] at h';exact .inl ⟨wk.stop H' (s'.trans c.fh),M _ _ _ _ _ _ _ s' c kp S N U dn h'⟩⟩
def unL(ρ:FSt)(i:Nat):Option (List D):=match ρ[i]? with
 |some (some (.fl ds))=>some ds
 |_=>none
def unD(ρ:FSt)(i:Nat):Option (List Key×List D):=match ρ[i]? with
 |some (some (.fd ks ds))=>some (ks,ds)
 |_=>none
theorem ID(h:unL ρ i=some ds):ρ[i]?=some (some (.fl ds)):=by
 unfold unL at h;split at h
 ·rename_i os e;cases h;exact e
 ·cases h
theorem lb(h:unD ρ i=some (ks,ds)):ρ[i]?=some (some (.fd ks ds)):=by
 unfold unD at h;split at h
 ·rename_i a os e;cases h;exact e
 ·cases h
theorem Rel.mutL(R:Rel K F Z H σ ρ A)(h:unL ρ i=some ds):∃a xs,σ[i]?=some (some (.ref a))/\H a=some (.lst xs)/\Dens K F xs ds /\
  ∀b c,Dens K F b c->∃A',Rel K F Z (upd H a (.lst b)) σ (ρ.set i (some (.fl c))) A':=by
 have e:=ID h;obtain⟨v,B,A',h1,h2,j,f,pm⟩:=R.takeI e
 cases h2 with
 | @fl a xs os hl dn=>
  have fa:=f.fr a (by simp);refine⟨a,xs,h1,hl,dn,λb c d=>?_⟩;have R2:=j.write (o:=.lst b) fa.2.2 fa.1 fa.2.1;obtain⟨k,g,_⟩:=R2.putI (eI e) h1 (.fl af d) f;rw[abr] at g;exact⟨k,g⟩
theorem Rel.mutD(R:Rel K F Z H σ ρ A)(h:unD ρ i=some (ks,ds)):∃a ys,σ[i]?=some (some (.ref a))/\H a=some (.dK ys)/\ys.map (·.1)=ks/\Dens K F (ys.map (·.2)) ds /\
  ∀b c d,b.map (·.1)=c->Dens K F (b.map (·.2)) d->∃A',Rel K F Z (upd H a (.dK b)) σ (ρ.set i (some (.fd c d))) A':=by
 have e:=lb h;obtain⟨v,B,A',h1,h2,m,j,pm⟩:=R.takeI e
 cases h2 with
 | @fd a ys ks os hl l dn=>
  have fa:=j.fr a (by simp);refine⟨a,ys,h1,hl,l,dn,λb c d f g=>?_⟩;have R2:=m.write (o:=.dK b) fa.2.2 fa.1 fa.2.1;obtain⟨n,k,_⟩:=R2.putI (eI e) h1 (.fd af f g) j;rw[abr] at k;exact⟨n,k⟩
def wd(i:Nat)(fe:FE):FE:=λρ Q=>(unL ρ i).isSome=true/\fe ρ λr b=>match fzR r b with
 | some (d,a)=>(match unL a i with
  |some ds=>ds.length<sizeLine/\Q (.ov (.fz .non)) (a.set i (some (.fl (ds++[d]))))
  |none=>False)
 |none=>False
theorem IE(p:μ[j]?=some i)(he:EF K μ te fe):EF K μ (tBM K "list" dO (dD j) (eP te kB)) (wd i fe):=⟨by
 intro F Z H C σ ρ A Q P k R h q;obtain⟨s,h⟩:=h;obtain⟨y,w⟩:=abR.mp s;obtain⟨a,xs,h1,h2,D,_⟩:=R.mutL w;refine⟨.ref a,(k j i p).1.trans h1,.inl ⟨rfl,xs,SqL.of h2⟩,?_⟩;refine he.h k R h λr m v I H1 N J b o B v1 f1=>?_;split at b
 ·rename_i d l u;obtain⟨G,M,n,R2,x,_,_⟩:=B.frz v1 f1 u;split at b
  ·rename_i ds t;obtain⟨E,c,f,g,e,mt⟩:=R2.mutL t;rw[h1] at f;cases f;obtain⟨L,z⟩:=mt (c++[v]) (ds++[d]) (e.snoc x);exact⟨a,c,v,rfl,rfl,g,by rw[e.length];exact b.1,q _ _ _ _ _ _ _ b.2 (o.trans n) z (.fz .non) Fresh.nil⟩
  ·exact b.elim
 ·exact b.elim⟩
def n6(i:Nat)(fe fk:FE):FS:=λE ρ=>fe ρ λr c=>match fzR r c with
 | some (d,b)=>(unL b i).isSome=true/\fk b λs a=>on1 a s λe=>(match e,unL a i with
  | .int k,some ds=>(match ixN ds.length k with
   |some x=>E.nx (a.set i (some (.fl (ds.set x d))))
   |none=>False)
  |_,_=>False)
 |none=>False
def lc:D->Option Key
 |.int i=>some (.inl i)
 |.str z=>some (.inr z)
 |_=>none
def gq(ks:List Key)(ds:List D)(k:Key)(d:D):List Key×List D:=
 if (ks.any λx=>decide (x=k))=true then (ks,(ks.zip ds).map λa=>if a.1=k then d else a.2) else (ks++[k],ds++[d])
def qd(i:Nat)(fe fk:FE):FS:=λE ρ=>fe ρ λr c=>match fzR r c with
 | some (d,b)=>(unD b i).isSome=true/\fk b λs a=>on1 a s λe=>(match lc e,unD a i with
  |some k,some (ks,ds)=>ks.length<sizeLine/\E.nx (a.set i (some (.fd (gq ks ds k d).1 (gq ks ds k d).2)))
  |_,_=>False)
 |none=>False
theorem dW{k:Key}(h:Acc K F H v d)(e:lc d=some k):v=kV k:=by
 cases d with
 |int i=>simp only[lc,Option.some.injEq] at e;subst e;exact h.int_eq
 |str z=>simp only[lc,Option.some.injEq] at e;subst e;exact h.str_eq
 |_=>simp[lc] at e
theorem jY{k:Key}(e:ys.map (·.1)=ks)(dn:Dens K F (ys.map (·.2)) ds)(g:Den K F v d):(gx ys k v).map (·.1)=(gq ks ds k d).1/\Dens K F ((gx ys k v).map (·.2)) (gq ks ds k d).2:=by
 have hl:ys.length=ds.length:=by have:=dn.length;simpa using this
 unfold gq gx;have f:(ks.any λx=>decide (x=k))=(ys.any λb=>decide (b.1=k)):=by rw[← e,ab5];rfl
 by_cases c:(ks.any λx=>decide (x=k))=true
 ·have a:(ys.any λb=>decide (b.1=k))=true:=f ▸ c;rw[if_pos a,if_pos c];constructor
  ·rw[aau,← e];refine aa3 λb _=>?_;show (if b.1=k then (b.1,v) else b).1=b.1;split <;> rfl
  ·subst e;clear c a hl f
   induction ys generalizing ds with
   |nil=>cases dn;exact .nil
   | cons y ys i=>
    cases dn with
    | cons l j=>
     refine .cons ?_ (i j);show Den K F (if y.1=k then (y.1,v) else y).2 (if y.1=k then d else _);split
     ·exact g
     ·exact l
 ·have a:¬(ys.any λb=>decide (b.1=k))=true:=f ▸ c;rw[if_neg a,if_neg c];refine⟨by rw[aad,e];rfl,?_⟩;rw[aad];exact dn.snoc g
theorem xF{l:TE}(J:i<n)(he:EF K (List.range n) te fe)(I:EF K (List.range n) l fk):SF K n m (qU te (Li (dD i) l Cp)) (n6 i fe fk):=⟨by
 intro F Z H σ0 σ ρ A D W R p E h;refine he.h (View.id p.1) R h λr y v F1 H1 A1 B1 e C U v1 f1=>?_;split at e
 ·rename_i d u O;obtain⟨F2,A2,B,R2,Q,_,_⟩:=U.frz v1 f1 O;obtain⟨L,e⟩:=e;obtain⟨S,P⟩:=abR.mp L;obtain⟨a,xs,h1,h2,V,_⟩:=R2.mutL P;refine⟨.ref a,h1,?_⟩;refine I.h (View.id p.1) R2 e λs t w F3 H3 A3 B3 G o q z X=>?_;obtain⟨Y,M,c⟩:=bW G;split at c
  ·rename_i k ds N;split at c
   ·rename_i x ex;obtain⟨a',b,g,j,f,mt⟩:=q.mutL N;rw[h1] at g;cases g;obtain⟨A4,T⟩:=mt (b.set x v) (ds.set x d) (f.set (Q.mono o) x);exact⟨a,b,k,x,rfl,(q.acc z M).int_eq,j,by rw[f.length];exact ex,E.nx _ _ _ _ _ ((C.trans B).trans o) T p c⟩
   ·exact c.elim
  ·exact c.elim
 ·exact e.elim⟩
theorem DD(he:EF K (List.range n) tv fe)(L:EF K (List.range n) ty fk):SF K n m (wH (dD i) ty tv) (qd i fe fk):=⟨by
 intro F Z H σ0 σ ρ A D fD R p E h;refine he.h (View.id p.1) R h λr j v F1 H1 A1 B1 c B X v1 f1=>?_;generalize Q:fzR r j=o at c;obtain _|⟨d,x⟩:=o
 ·exact False.elim c
 ·obtain⟨F2,A2,z,R2,T,_,_⟩:=X.frz v1 f1 Q;obtain⟨M,c⟩:=c;obtain⟨⟨J,U⟩,S⟩:=abR.mp M;obtain⟨a,xs,h1,h2,Y,_⟩:=R2.mutD S;refine⟨.ref a,h1,?_⟩;refine L.h (View.id p.1) R2 c λs g w F3 H3 A3 B3 I t u y f3=>?_;obtain⟨V,N,b⟩:=bW I;generalize O:lc V=o at b;generalize P:unD g i=o' at b;obtain _|k:=o
  ·exact False.elim b
  obtain _|⟨ks,ds⟩:=o'
  ·exact False.elim b
  ·obtain⟨a',ys,f,q,e,l,mt⟩:=u.mutD P;rw[h1] at f;cases f;obtain⟨G,C⟩:=jY (k:=k) e l (T.mono t);obtain⟨A4,W⟩:=mt (gx ys k v) _ _ G C;have hl:ys.length=ks.length:=by rw[← e,abz]
   exact⟨a,_,rfl,.inl ⟨ys,k,q,dW (u.acc y N) O,by rw[hl];exact b.1,rfl⟩,E.nx _ _ _ _ _ ((B.trans z).trans t) W p b.2⟩⟩
end
def outs(m:List Nat):Nat->List OV->FSt->Option (List OV)
 |_,[],_=>some []
 | i,o::os,ρ=>if m.contains i=true then (match ρ[i]? with
   |some (some o')=>(outs m (i+1) os (ρ.set i none)).map (o'::·)
   |_=>none) else (outs m (i+1) os ρ).map (o::·)
def sV:OV->Bool
 |.fz _=>true
 |_=>false
def fin(m:List Nat)(os:List OV)(P:OV->List OV->Prop)(o:OV)(ρ:FSt):Prop:=match outs m 0 os ρ with
 |some a=>P o a
 |none=>False
def ah(n:Nat)(os:List OV):FSt:=os.map some++List.replicate (n - os.length) none
section
variable {K:Frag}
theorem Ows.length{F H:Hp}{vs:List V}{os:List OV}{A:List Addr}(h:Ows K F H vs os A):vs.length=os.length:=by
 induction h with
 |nil=>rfl
 |cons _ t a=>exact congrArg (·+1) a
theorem Slots.nones(k:Nat):Slots K F H (List.replicate k none) (List.replicate k none) []:=by
 induction k with
 |zero=>exact .nil
 |succ k a=>exact .skip a
theorem Slots.of_ows(k:Nat){os:List OV}(h:Ows K F H vs os A):Slots K F H (vs.map some++List.replicate k none) (os.map some++List.replicate k none) A:=by
 induction h with
 |nil=>exact Slots.nones k
 |cons h t a=>exact .has h a
theorem Rel.outs :∀{vs:List V} {os:List OV} {C:List Addr} {i:Nat} {ρ:FSt} {A:List Addr} {c:List OV},Ows K F H vs os C->Same F F'->(∀j o,os[j]?=some o->i+j∉m->sV o=true) ->
  (∀j v,vs[j]?=some v->i+j∈m->σ[i+j]?=some (some v))->Rel K F' Z H' σ ρ A->L2.outs m i os ρ=some c->∃C' A':List Addr,Ows K F' H' vs c C'/\Rel K F' Z H' σ ρ A/\C'.Nodup/\(∀a,a∈C'->a∈A/\a∉A')/\(∀a,a∈A'->a∈A):=by
 intro vs
 induction vs with
 | nil=>
  intro os C i ρ A c h s w hp R e;cases h;simp only[L2.outs,Option.some.injEq] at e;subst e;exact⟨[],A,.nil,R,abQ,λ_ z=>(nomatch z),λ_ z=>z⟩
 | cons v vs E=>
  intro os C i ρ A c h s w hp R e
  cases h with
  | @cons _ o _ os P O h t=>
   simp only[L2.outs] at e;have g:∀j o,os[j]?=some o->i+1+j∉m->sV o=true:=λj o q n=>w (j+1) o (by exists q) (by rw[show i+(j+1)=i+1+j by nofun];exact n)
   have k:∀j v,vs[j]?=some v->i+1+j∈m->σ[i+1+j]?=some (some v):=λj v q n=>by
    have:=hp (j+1) v (by exists q) (by rw[show i+(j+1)=i+1+j by nofun];exact n);rw[show i+1+j=i+(j+1) by nofun];exact this
   split at e
   ·rename_i d;have d:i∈m:=(by exists d);split at e
    ·rename_i o' ho;rw[aaj] at e;obtain⟨u,B,rfl⟩:=e;obtain⟨I,N,A',h1,h2,M,x,pm⟩:=R.takeI ho;have G:=hp 0 v rfl (by exists d);rw[Nat.add_zero] at G;have:I=v:=by rw[G] at h1;simpa using h1.symm
     subst this;obtain⟨C',D,r,_,n1,f,p⟩:=E t s g k M B;refine⟨N++C',D,.cons h2 r,R,abN.mpr ⟨x.nd,n1,λa l b L z=>(x.fr a l).2.2 (by rw[z];exact(f b L).1)⟩,λa l=>?_,λa l=>pm.mem_iff.mpr (abA.mpr (.inr (p a l)))⟩;rcases abA.mp l with z|z
     ·exact⟨pm.mem_iff.mpr (abA.mpr (.inl z)),λy=>(x.fr a z).2.2 (p a y)⟩
     ·exact⟨pm.mem_iff.mpr (abA.mpr (.inr (f a z).1)),(f a z).2⟩
    ·cases e
   ·rename_i d;rw[aaj] at e;obtain⟨u,B,rfl⟩:=e;have d:i∉m:=(by exists d);have J:=w 0 o rfl (by exists d);obtain⟨C',D,r,_,n1,f,p⟩:=E t s g k R B
    cases h with
    |fz dn=>exact⟨C',D,.cons (.fz (dn.mono s)) r,R,n1,f,p⟩
    |_=>simp[sV] at J
theorem Fun.okF{P:Program}{mg:Str->Option Value}{base:Heap}{qual:Str}{st:Stmt}{f:Addr}{fd:FuncData}{N ps:List Str}{k:Nat}{fs:FS}(F:Fun K x qual st f fd)(S:FnScope N ps (am st))
  (hN:ps.length<=N.length) (p:∀os P,c os P->os.length=ps.length/\∀j o,os[j]?=some o->j∉m->sV o=true) (hm:∀i∈m,i<ps.length)
  (y:∀(cdv:Value) (A:Around) (outer:List Env) (s:Shared) (H:Hp) (E:XK),Room k (A.deeper (envOfC qual (am st) s.heap.objs.size f cdv)) ->
   ∃t,BSs (rJ CX0 P w K mg base N qual (am st) f cdv A outer s H E).nox (bw st) t/\SF K N.length m t fs)
  (hc:∀os P,c os P->fs { nx:=fin m os P (.fz .non),rt:=fin m os P } (ah N.length os)):FnOk P w K mg base CX0 (k+1) f fd ps (spM K c):=by
 refine F.okB S (λvs H Q E h=>?_) (λcdv A outer s H vs Q E hr h=>?_)
 ·obtain⟨O,Z,os,C,u,_,_,_,ho,_,_,r,_⟩:=h;rw[ho.length];exact(p os u r).1
 ·obtain⟨O,Z,os,C,u,V,sz,dj,ho,nd,fr,r,q⟩:=h;obtain⟨t,X,hs⟩:=y cdv A outer s H E hr;refine⟨t,X,?_⟩;have hl:=(p os u r).1;have L:=ho.length
  have R:Rel K O Z H (start N vs) (ah N.length os) C:=by
   refine⟨?_,nd,fr,V,sz,dj⟩;unfold start ah;rw[L];exact Slots.of_ows _ ho
  have Y:(start N vs).length=N.length:=by unfold start;simp;nofun
  have d:∀F' H' g l A' v o B,Same O F'->Rel K F' Z H' g l A'->Pin N.length m (start N vs) g->Ow K F' H' v o B->Fresh F' Z A' B->fin m os u o l->Q v H':=by
   intro F' H' g l A' v o B s' D I W G h';unfold fin at h';split at h'
   ·rename_i J e
    obtain⟨C',A2,U,_,n1,T,m2⟩:=Rel.outs (i:=0) ho s' (λj o q n=>(p os u r).2 j o q (by exists n)) (λj v q n=>by
     have hj:j<vs.length:=(List.getElem?_eq_some_iff.mp q).1;rw[aba] at n ⊢;rw[I.2 j n];unfold start;rw[List.getElem?_append_left (by exists hj),List.getElem?_map,q];rfl) D e
    refine q o J v F' H' C' B h' s' D.fh D.zh.s D.dj U W (abN.mpr ⟨n1,G.nd,λa M b hb z=>(G.fr b hb).2.2 (by rw[← z];exact(T a M).1)⟩) λa M=>?_;rcases abA.mp M with z|z
    ·exact D.fr a (T a z).1
    ·exact⟨(G.fr a z).1,(G.fr a z).2.1⟩
   ·exact h'.elim
  exact hs.h (fD:={ nx:=fin m os u (.fz .non),rt:=fin m os u }) R (Pin.refl Y) ⟨λF' H' g l A' s' D I h'=>d F' H' g l A' .non (.fz .non) [] s' D I (.fz .non) Fresh.nil h',
   d,λ_ _ _ _ _ _ _ _ z=>z.elim,λ_ _ _ _ _ _ _ _ z=>z.elim⟩ (hc os u r)
end
def MZ:R2:=λx y H Q=>∃a v,x=.ref a/\DGet H a y (some v)/\Q v H
theorem DE(hu:X.A.units+1<cLine):IxR X MZ:=by
 intro value slice pins s σ H x y v u Q I d c h hs;obtain⟨a,z,rfl,g,q⟩:=h;cases d;exact tail_any (mD I g) PySem.F.slot_dict_getitem.lookup (rQ hu I g c λf i e b=>⟨z,H,e,b,q⟩) hs
def KU(K:Frag):R2:=λx y H Q=>rIx K x y H Q∨MZ x y H Q
def M0:R2:=λx y H Q=>∃a o,y=.ref a/\DGet H a x o/\Q (.bl o.isSome) H
def sW:R2:=λx y H Q=>∃a o,y=.ref a/\DGet H a x o/\Q (.bl (!o.isSome)) H
theorem IF(hu:X.A.units+1<cLine):OpR X (compareOp .In) M0:=by
 intro pins s σ H x y v u Q I c b h;obtain⟨a,o,rfl,g,q⟩:=h;cases b;exact d_in hu I g c λe d=>⟨.bl o.isSome,H,d,rfl,q⟩
theorem sX(hu:X.A.units+1<cLine):OpR X (compareOp .NotIn) sW:=by
 intro pins s σ H x y v u Q I c b h;obtain⟨a,o,rfl,g,q⟩:=h;cases b;exact Cr hu I g c λe d=>⟨.bl (!o.isSome),H,d,rfl,q⟩
def L5(K:Frag):R2:=λx y H Q=>MU K x y H Q∨M0 x y H Q
def sY(K:Frag):R2:=λx y H Q=>sk K x y H Q∨sW x y H Q
theorem DF(K:Frag)(hu:X.A.units+64<cLine)(h:X.K=K):BOp X (compareOp .In) (L5 K):=by subst h;exact⟨OpR.or Hk (IF (by nofun))⟩
theorem qe(K:Frag)(hu:X.A.units+64<cLine)(h:X.K=K):BOp X (compareOp .NotIn) (sY K):=by subst h;exact⟨OpR.or sn (sX (by nofun))⟩
theorem IG{a b:Expr}(K:Frag)(hu:X.A.units+64<cLine)(d:BE X a ta)(c:BE X b tb)(hs:∀o i,subscripted b false o i=operate [o,i] (getItem o i))(e:X.K=K):BE X (.Subscript a b pos) (tOp (KU K) ta tb):=by
 subst e;exact⟨Lx (IxR.or G5 (DE (by nofun))) d.h c.h hs⟩
def IH(b:Int->Int->Bool)(a:Str->Str->Bool):R2:=λx y H Q=>(∃i j,x=.int i/\y=.int j/\Q (.bl (b i j)) H)∨∃i j,x=.str i/\y=.str j/\Q (.bl (a i j)) H
def aZ(x y:Str):Bool:=decide (x.cps.toList<y.cps.toList)
theorem II:OpR X (compareOp .Lt) (λx y H Q=>∃i j,x=.str i/\y=.str j/\Q (.bl (aZ i j)) H):=by
 intro pins s σ H x y v u Q I b a h;obtain⟨i,j,rfl,rfl,q⟩:=h;obtain⟨t,rfl⟩:=b;obtain⟨t',rfl⟩:=a;exact PyProof.Rows.lt_str ⟨.bl _,H,I,rfl,q⟩
theorem IJ:OpR X (compareOp .LtE) (λx y H Q=>∃i j,x=.str i/\y=.str j/\Q (.bl (!aZ j i)) H):=by
 intro pins s σ H x y v u Q I b a h;obtain⟨i,j,rfl,rfl,q⟩:=h;obtain⟨t,rfl⟩:=b;obtain⟨t',rfl⟩:=a;refine PySem.P.le_str ⟨.bl _,H,I,rfl,?_⟩;have e:decide (¬(j.cps.toList<i.cps.toList))=!aZ j i:=by unfold aZ;rw[decide_not]
 first|exact q|(rw[← e] at q;exact q)|(simpa [aZ] using q)
theorem IK:OpR X (compareOp .Gt) (λx y H Q=>∃i j,x=.str i/\y=.str j/\Q (.bl (aZ j i)) H):=by
 intro pins s σ H x y v u Q I b a h;obtain⟨i,j,rfl,rfl,q⟩:=h;obtain⟨t,rfl⟩:=b;obtain⟨t',rfl⟩:=a;exact PySem.P.gt_str ⟨.bl _,H,I,rfl,q⟩
theorem IL:OpR X (compareOp .GtE) (λx y H Q=>∃i j,x=.str i/\y=.str j/\Q (.bl (!aZ i j)) H):=by
 intro pins s σ H x y v u Q I b a h;obtain⟨i,j,rfl,rfl,q⟩:=h;obtain⟨t,rfl⟩:=b;obtain⟨t',rfl⟩:=a;refine PySem.P.ge_str ⟨.bl _,H,I,rfl,?_⟩;have e:decide (¬(i.cps.toList<j.cps.toList))=!aZ i j:=by unfold aZ;rw[decide_not]
 first|exact q|(rw[← e] at q;exact q)|(simpa [aZ] using q)
theorem DG:BOp X (compareOp .Lt) (IH (λi j=>decide (i<j)) aZ):=⟨OpR.or Lp II⟩
theorem DH:BOp X (compareOp .LtE) (IH (λi j=>decide (i<=j)) λi j=>!aZ j i):=⟨OpR.or Lq IJ⟩
theorem DI:BOp X (compareOp .Gt) (IH (λi j=>decide (j<i)) λi j=>aZ j i):=⟨OpR.or Lr IK⟩
theorem DJ:BOp X (compareOp .GtE) (IH (λi j=>decide (j<=i)) λi j=>!aZ i j):=⟨OpR.or Ls IL⟩
def tyD:D->String
 |.non => "NoneType"
 |.bl _ => "bool"
 |.int _ => "int"
 |.str _ => "str"
 |.lst _ => "list"
 |.tup _ => "tuple"
 |.dct _ _ => "dict"
 |.ty _ => "type"
 |.opq _ _ => "dict"
 |.gt _ => "tuple"
 |.dt _ _ => "dict"
def DK(T:String):Bool:=T == "str" || T == "int" || T == "bool" || T == "list" || T == "tuple" || T == "dict" || T == "NoneType"
theorem sZ{T:String}(h:DK T=true):okT T:=by
 simp only[DK,Bool.or_eq_true,beq_iff_eq] at h;unfold okT;rcases h with (((((h|h)|h)|h)|h)|h)|h <;> simp[h]
def L6(K:Frag):List V->Hp->VK->Prop:=λxs H Q=>∃x d T,xs=[x,.ty T]/\Den K H x d/\DK (tyD d)=true/\DK T=true/\Q (.bl (isT (tyD d) T)) H
theorem xG:CallR X (.builtin "isinstance") (L6 X.K):=by
 intro pins s σ H xs us Q I r h;obtain⟨x,d,T,rfl,dn,g,k,q⟩:=h;obtain⟨u,j,rfl,c,f⟩:=wx r;cases (show j=Value.type T from f);have e:=Hd (K:=X.K) (sZ g) (sZ k);have fin:∀tk,EP X pins σ Q (.bool (isT (tyD d) T)) { s with toks:=tk }:=λtk=>⟨.bl _,H,I.tok tk,rfl,q⟩
 cases dn with
 |non=>exact fG I c .non e fin
 |bl b=>exact fG I c (.bl b) e fin
 |int i=>exact fG I c (.int i) e fin
 |str z=>exact fG I c (.str z) e fin
 |ty w=>simp[tyD,DK] at g
 | @lst a ys ds hs t=>
  cases (show u=Value.ref a from c);obtain⟨its,_,⟨o,n,h1,h2,_⟩,_⟩:=I.list hs;exact aav PySem.W.kitx_list I.kIn ⟨_,h1,h2⟩ e (λz=>nomatch z) fin
 | @tup a ys ds hs t=>
  cases (show u=Value.ref a from c);obtain⟨its,_,⟨o,h1,h2,_⟩,_⟩:=I.tuple (SqT.of hs);exact aav PySem.W.kitx_tuple I.kIn ⟨o,h1,h2⟩ e (λz=>nomatch z) fin
 | @gt a ys ds hs t=>
  cases (show u=Value.ref a from c);obtain⟨its,_,⟨o,h1,h2,_⟩,_⟩:=I.tuple hs;exact aav PySem.W.kitx_tuple I.kIn ⟨o,h1,h2⟩ e (λz=>nomatch z) fin
 | @dt a ys ks ds hs m t=>
  cases (show u=Value.ref a from c);obtain⟨_,_,xs,_,o,es,ep,h1,h2,_⟩:=(show ObjOk X.prog X.w H s.heap a (.dT ys) from hs.ok I.hok);exact aav abn I.kIn ⟨o,h1,h2.1⟩ e (λz=>nomatch z) fin
 | @dct a ys ks ds hs m t=>
  cases (show u=Value.ref a from c);obtain⟨_,_,vs,_,p⟩:=(show ObjOk X.prog X.w H s.heap a (.dK ys) from hs.ok I.hok);obtain⟨o,es,ep,h1,h2,_⟩:=p;exact aav abn I.kIn ⟨o,h1,h2.1⟩ e (λz=>nomatch z) fin
 | @opq a ys n hs v l=>
  cases (show u=Value.ref a from c);obtain⟨_,_,vs,_,p⟩:=(show ObjOk X.prog X.w H s.heap a (.dK ys) from hs.ok I.hok);obtain⟨o,es,ep,h1,h2,_⟩:=p;exact aav abn I.kIn ⟨o,h1,h2.1⟩ e (λz=>nomatch z) fin
theorem IM(K:Frag)(h:X.K=K):BCall X (.builtin "isinstance") (L6 K):=by subst h;exact⟨xG⟩
def IN(K:Frag):R2:=λx y H Q=>∃l b xs zs,x=.ref l/\y=.ref b/\SqL K H l xs/\SqL K H b zs/\xs.length+zs.length<=sizeLine/\∀p,H p=none->Q (.ref p) (upd H p (.lst (xs++zs)))
theorem DL:OpR X (binaryOp .Add) (IN X.K):=by
 intro pins s σ H x y v u Q I o m h;obtain⟨l,b,xs,zs,rfl,rfl,t,w,B,q⟩:=h;cases o;cases m;obtain⟨its,r,⟨⟨cls,C,data,sl⟩,n,ho,j,d,hd⟩,_⟩:=I.list t;obtain⟨its2,i,⟨⟨k,A,data2,g⟩,n2,c,f,a,e⟩,_⟩:=I.list w;dsimp only at j hd f e d a;subst j hd f e d a;have hl:=r.length;have p:=i.length;refine concat_meets ⟨_,ho,rfl⟩ ⟨_,c,rfl⟩ noFill_list_add seq_list_add PySem.F.slot_list_add PySem.F.entry_list_add (PySem.F.args_list_add_2 _ _) (list_addW l b its.toArray its2.toArray n n2 none none sl g (by simp;nofun)) ⟨ho,c,?_⟩;have z:its.toArray++its2.toArray=(its++its2).toArray:=by simp
 rw[z];exact⟨.ref _,_,I.lnew (t':=s.toks) (r.append i) (by rw[abB];nofun),rfl,q _ I.fresh⟩
def IP(K:Frag):R2:=λx y H Q=>(∃i j,x=.int i/\y=.int j/\Q (.int (i+j)) H)∨(∃i j,x=.str i/\y=.str j/\i.length+j.length<=sizeLine/\Q (.str (i++j)) H)∨IN K x y H Q∨G2 K x y H Q
theorem xH(K:Frag)(h:X.K=K):BOp X (binaryOp .Add) (IP K):=by subst h;exact⟨GO.or (pG.or (DL.or Cm))⟩
theorem tf:CallR X (.builtin "ord") (λxs H Q=>∃c:Nat,xs=[.str ⟨#[c]⟩]/\Q (.int c) H):=by
 intro pins s σ H xs us Q I r h;obtain⟨c,rfl,q⟩:=h;obtain⟨u,rfl,a⟩:=fE r;obtain⟨t,rfl⟩:=a;exact PySem.P.ord_of_char ⟨.int c,H,I.tok _,⟨_,rfl⟩,q⟩
def M2:List V->Hp->VK->Prop:=λxs H Q=>∃c:Nat,xs=[.str ⟨#[c]⟩]/\Q (.int c) H
theorem IQ:BCall X (.builtin "ord") M2:=⟨tf⟩
def tGU(K:Frag)(xs:List V):TE:=λ_ H Q=>∀a,(∀H',SqT K H' a xs)->Q (.ref a) H
theorem DM{K:Frag}(h:HX K X.mg x xs)(b:X.env.kindOf x=some .globalImplicit)(hd:autoParam ((x==("__debug__" : Str))=false) L2.aD._auto_1):BE X (.Name x pos) (tGU K xs):=by
 obtain⟨a,e,hs⟩:=h;exact⟨λpins s σ H Q I q=>AE (v:=.ref a) ⟨_,e,rfl⟩ b hd pins s σ H Q I (q a hs)⟩
section
variable {K:Frag} 
theorem aw(e:Same F H)(n:Dm K F H P Q)(h:Den K F v d)(p:P (.fz d)):Q v H:=n _ v F H [] p (Pure.refl e) (.fz h) New.nil
theorem dh(e:Same F H)(n:Dm K F H P Q)(h:Dens K F xs ds)(p:P (.fl ds)):∀q,H q=none->Q (.ref q) (upd H q (.lst xs)):=λq a=>
 n _ (.ref q) F _ [q] p (Pure.new e a) (.fl af h) (New.one a (e.free a))
theorem n8(e:Same F H)(n:Dm K F H P Q)(h:Dens K F xs ds)(p:P (.fz (.tup ds))):∀q,H q=none->Q (.ref q) (upd H q (.tup xs)):=λq a=>
 n _ (.ref q) (upd F q (.tup xs)) _ [] p (Pure.frz e a) (.fz (.tup af (h.mono (bO (e.free a))))) New.nil
theorem L7(hd:∀F,Dens K F xs ds):EF K μ (tGU K xs) (fC (.gt ds)):=⟨fun {F Z H c σ ρ A Q P} d R h q a b=>q _ _ _ F H A [] h (Same.refl _) R (.fz (.gt (b F) (hd F))) Fresh.nil⟩
def aI0(g:Int->Int->D):D->D->(OV->Prop)->Prop
 |.int i,.int j,P=>P (.fz (g i j))
 |_,_,_=>False
def aIC(C:Int->Int->Prop)(g:Int->Int->D):D->D->(OV->Prop)->Prop
 |.int i,.int j,P=>C i j/\P (.fz (g i j))
 |_,_,_=>False
theorem IR(h:∀F i j,Den K F (gV i j) (gD i j)):OpF K (rI0 gV) (aI0 gD):=⟨by
 intro F H x y d e Q P s b a f n
 cases d with
 | int i=>
  cases e with
  | int j=>
   exact⟨_,_,b.int_eq,a.int_eq,aw s n (h F _ _) f⟩
  |_=>exact False.elim f
 |_=>exact False.elim f⟩
theorem js{C:Int->Int->Prop}(h:∀F i j,Den K F (gV i j) (gD i j)):OpF K (rI C gV) (aIC C gD):=⟨by
 intro F H x y d e Q P s b a f n
 cases d with
 | int i=>
  cases e with
  | int j=>
   exact⟨_,_,b.int_eq,a.int_eq,f.1,aw s n (h F _ _) f.2⟩
  |_=>exact False.elim f
 |_=>exact False.elim f⟩
theorem DN:OpF K (rI0 λi j=>.int (i - j)) (aI0 λi j=>.int (i - j)):=IR λ_ _ _=>.int _
theorem DO:OpF K (rI CMul λi j=>.int (i*j)) (aIC CMul λi j=>.int (i*j)):=js λ_ _ _=>.int _
theorem xI:OpF K (rI Gf λi j=>.int (i / j)) (aIC Gf λi j=>.int (i / j)):=js λ_ _ _=>.int _
theorem DP:OpF K (rI (λ_ j=>0<j) λi j=>.int (i % j)) (aIC (λ_ j=>0<j) λi j=>.int (i % j)):=js λ_ _ _=>.int _
theorem DQ:OpF K (rI Gg λi j=>.int (i ^ j.toNat)) (aIC Gg λi j=>.int (i ^ j.toNat)):=js λ_ _ _=>.int _
def i6(b:Int->Int->Bool)(a:Str->Str->Bool):D->D->(OV->Prop)->Prop
 |.int i,.int j,P=>P (.fz (.bl (b i j)))
 |.str i,.str j,P=>P (.fz (.bl (a i j)))
 |_,_,_=>False
theorem DR{b:Int->Int->Bool}{a:Str->Str->Bool}:OpF K (IH b a) (i6 b a):=⟨by
 intro F H x y d e Q P s g c f n
 cases d with
 | int i=>
  cases e with
  | int j=>
   exact .inl ⟨_,_,g.int_eq,c.int_eq,aw s n (.bl _) f⟩
  |_=>exact False.elim f
 | str i=>
  cases e with
  | str j=>
   exact .inr ⟨_,_,g.str_eq,c.str_eq,aw s n (.bl _) f⟩
  |_=>exact False.elim f
 |_=>exact False.elim f⟩
def cL:D->D->(OV->Prop)->Prop
 |.int i,.int j,P=>P (.fz (.int (i+j)))
 |.str i,.str j,P=>i.length+j.length<=sizeLine/\P (.fz (.str (i++j)))
 |.lst xs,.lst ys,P=>xs.length+ys.length<=sizeLine/\P (.fl (xs++ys))
 |.tup xs,.tup ys,P=>xs≠[]/\xs.length+ys.length<=sizeLine/\P (.fz (.tup (xs++ys)))
 |_,_,_=>False
theorem DS:OpF K (IP K) cL:=⟨by
 intro F H x y d e Q P s k g f n
 cases d with
 | int i=>
  cases e with
  | int j=>
   exact .inl ⟨_,_,k.int_eq,g.int_eq,aw s n (.int _) f⟩
  |_=>exact False.elim f
 | str i=>
  cases e with
  | str j=>
   exact .inr (.inl ⟨_,_,k.str_eq,g.str_eq,f.1,aw s n (.str _) f.2⟩)
  |_=>exact False.elim f
 | lst ds=>
  cases e with
  | lst es=>
   obtain⟨a,xs,rfl,h1,h2⟩:=k.asL s;obtain⟨b,ys,rfl,l,c⟩:=g.asL s;exact .inr (.inr (.inl ⟨a,b,xs,ys,rfl,rfl,h1,l,by rw[h2.length,c.length];exact f.1,dh s n (h2.append c) f.2⟩))
  |_=>exact False.elim f
 | tup ds=>
  cases e with
  | tup es=>
   have m:=g;obtain⟨a,xs,rfl,h1,h2⟩:=k.asT s;obtain⟨b,ys,rfl,l,c⟩:=g.asT s;refine .inr (.inr (.inr ⟨a,b,xs,ys,rfl,rfl,h1,l,λz=>f.1 ?_,by rw[h2.length,c.length];exact f.2.1,λz=>?_,λz=>n8 s n (h2.append c) f.2.2⟩))
   ·have:=h2.length;rw[z] at this;exact aaz this.symm
   ·subst z;cases c;have f2:=f.2.2;rw[aao] at f2
    cases k with
    |fz hd=>exact aw s n hd f2
  |_=>exact False.elim f
 |_=>exact False.elim f⟩
end
def cQ(a b:Str):Bool:=!aZ b a
theorem dX{a:Str}:cQ a b=true↔¬(b.cps.toList<a.cps.toList):=by unfold cQ aZ;simp
theorem ib(a b c:Str)(h1:cQ a b=true)(h2:cQ b c=true):cQ a c=true:=by
 rw[dX] at *;exact ab0.mpr (List.le_trans (ab0.mp h1) (ab0.mp h2))
theorem mL(a b:Str):(cQ a b || cQ b a)=true:=by
 rw[Bool.or_eq_true,dX,dX];rcases List.le_total a.cps.toList b.cps.toList with h|h
 ·exact .inl (ab0.mpr h)
 ·exact .inr (ab0.mpr h)
theorem fZ{a:Str}(h1:cQ a b=true)(h2:cQ b a=true):a=b:=by
 rw[dX] at *;exact jP (List.le_antisymm (ab0.mp h1) (ab0.mp h2))
def bv(zs:List Str):List Str:=zs.mergeSort cQ
theorem aG(zs:List Str):(bv zs).Perm zs:=List.mergeSort_perm zs _
theorem bS(zs:List Str):(bv zs).Pairwise λa b=>cQ a b=true:=List.pairwise_mergeSort ib mL zs
theorem dY:∀(p:Str) (l:List Str),risingS p l=true->(p::l).Pairwise λa b=>cQ a b=true
 |p,[],_=>List.pairwise_singleton _ _
 | p,x::r,h=>by
  simp only[risingS,Bool.and_eq_true] at h;have e:=dY x r h.2
  have c:cQ p x=true:=by
   unfold cQ aZ;rw[← ltCps_eq];exact h.1
  refine List.pairwise_cons.mpr ⟨λy d=>?_,e⟩;rcases abH.mp d with rfl|d
  ·exact c
  ·exact ib _ _ _ c (List.rel_of_pairwise_cons e d)
theorem gz:∀(l:List Str),sortedS l=true->l.Pairwise λa b=>cQ a b=true
 |[],_=>.nil
 |x::r,h=>dY x r h
theorem gr(hp:ss.Perm zs)(hs:sortedS ss=true):ss=bv zs:=
 List.Perm.eq_of_pairwise (le:=λa b=>cQ a b=true) (λa b _ _ h1 h2=>fZ h1 h2) (gz ss hs) (bS zs) (hp.trans (aG zs).symm)
theorem ic(hp:ss.Perm zs)(hs:ss.Pairwise λa b=>cQ a b=true):ss=bv zs:=
 List.Perm.eq_of_pairwise (le:=λa b=>cQ a b=true) (λa b _ _ h1 h2=>fZ h1 h2) hs (bS zs) (hp.trans (aG zs).symm)
section
open PySem.Calls
variable {prog:Program}  {A:Around} {E:Value->Shared->Prop}  {T:String} {r d:Addr}  {P:Nat->Value->Prop} {OK:Heap->Prop}
theorem IS{R:List Value->Shared->Prop}(S:PySem.W.KdlSrc prog w T r d n P OK)(calm:A.handled=none)(ok:OK s.heap)(few:n<=sizeLine)
  (go:∀(g:Heap) (tk:Nat) (acc:Array Value),(∀b o,s.heap.get? b=some o->g.get? b=some o)->s.heap.objs.size<g.objs.size->ItemsOf P acc n->R acc.toList { s with heap:=g,toks:=tk }) :
  wpAny (model prog w) A (collect (.ref r)) R E s:=by
 obtain⟨t,p⟩:=S.there _ ok;unfold collect;refine aaa (wpAny_runValue (codeAny_builtin entry_proto_collect' ?_));rw[aaZ PySem.F.plain_proto_collect _];show wpAny _ A.in1 (newList [] >>= λx=>again (.builtin "list.__iadd__" ⟨[x,.ref r],[]⟩)) _ _ s;refine aaa (aaF (aaf ⟨plainId_quiet PySem.F.plain_list_iadd _,codeAny_builtin entry_list_iadd' ?_⟩));rw[aaZ PySem.F.plain_list_iadd _];have top:(s.heap.push { cls:=.type "list", data:=.seq ([]:List Value).toArray }).get? s.heap.objs.size=some { cls:=.type "list", data:=.seq #[] }:=Heap.get?_push_size _ rfl;show wpAny _ A.in1 (Builtin.List.listExtendWith (.ref s.heap.objs.size) (.ref r) (.ref s.heap.objs.size)) _ _ _
 have j:=PySem.W.kdl_extend (A:=A) (s:={ s with heap:=s.heap.push { cls:=.type "list", data:=.seq ([]:List Value).toArray } })
  (R:=λ(q:Result) (s':Shared)=>∃(g:Heap) (tk:Nat) (acc:Array Value) (c:Nat),q=.ok (.ret (.ref s.heap.objs.size))/\s'={ s with heap:=g,toks:=tk } /\
   (∀b o,s.heap.get? b=some o->g.get? b=some o)/\g.get? s.heap.objs.size=some { cls:=.type "list", dict:=none,data:=.seq acc c,slots:=#[] }/\ItemsOf P acc n)
  S calm (S.keep _ _ ok λb _ o e=>Heap.get?_push_of_some _ e) s.heap.objs.size (Nat.ne_of_gt t) (Nat.ne_of_gt p) (.ref s.heap.objs.size) 0 top
  (λg tk acc c k i a=>⟨g,tk,acc,c,rfl,rfl,λb o e=>k b o (aak (aag e)) (Heap.get?_push_of_some _ e),i,a⟩) few
 refine abj j (λz s' x=>?_) λe s' x=>?_
 ·cases z with
  | done f=>
   obtain⟨g,tk,acc,c,e,rfl,k,i,a⟩:=x;cases e;exact aaa (wpAny_load i (aaf (go g tk acc k (aag i) a)))
  | again m=>
   refine⟨x.1,codeAny_mono x.2 λq l y=>?_⟩;obtain⟨g,tk,acc,c,rfl,rfl,k,i,a⟩:=y;exact aaa (wpAny_load i (aaf (go g tk acc k (aag i) a)))
 ·obtain⟨_,_,_,_,u,_⟩:=x;cases u
end
theorem lg(V:X.calm=true):CallR X (.builtin "sorted") (λxs H Q=>∃p kvs zs,xs=[.ref p]/\Rd H p (.dK kvs)/\kvs.map (·.1)=zs.map Sum.inr/\kvs.length<64/\∀q ss,H q=none->ss.Perm zs->sortedS ss=true->Q (.ref q) (upd H q (.lst (ss.map .str)))):=by
 intro pins s σ H xs us Q I r h;obtain⟨p,kvs,zs,rfl,N,A,E,q⟩:=h;obtain⟨u,rfl,T⟩:=fE r;cases T;obtain⟨g,W,vs,M,m⟩:kvs.length<=sizeLine/\(p==sysModules)=false/\∃vs,KV kvs vs/\s.heap.DictOf (ax X.prog X.w) p vs:=N.ok I.hok;obtain⟨ep,D⟩:=m.dictAt;have hl:kvs.length=vs.length:=aa2 M;refine Calls.call_function_entry kind_sorted plain_sorted entry_sorted (args_sorted1 _) ?_;unfold Builtin.«sorted»;refine aaa (m:=checkCount "sorted" 1 1 _) (aaf ?_);refine aaa (IS (PySem.W.kdl_dict (knd:=ax X.prog X.w) (kvs:=vs) (ep:=ep) W) (by simpa using I.ok.hd V) D (by rw[← hl];exact g) λh' tk acc O G f=>?_);have c:acc.toList.length=kvs.length:=by rw[abO,f.1,hl]
 have y:StrsAre acc.toList zs:=by
  have d:∀(j:Nat) v,acc.toList[j]?=some v->∃k x,vs[j]?=some (k,x)/\jJ k v=true:=λj v e=>f.2 j v (by rw[← Array.getElem?_toList];exact e);clear f O q N m D;generalize acc.toList=us at c d;clear g hl E I r
  induction M generalizing us zs with
  | nil=>
   cases zs with
   |nil=>cases us with|nil=>exact .nil|cons a b=>simp at c
   |cons z zs=>simp at A
  | cons h1 h2 U=>
   cases zs with
   |nil=>simp at A
   | cons z zs=>
    cases us with
    |nil=>simp at c
    | cons a b=>
     simp only[List.map_cons,List.cons.injEq] at A;obtain⟨k,x,S,R⟩:=d 0 a rfl;simp only[List.getElem?_cons_zero,Option.some.injEq] at S;subst S;have Y:_=k:=h1.1;rw[← Y,A.1] at R;rcases aP R with ⟨i,t,q,_⟩|⟨z',t,q,rfl⟩
     ·cases q
     ·cases q;exact .cons _ t (U zs A.2 b (by exists c) λj v e=>by simpa using d (j+1) v (by exists e))
 refine aaa (wpAny_newList ?_ (hsz:=by rw[c];exact g));have n:(h'.push (seqObj "list" acc.toList.toArray 0)).get? h'.objs.size=some (seqObj "list" acc.toList.toArray 0):=Heap.get?_push_size _ rfl;have w:s.heap.objs.size<=h'.objs.size:=ab1 G;refine aaa (aaW (aay slot_list_sort ⟨_,n,rfl⟩ entry_list_sort (list_sort_treeK strKind_oneLt n y.keysOf (λL K rest e=>keyKind_strs (by rw[← e];exact y)) (by rw[c];exact E) λB a1 a2=>⟨_,rfl,?_⟩) (args_list_sort _)));obtain⟨l,b1,b2,b3⟩:=sorted_out_str y a1 a2;obtain⟨Z,J⟩:=sortedHeap_at (out:=(arrOf B).map (·.2)) n;have F:l.length=kvs.length:=by rw[b2.length_eq];have:=congrArg List.length A;simpa using this.symm
 refine aaf ⟨_,rfl,.ref h'.objs.size,_,I.laid (t':=tk) (o:=.lst (l.map .str)) (λb ob P=>?_) w ⟨by rw[abz,F];exact g,((arrOf B).map (·.2)).toList,Z,dQ b1,by rw[abf];exact J⟩,rfl,q h'.objs.size l (I.hok.fresh w) b2 b3⟩;have C:b<h'.objs.size:=aaq (aag P) w;rw[sortedHeap_old (aak C) (by rw[size_push'];exact aaS C)];exact Heap.get?_push_of_some _ (O b ob P)
section
variable {K:Frag} 
def tj(d e:D):Prop:=okD d=true/\okD e=true/\dep (v9 d)<=40
def aEq:D->D->(OV->Prop)->Prop:=λd e P=>tj d e/\P (.fz (.bl (dEq d e)))
def aNe:D->D->(OV->Prop)->Prop:=λd e P=>tj d e/\P (.fz (.bl (!dEq d e)))
theorem IT:OpF K (KO K) aEq:=⟨fun {F H x y d e Q P} s b a f n=>.inr ⟨_,_,(b.den s).deep f.1.1,(a.den s).deep f.1.2.1,f.1.2.2,aw s n (.bl _) f.2⟩⟩
theorem IU:OpF K (KP K) aNe:=⟨fun {F H x y d e Q P} s b a f n=>.inr ⟨_,_,(b.den s).deep f.1.1,(a.den s).deep f.1.2.1,f.1.2.2,aw s n (.bl _) f.2⟩⟩
def vOf:D->V
 |.non=>.non
 |.bl b=>.bl b
 |.int i=>.int i
 |.str z=>.str z
 |_=>.non
def flD:D->Bool
 |.non=>true
 |.bl _=>true
 |.int _=>true
 |.str _=>true
 |_=>false
theorem Den.flat(h:Den K F v d)(f:flD d=true):v=vOf d/\gT v=true:=by
 cases h <;> first|exact⟨rfl,rfl⟩|exact(abF f).elim
theorem Dens.flat{v:List V}{d:List D}(h:Dens K F v d)(f:d.all flD=true):v=d.map vOf/\v.all gT=true:=by
 induction d generalizing v with
 |nil=>cases h;exact⟨rfl,rfl⟩
 | cons d ds a=>
  cases h with
  | cons h t=>
   rw[aaJ,abP] at f;obtain⟨h1,h2⟩:=h.flat f.1;obtain⟨c,b⟩:=a t f.2;exact⟨by rw[abC,← h1,← c],by rw[aaJ,h2,b];rfl⟩
theorem Acc.flat(h:Acc K F H v d)(f:flD d=true):v=vOf d/\gT v=true:=by
 cases h with
 |fz h=>exact h.flat f
 |lst _ _=>exact(abF f).elim
 |dct _ _ _=>exact(abF f).elim
 |dt _ _ _=>exact(abF f).elim
def inD(d:D)(ds:List D):Bool:=inV (vOf d) (ds.map vOf)
def qf(ks:List Key)(k:Key):Bool:=ks.any λx=>decide (x=k)
def tm(ks:List (List Key))(k:List Key):Bool:=ks.any λx=>decide (x=k)
def i7:List D->Option (List Key)
 |[]=>some []
 | d::ds=>match lc d with
  | some k=>match i7 ds with
   |some ks=>some (k::ks)
   |none=>none
  |none=>none
theorem xJ(h:Dens K F xs ds)(e:i7 ds=some k):xs=k.map kV:=by
 induction ds generalizing xs k with
 |nil=>cases h;cases e;rfl
 | cons d ds g=>
  cases h with
  | cons h t=>
   unfold i7 at e
   cases c:lc d with
   |none=>rw[c] at e;cases e
   | some a=>
    cases f:i7 ds with
    |none=>rw[c,f] at e;cases e
    | some b=>
     rw[c,f] at e;cases e;rw[abC,← g t f,dW (F:=F) (H:=F) (.fz h) c]
theorem jZ(s:Same F H)(h:Acc K F H v (.tup ds))(e:i7 ds=some k):∃b,v=.ref b/\H b=some (.tup (k.map kV)):=by
 obtain⟨b,xs,rfl,h1,h2⟩:=h.asTH s;exact⟨b,rfl,by rw[← xJ h2 e];exact h1⟩
def bIn(d:D)(R:Bool->Prop):D->Prop
 | .str y=>(match d with
  | .str x=>(match x.cps.toList with
   |[c]=>R (decide (c∈y.cps.toList))
   |_=>False)
  |_=>False)
 |.lst ds=>(flD d=true/\ds.all flD=true)/\R (inD d ds)
 |.tup ds=>(flD d=true/\ds.all flD=true)/\R (inD d ds)
 | .dct ks _=>(match lc d with
  |some k=>R (qf ks k)
  |none=>False)
 |.gt ds=>(flD d=true/\ds.all flD=true)/\R (inD d ds)
 | .dt ks _=>(match d with
  | .tup a=>(match i7 a with
   |some k=>R (tm ks k)
   |none=>False)
  |_=>False)
 |_=>False
def aIn(d e:D)(P:OV->Prop):Prop:=bIn d (λb=>P (.fz (.bl b))) e
def lh(d e:D)(P:OV->Prop):Prop:=bIn d (λb=>P (.fz (.bl (!b)))) e
theorem AQ{c:Nat}(h:x.cps.toList=[c]):x=⟨#[c]⟩:=jP h
theorem n9{k:Key}(h:ys.map (·.1)=ks):(gw ys k).isSome=qf ks k:=by
 rw[← gF,qf,← h,ab5];rfl
theorem xK{ys:List (List Key×V)}{ks:List (List Key)}(h:ys.map (·.1)=ks):(gw ys k).isSome=tm ks k:=by
 rw[← gF,tm,← h,ab5];rfl
theorem AR{x y:V}{R:Bool->Prop}(s:Same F H)(hx:Acc K F H x d)(g:Acc K F H y e)(f:bIn d R e)(n:∀b,R b->Q (.bl b) H):L5 K x y H Q:=by
 cases e with
 | str z=>
  cases d with
  | str u=>
   unfold bIn at f;dsimp only at f;generalize t:u.cps.toList=l at f
   cases l with
   |nil=>exact False.elim f
   | cons c r=>
    cases r with
    |nil=>exact .inl (.inl ⟨c,_,by rw[hx.str_eq,AQ t],g.str_eq,n _ f⟩)
    |cons=>exact False.elim f
  |_=>exact False.elim f
 | lst ds=>
  obtain⟨a,xs,rfl,h1,h2⟩:=g.asL s;obtain⟨o,m⟩:=hx.flat f.1.1;obtain⟨j,i⟩:=h2.flat f.1.2;subst o j;exact .inl (.inr ⟨a,_,rfl,.inl h1,m,i,n _ f.2⟩)
 | tup ds=>
  obtain⟨a,xs,rfl,h1,h2⟩:=g.asT s;obtain⟨o,m⟩:=hx.flat f.1.1;obtain⟨j,i⟩:=h2.flat f.1.2;subst o j;exact .inl (.inr ⟨a,_,rfl,.inr h1,m,i,n _ f.2⟩)
 | dct ks vs=>
  unfold bIn at f;dsimp only at f;generalize p:lc d=l at f
  cases l with
  |none=>exact False.elim f
  | some k=>
   obtain⟨a,ys,rfl,h1,h2,w⟩:=g.asD s;refine .inr ⟨a,gw ys k,rfl,by rw[dW hx p];exact DGet.kR h1,?_⟩;rw[n9 h2];exact n _ f
 | gt ds=>
  obtain⟨a,xs,rfl,h1,h2⟩:=g.asG s;obtain⟨o,m⟩:=hx.flat f.1.1;obtain⟨j,i⟩:=h2.flat f.1.2;subst o j;exact .inl (.inr ⟨a,_,rfl,.inr h1,m,i,n _ f.2⟩)
 | dt ks vs=>
  cases d with
  | tup q=>
   unfold bIn at f;dsimp only at f;generalize p:i7 q=l at f
   cases l with
   |none=>exact False.elim f
   | some k=>
    obtain⟨a,ys,rfl,h1,h2,w⟩:=g.asDT s;obtain⟨b,rfl,v⟩:=jZ s hx p;refine .inr ⟨a,gw ys k,rfl,.inr ⟨ys,k,b,h1,rfl,v,rfl⟩,?_⟩;rw[xK h2];exact n _ f
  |_=>exact False.elim f
 |_=>exact False.elim f
theorem IV:OpF K (L5 K) aIn:=⟨λs b a f n=>AR s b a f λ_ q=>aw s n (.bl _) q⟩
theorem tp:OpF K (sY K) lh:=⟨by
 intro F H x y d e Q P s k j f n;have h:=AR (Q:=λv H'=>∀b,v=.bl b->Q (.bl (!b)) H') s k j f λb q c e=>by cases e;exact aw s n (.bl _) q
 obtain (⟨c,z,i,g,q⟩|⟨a,xs,i,g,m,l,q⟩)|⟨a,o,i,g,q⟩:=h
 ·exact .inl (.inl ⟨c,z,i,g,q _ rfl⟩)
 ·exact .inl (.inr ⟨a,xs,i,g,m,l,q _ rfl⟩)
 ·exact .inr ⟨a,o,i,g,q _ rfl⟩⟩
def ie(ks:List Key)(ds:List D)(k:Key):Option D:=((ks.zip ds).find? λa=>decide (a.1=k)).map (·.2)
def gc(ks:List (List Key))(ds:List D)(k:List Key):Option D:=((ks.zip ds).find? λa=>decide (a.1=k)).map (·.2)
def aIx:D->D->(OV->Prop)->Prop
 | .lst ds,.int i,P=>(match atI ds i with
  |some d=>P (.fz d)
  |none=>False)
 | .tup ds,.int i,P=>(match atI ds i with
  |some d=>P (.fz d)
  |none=>False)
 | .str z,.int i,P=>z.length<=sizeLine/\(match atI z.cps.toList i with
  |some c=>P (.fz (.str ⟨#[c]⟩))
  |none=>False)
 | .dct ks ds,k,P=>(match lc k with
  | some k=>(match ie ks ds k with
   |some d=>P (.fz d)
   |none=>False)
  |none=>False)
 | .dt ks ds,.tup a,P=>(match i7 a with
  | some k=>(match gc ks ds k with
   |some d=>P (.fz d)
   |none=>False)
  |none=>False)
 |_,_,_=>False
theorem Dens.atI{i:Int}(h:Dens K F xs ds)(e:L2.atI ds i=some d):∃x,L2.atI xs i=some x/\Den K F x d:=by
 unfold L2.atI at e ⊢;rw[h.length]
 cases q:ixN ds.length i with
 |none=>rw[q] at e;cases e
 |some j=>rw[q] at e;exact h.get e
theorem li{κ:Type}[DecidableEq κ]{ys:List (κ×V)}{ks:List κ}{k:κ}(f:ys.map (·.1)=ks)(h:Dens K F (ys.map (·.2)) ds)(e:((ks.zip ds).find? λb=>decide (b.1=k)).map (·.2)=some d):∃v,gw ys k=some v/\Den K F v d:=by
 subst f
 induction ys generalizing ds with
 |nil=>simp at e
 | cons y ys c=>
  cases h with
  | @cons _ g _ ds h1 h2=>
   by_cases a:y.1=k
   ·rw[gC a];simp only[List.map_cons,List.zip_cons_cons,List.find?_cons,a,decide_true,Option.map_some,Option.some.injEq] at e;subst e;exact⟨y.2,rfl,h1⟩
   ·rw[gE a];simp only[List.map_cons,List.zip_cons_cons,List.find?_cons,a,decide_false] at e;exact c h2 e
theorem j1{k:Key}(a:ys.map (·.1)=ks)(h:Dens K F (ys.map (·.2)) ds)(e:ie ks ds k=some d):∃v,gw ys k=some v/\Den K F v d:=li a h e
theorem tq{ys:List (List Key×V)}{ks:List (List Key)}(a:ys.map (·.1)=ks)(h:Dens K F (ys.map (·.2)) ds)(e:gc ks ds k=some d):∃v,gw ys k=some v/\Den K F v d:=li a h e
theorem IW:OpF K (KU K) aIx:=⟨by
 intro F H x y d e Q P s o m f n
 cases d with
 | lst ds=>
  cases e with
  | int i=>
   unfold aIx at f;dsimp only at f
   cases hd:L2.atI ds i with
   |none=>rw[hd] at f;exact False.elim f
   | some d=>
    rw[hd] at f;obtain⟨a,xs,rfl,h1,h2⟩:=o.asL s;obtain⟨v,l,j⟩:=h2.atI hd;exact .inl (.inl ⟨a,xs,_,v,rfl,m.int_eq,h1,l,aw s n j f⟩)
  |_=>exact False.elim f
 | tup ds=>
  cases e with
  | int i=>
   unfold aIx at f;dsimp only at f
   cases hd:L2.atI ds i with
   |none=>rw[hd] at f;exact False.elim f
   | some d=>
    rw[hd] at f;obtain⟨a,xs,rfl,h1,h2⟩:=o.asT s;obtain⟨v,l,j⟩:=h2.atI hd;exact .inl (.inr (.inl ⟨a,xs,_,v,rfl,m.int_eq,h1,l,aw s n j f⟩))
  |_=>exact False.elim f
 | str z=>
  cases e with
  | int i=>
   obtain⟨f1,f⟩:=f
   cases p:L2.atI z.cps.toList i with
   |none=>rw[p] at f;exact False.elim f
   | some c=>
    rw[p] at f;exact .inl (.inr (.inr ⟨_,_,c,o.str_eq,m.int_eq,f1,p,aw s n (.str _) f⟩))
  |_=>exact False.elim f
 | dct ks ds=>
  unfold aIx at f;dsimp only at f
  cases g:lc e with
  |none=>rw [g] at f;exact False.elim f
  | some k=>
   rw[g] at f;dsimp only at f
   cases hd:ie ks ds k with
   |none=>rw[hd] at f;exact False.elim f
   | some d=>
    rw[hd] at f;obtain⟨a,ys,rfl,h1,h2,l⟩:=o.asD s;obtain⟨v,j,q⟩:=j1 h2 l hd;exact .inr ⟨a,v,rfl,by rw[dW m g,← j];exact DGet.kR h1,aw s n q f⟩
 | dt ks ds=>
  cases e with
  | tup r=>
   unfold aIx at f;dsimp only at f
   cases g:i7 r with
   |none=>rw[g] at f;exact False.elim f
   | some k=>
    rw[g] at f;dsimp only at f
    cases hd:gc ks ds k with
    |none=>rw[hd] at f;exact False.elim f
    | some d=>
     rw[hd] at f;obtain⟨a,ys,rfl,h1,h2,l⟩:=o.asDT s;obtain⟨b,rfl,t⟩:=jZ s m g;obtain⟨v,j,q⟩:=tq h2 l hd;exact .inr ⟨a,v,rfl,.inr ⟨ys,k,b,h1,rfl,t,j.symm⟩,aw s n q f⟩
  |_=>exact False.elim f
 |_=>exact False.elim f⟩
def eM(n:Nat)(lo hi:Option Int):Prop:=¬(HT.sIx n 0 lo=0/\HT.sIx n n hi=n)
def c9(z:Str)(lo hi:Option Int):Str:=⟨(eQ z.cps.toList lo hi).toArray⟩
def aSl:D->Option Int->Option Int->(OV->Prop)->Prop
 |.str z,lo,hi,P=>z.length<=sizeLine/\P (.fz (.str (c9 z lo hi)))
 |.lst ds,lo,hi,P=>P (.fl (eQ ds lo hi))
 |.tup ds,lo,hi,P=>eM ds.length lo hi/\P (.fz (.tup (eQ ds lo hi)))
 |_,_,_,_=>False
theorem Dens.cut{lo hi:Option Int}(h:Dens K F xs ds):Dens K F (eQ xs lo hi) (eQ ds lo hi):=by
 unfold eQ;rw[h.length];exact(h.drop _).take _
theorem j2:SlF K (Hj K) aSl:=⟨by
 intro F H x d lo hi Q P s b f n
 cases d with
 | str z=>
  refine .inl ⟨_,b.str_eq,f.1,λy c=>?_⟩;have e:y=c9 z lo hi:=jP (c.trans (by simp[c9]));rw[e];exact aw s n (.str _) f.2
 | lst ds=>
  obtain⟨a,xs,rfl,h1,h2⟩:=b.asL s;exact .inr (.inl ⟨a,xs,rfl,h1,dh s n h2.cut f⟩)
 | tup ds=>
  obtain⟨a,xs,rfl,h1,h2⟩:=b.asT s;exact .inr (.inr ⟨a,xs,rfl,h1,by rw[h2.length];exact f.1,n8 s n h2.cut f.2⟩)
 |_=>exact False.elim f⟩
def eY:List D->(OV->Prop)->Prop
 |[.str z],P=>z.length<=sizeLine/\P (.fz (.int z.length))
 |[.lst ds],P=>P (.fz (.int ds.length))
 |[.tup ds],P=>P (.fz (.int ds.length))
 |[.dct ks _],P=>P (.fz (.int ks.length))
 |_,_=>False
theorem IX:CallF K (Gk K) eY:=⟨by
 intro F H xs ds Q P s b f n
 cases ds with
 |nil=>exact False.elim f
 | cons d tl=>
 cases d with
 | str z=>
  cases tl with
  |cons _ _=>exact False.elim f
  | nil=>
  obtain⟨x,rfl,a⟩:=cu b;exact .inl ⟨_,by rw[a.str_eq],f.1,aw s n (.int _) f.2⟩
 | lst ds=>
  cases tl with
  |cons _ _=>exact False.elim f
  | nil=>
  obtain⟨x,rfl,a⟩:=cu b;obtain⟨p,ys,rfl,h1,h2⟩:=a.asL s;exact .inr (.inl ⟨p,ys,rfl,.inl h1,by rw[h2.length];exact aw s n (.int _) f⟩)
 | tup ds=>
  cases tl with
  |cons _ _=>exact False.elim f
  | nil=>
  obtain⟨x,rfl,a⟩:=cu b;obtain⟨p,ys,rfl,h1,h2⟩:=a.asT s;exact .inr (.inl ⟨p,ys,rfl,.inr h1,by rw[h2.length];exact aw s n (.int _) f⟩)
 | dct ks es=>
  cases tl with
  |cons _ _=>exact False.elim f
  | nil=>
  obtain⟨x,rfl,a⟩:=cu b;obtain⟨p,ys,rfl,h1,h2,c⟩:=a.asD s;subst h2;have f:P (.fz (.int (ys.map (·.1)).length)):=f;rw[abz] at f;exact .inr (.inr ⟨p,ys,rfl,h1,aw s n (.int _) f⟩)
 |_=>exact False.elim f⟩
def KW:List D->(OV->Prop)->Prop
 |[.int i,.int j],P=>P (.fz (.int (if j > i then j else i)))
 |_,_=>False
def L8:List D->(OV->Prop)->Prop
 |[.int i,.int j],P=>P (.fz (.int (if j<i then j else i)))
 |_,_=>False
theorem IY:CallF K LI KW:=⟨by
 intro F H xs ds Q P s c f n
 cases ds with
 |nil=>exact False.elim f
 | cons d tl=>
 cases d with
 | int i=>
  cases tl with
  |nil=>exact False.elim f
  | cons e tl=>
  cases e with
  | int j=>
   cases tl with
   |cons _ _=>exact False.elim f
   | nil=>
   obtain⟨x,y,rfl,a,b⟩:=nX c;exact⟨_,_,by rw[a.int_eq,b.int_eq],aw s n (.int _) f⟩
  |_=>exact False.elim f
 |_=>exact False.elim f⟩
theorem IZ:CallF K LJ L8:=⟨by
 intro F H xs ds Q P s c f n
 cases ds with
 |nil=>exact False.elim f
 | cons d tl=>
 cases d with
 | int i=>
  cases tl with
  |nil=>exact False.elim f
  | cons e tl=>
  cases e with
  | int j=>
   cases tl with
   |cons _ _=>exact False.elim f
   | nil=>
   obtain⟨x,y,rfl,a,b⟩:=nX c;exact⟨_,_,by rw[a.int_eq,b.int_eq],aw s n (.int _) f⟩
  |_=>exact False.elim f
 |_=>exact False.elim f⟩
def cIs:List D->(OV->Prop)->Prop
 |[d,.ty T],P=>(DK (tyD d)=true/\DK T=true)/\P (.fz (.bl (isT (tyD d) T)))
 |_,_=>False
theorem L9:CallF K (L6 K) cIs:=⟨by
 intro F H xs ds Q P s c f n
 cases ds with
 |nil=>exact False.elim f
 | cons d ds=>
 cases ds with
 |nil=>exact False.elim f
 | cons e ds=>
 cases e with
 | ty T=>
  cases ds with
  |cons _ _=>exact False.elim f
  | nil=>
  obtain⟨x,y,rfl,a,b⟩:=nX c;exact⟨x,_,_,by rw[b.ty_eq],a.den s,f.1.1,f.1.2,aw s n (.bl _) f.2⟩
 |_=>exact False.elim f⟩
def gA:List D->Option (List Bool)
 |[]=>some []
 |.bl b::ds=>(gA ds).map (b::·)
 |_::_=>none
theorem j3:∀{ds:List D} {bs:List Bool},gA ds=some bs->ds=bs.map .bl
 |[],_,h=>by simp only[gA,Option.some.injEq] at h;subst h;rfl
 | d::ds,bs,h=>by
  cases d <;> simp[gA] at h;obtain⟨a,h1,rfl⟩:=h;rw[j3 h1];rfl
theorem lj:∀bs:List Bool,gA (bs.map .bl)=some bs
 |[]=>rfl
 |b::bs=>by rw[abC,gA,lj bs];rfl
def we:List D->(OV->Prop)->Prop
 | [.lst ds],P=>(match gA ds with
  |some bs=>P (.fz (.bl (bs.all id)))
  |none=>False)
 |_,_=>False
def Ma:List D->(OV->Prop)->Prop
 | [.lst ds],P=>(match gA ds with
  |some bs=>P (.fz (.bl (bs.any id)))
  |none=>False)
 |_,_=>False
theorem I0:CallF K (KM K) we:=⟨by
 intro F H xs ds Q P s c f n
 cases ds with
 |nil=>exact False.elim f
 | cons d tl=>
 cases d with
 | lst ds=>
  cases tl with
  |cons _ _=>exact False.elim f
  | nil=>
  obtain⟨x,rfl,a⟩:=cu c;obtain⟨p,ys,rfl,h1,h2⟩:=a.asL s;unfold we at f;dsimp only at f
  cases b:gA ds with
  |none=>rw [b] at f;exact False.elim f
  | some bs=>
   rw[b] at f;rw[j3 b] at h2;exact⟨p,bs,rfl,by rw[← h2.bls_eq];exact h1,aw s n (.bl _) f⟩
 |_=>exact False.elim f⟩
theorem I8:CallF K (KN K) Ma:=⟨by
 intro F H xs ds Q P s c f n
 cases ds with
 |nil=>exact False.elim f
 | cons d tl=>
 cases d with
 | lst ds=>
  cases tl with
  |cons _ _=>exact False.elim f
  | nil=>
  obtain⟨x,rfl,a⟩:=cu c;obtain⟨p,ys,rfl,h1,h2⟩:=a.asL s;unfold Ma at f;dsimp only at f
  cases b:gA ds with
  |none=>rw [b] at f;exact False.elim f
  | some bs=>
   rw[b] at f;rw[j3 b] at h2;exact⟨p,bs,rfl,by rw[← h2.bls_eq];exact h1,aw s n (.bl _) f⟩
 |_=>exact False.elim f⟩
def xL:Key->D
 |.inl i=>.int i
 |.inr z=>.str z
theorem fL{F:Hp}:∀(ks:List Key),Dens K F (ks.map kV) (ks.map xL)
 |[]=>.nil
 |.inl i::ks=>.cons (.int i) (fL ks)
 |.inr z::ks=>.cons (.str z) (fL ks)
def DT:List D->(OV->Prop)->Prop
 |[.lst ds],P=>P (.fl ds)
 |[.tup ds],P=>P (.fl ds)
 |[.dct ks _],P=>P (.fl (ks.map xL))
 |_,_=>False
theorem DU:CallF K (sK K) DT:=⟨by
 intro F H xs ds Q P s b f n
 cases ds with
 |nil=>exact False.elim f
 | cons d tl=>
 cases d with
 | lst ds=>
  cases tl with
  |cons _ _=>exact False.elim f
  | nil=>
  obtain⟨x,rfl,a⟩:=cu b;obtain⟨p,ys,rfl,h1,h2⟩:=a.asL s;exact sL h1 (dh s n h2 f)
 | tup ds=>
  cases tl with
  |cons _ _=>exact False.elim f
  | nil=>
  obtain⟨x,rfl,a⟩:=cu b;obtain⟨p,ys,rfl,h1,h2⟩:=a.asT s;exact sM h1 (dh s n h2 f)
 | dct ks es=>
  cases tl with
  |cons _ _=>exact False.elim f
  | nil=>
  obtain⟨x,rfl,a⟩:=cu b;obtain⟨p,ys,rfl,h1,h2,g⟩:=a.asD s;refine pZ h1 (dh s n ?_ f);have e:(ys.map λc=>kV c.1)=(ys.map (·.1)).map kV:=by rw[aau];rfl
  rw[e,h2];exact fL _
 |_=>exact False.elim f⟩
def dZ:List D->Option (List Str)
 |[]=>some []
 |.str z::ds=>(dZ ds).map (z::·)
 |_::_=>none
theorem ig:∀{ds:List D} {zs:List Str},dZ ds=some zs->ds=zs.map .str
 |[],_,h=>by simp only[dZ,Option.some.injEq] at h;subst h;rfl
 | d::ds,bs,h=>by
  cases d <;> simp[dZ] at h;obtain⟨a,h1,rfl⟩:=h;rw[ig h1];rfl
theorem ge:∀zs:List Str,dZ (zs.map .str)=some zs
 |[]=>rfl
 |b::bs=>by rw[abC,dZ,ge bs];rfl
def di:List Key->Option (List Str)
 |[]=>some []
 |.inr z::ks=>(di ks).map (z::·)
 |.inl _::_=>none
theorem jt:∀{ds:List Key} {zs:List Str},di ds=some zs->ds=zs.map Sum.inr
 |[],_,h=>by simp only[di,Option.some.injEq] at h;subst h;rfl
 | d::ds,bs,h=>by
  cases d <;> simp[di] at h;obtain⟨a,h1,rfl⟩:=h;rw[jt h1];rfl
theorem ii:∀zs:List Str,di (zs.map Sum.inr)=some zs
 |[]=>rfl
 |b::bs=>by rw[abC,di,ii bs];rfl
def qg:List D->(OV->Prop)->Prop
 | [.lst ds],P=>(match dZ ds with
  |some zs=>zs.length<64/\P (.fl ((bv zs).map .str))
  |none=>False)
 | [.dct ks _],P=>(match di ks with
  |some zs=>zs.length<64/\P (.fl ((bv zs).map .str))
  |none=>False)
 |_,_=>False
def tt(P:Program)(w:World)(K:Frag):List V->Hp->VK->Prop:=λxs H Q=>sJ P w K xs H Q∨∃p kvs zs,xs=[.ref p]/\Rd H p (.dK kvs)/\kvs.map (·.1)=zs.map Sum.inr/\kvs.length<64/\∀q ss,H q=none->ss.Perm zs->sortedS ss=true->Q (.ref q) (upd H q (.lst (ss.map .str)))
theorem xM(P:Program)(w:World)(K:Frag)(a:X.calm=true)(b:X.prog=P)(hw:X.w=w)(h:X.K=K):BCall X (.builtin "sorted") (tt P w K):=by subst h b hw;exact⟨(kY a).or (lg a)⟩
theorem DW{P:Program}:CallF K (tt P w K) qg:=⟨by
 intro F H xs ds Q i s e f n
 cases ds with
 |nil=>exact False.elim f
 | cons d tl=>
 cases d with
 | lst ds=>
  cases tl with
  |cons _ _=>exact False.elim f
  | nil=>
  obtain⟨x,rfl,a⟩:=cu e;obtain⟨p,ys,rfl,h1,h2⟩:=a.asL s;unfold qg at f;dsimp only at f
  cases b:dZ ds with
  |none=>rw [b] at f;exact False.elim f
  | some zs=>
   rw[b] at f;rw[ig b] at h2;rw[h2.strs_eq] at h1;refine .inl ⟨p,zs,rfl,.inr h1,f.1,λq ss c hp hs=>?_⟩;rw[gr hp hs];exact dh s n (Dens.strs _) f.2 q c
 | dct ks es=>
  cases tl with
  |cons _ _=>exact False.elim f
  | nil=>
  obtain⟨x,rfl,a⟩:=cu e;obtain⟨p,ys,rfl,h1,h2,g⟩:=a.asD s;unfold qg at f;dsimp only at f
  cases b:di ks with
  |none=>rw [b] at f;exact False.elim f
  | some zs=>
   rw[b] at f;rw[jt b] at h2;have hl:ys.length=zs.length:=by have:=congrArg List.length h2;rwa [abz,abz] at this
   refine .inr ⟨p,ys,zs,rfl,h1,h2,by rw[hl];exact f.1,λq ss c hp hs=>?_⟩;rw[gr hp hs];exact dh s n (Dens.strs _) f.2 q c
 |_=>exact False.elim f⟩
def Mb:List D->(OV->Prop)->Prop
 | [.str z],P=>(match z.cps.toList with
  |[c]=>P (.fz (.int c))
  |_=>False)
 |_,_=>False
theorem I9:CallF K M2 Mb:=⟨by
 intro F H xs ds Q P s d f n;unfold Mb at f;split at f
 ·split at f
  ·rename_i c b;obtain⟨x,rfl,a⟩:=cu d;exact⟨c,by rw[a.str_eq,AQ b],aw s n (.int _) f⟩
  ·exact f.elim
 ·exact f.elim⟩
def oa(zs:List Str):List Str:=zs.foldl (λacc z=>KS.dedup1 acc z) []
theorem gf:∀(zs acc:List Str),acc.Nodup->(zs.foldl (λacc z=>KS.dedup1 acc z) acc).Nodup/\∀k,k∈zs.foldl (λacc z=>KS.dedup1 acc z) acc↔k∈acc∨k∈zs
 |[],acc,h=>⟨h,λk=>by simp⟩
 | z::zs,acc,h=>by
  obtain⟨h1,h2⟩:=gf zs (KS.dedup1 acc z) (kZ h);refine⟨h1,λk=>?_⟩;rw[List.foldl_cons,h2 k,p8,abH];constructor
  ·rintro ((a|a)|a)
   ·exact .inl a
   ·exact .inr (.inl a)
   ·exact .inr (.inr a)
  ·rintro (a|a|a)
   ·exact .inl (.inl a)
   ·exact .inl (.inr a)
   ·exact .inr a
theorem ll(zs:List Str):(oa zs).Nodup:=(gf zs [] abQ).1
theorem qh{k:Str}:k∈oa zs↔k∈zs:=by
 have:=(gf zs [] abQ).2 k;simpa [oa] using this
def setS(zs:List Str):List Str:=bv (oa zs)
theorem mM{a b:List Str}(d:a.Nodup)(c:b.Nodup)(h:∀k,k∈a↔k∈b):a.Perm b:=(List.perm_ext_iff_of_nodup d c).mpr h
theorem ij(c:ss.Nodup)(d:∀k,k∈ss↔k∈zs)(hs:ss.Pairwise λa b=>cQ a b=true):ss=setS zs:=
 ic (mM c (ll zs) λk=>(d k).trans qh.symm) hs
end
end L2
namespace KS
open PySem PySem.Spec PyProof.Rows
section
variable {prog:Program} {w:World} {A:Around} {E:Value->Shared->Prop} {s:Shared}
end
end KS
namespace L2
open PySem PySem.Spec PyProof.Rows
section
variable {X:Cx}
end
section
variable {K:Frag} {μ:List Nat}
end
end L2
namespace L2
open PySem PySem.Spec PyProof.Rows PySem.W
variable{prog:Program}{w:World}{A:Around}{s:Shared}
def xN(n:Nat){α:Type}(c:α->Prop):KasT α->Prop
 |.ret a=>c a
 |.ask i j k=>i<n/\j<n/\∀b,xN n c (k b)
section
variable    {E:Value->Shared->Prop} 
end
section
variable     {C:Bool->Shared->Prop} {bb fn:Bool}
end
section
variable {X:Cx}
end
end L2
namespace L2
open PySem PySem.Spec PyProof.Rows
variable{μ T:List Nat}{P:OV->Prop}{w:World}{te:TE}{fe:FE}{n j:Nat}{fg:FG}{ds:List D}{ρ:FSt}{fb:FS}{E:FEnds}{lo i:Int}{d:D}{Q:D->Prop}{a b z:Str}{zs:List Str}
section
variable {K:Frag} 
def oe:List D->Option (List Str)
 |[]=>some []
 |.tup (.str z::_)::ds=>(oe ds).map (z::·)
 |_::_=>none
def AS(P:Program)(w:World)(K:Frag):List V->Hp->VK->Prop:=tt P w K
theorem xO{X:Cx}(P:Program)(w:World)(K:Frag)(a:X.calm=true)(b:X.prog=P)(hw:X.w=w)(h:X.K=K):BCall X (.builtin "sorted") (AS P w K):=xM P w K a b hw h
@[irreducible] def eU(ds:List D)(P:OV->Prop):Prop:=qg ds P
theorem xP{P:Program}:CallF K (AS P w K) eU:=⟨by
 intro F H xs ds Q b s a f n;unfold eU at f;exact DW.h s a f n⟩
@[irreducible] def M3:List D->(OV->Prop)->Prop
 | [.lst ds],P=>(match dZ ds with
  |some zs=>zs.length<64/\P (.fl ((bv zs).map .str))
  | none=>(match oe ds with
   |some zs=>(zs.Nodup/\zs.length<64)/\∀a:List D,a.Perm ds->P (.fl a)
   |none=>False))
 | [.dct ks _],P=>(match di ks with
  |some zs=>zs.length<64/\P (.fl ((bv zs).map .str))
  |none=>False)
 |_,_=>False
def xQ(e fe:FE):FE:=λρ Q=>e ρ λr b=>on1 b r λd=>match d with
 | .str z=>fe b λc a=>on1 a c λf=>(match f with
  | .lst ds=>(match dZ ds with
   |some zs=>(zs.map (·.length)).sum+zs.length*z.length<=16777216/\Q (.ov (.fz (.str (Builtin.Str.glued z zs)))) a
   |none=>False)
  |_=>False)
 |_=>False
theorem DX{to:TE}{c:FE}(ho:EF K μ to c)(he:EF K μ te fe):EF K μ (tBM K "str" (wZ K) to (eP te kB)) (xQ c fe):=⟨by
 intro F Z H t σ ρ A Q P b R h q;refine ho.h b R h λv j x C H1 I E h1 m g v1 f1=>?_;obtain⟨d,s,h2⟩:=bW h1;split at h2
 ·rename_i z;have ex:=(g.acc v1 s).str_eq;subst ex;refine⟨rfl,he.h b g h2 λu i y B H2 G D o l R2 k f2=>?_⟩;obtain⟨w,r,a⟩:=bW o;split at a
  ·split at a
   ·rename_i zs n;obtain⟨p,ys,rfl,f,e⟩:=(R2.acc k r).asL R2.fh;rw[ig n] at e;rw[e.strs_eq] at f;exact⟨z,p,zs,rfl,rfl,f,a.1,q _ _ _ _ _ _ [] a.2 (m.trans l) R2 (.fz (.str _)) Fresh.nil⟩
   ·exact a.elim
  ·exact a.elim
 ·exact h2.elim⟩
end
section
variable {K:Frag}
theorem M4(h:j<n):EF K (List.range n) (dD j) (ab j):=sO (by simp[h])
theorem ef_w(h:autoParam (j<n) L2.aD._auto_1):EF K (List.range n) (dD j) (ab j):=M4 h
theorem gf_n(h:j<n):GF K (List.range n) [j] (fU j) (ac j):=sQ (by simp[h]) List.nodup_range
theorem DY(h:j<n)(he:EF K (List.range n) te fe):EF K (List.range n) (tBM K "list" dO (dD j) (eP te kB)) (wd j fe):=IE (by simp[h]) he
theorem xR{m:List Nat}(h:(m.all λi=>!T.contains i)=true):∀i∈m,i∉T:=λi hi a=>by
 have:=abV.mp h i hi;simp[a] at this
theorem Mc{no:Nat}(h:(T.all λi=>decide (i<no))=true):∀i∈T,i<no:=λi hi=>of_decide_eq_true (abV.mp h i hi)
theorem Fun.okG{P:Program}{mg:Str->Option Value}{base:Heap}{x qual:Str}{st:Stmt}{f:Addr}{fd:FuncData}{N ps:List Str}{k:Nat}{c:Ct}{fs:FS}(n:Nat)(m:List Nat)(F:Fun K x qual st f fd)(S:FnScope N ps (am st))(d:N.length=n)
  (l:ps.length<=n) (b:∀os P,c os P->os.length=ps.length/\∀j o,os[j]?=some o->j∉m->sV o=true) (e:∀i∈m,i<ps.length)
  (a:∀(cdv:Value) (A:Around) (outer:List Env) (s:Shared) (H:Hp) (E:XK),Room k (A.deeper (envOfC qual (am st) s.heap.objs.size f cdv)) ->
   ∃t,BSs (rJ CX0 P w K mg base N qual (am st) f cdv A outer s H E).nox (bw st) t/\SF K n m t fs)
  (g:∀os P,c os P->fs { nx:=fin m os P (.fz .non),rt:=fin m os P } (ah n os)):FnOk P w K mg base CX0 (k+1) f fd ps (spM K c):=by
 subst d;exact Fun.okF F S l b e a g
end
theorem aE{ft:FT}{P:List D->FSt->Prop}{f:List D}(I:Nat->List D->FSt->Prop)(p:I 0 f ρ)
  (hs:∀(i:Nat) (d:D) (as:List D) (ρ:FSt) (R:List D->FSt->Prop),ds[i]?=some d->I i as ρ->(∀c a,I (i+1) c a->R c a) ->
   fg d ρ λn=>ft n λb g=>br b (fe g λr m=>match fzR r m with
    |some (y,l)=>as.length<sizeLine/\R (as++[y]) l
    |none=>False) (R as g))
  (hd:∀as ρ,I ds.length as ρ->P as ρ):dU fg ft fe P ds f ρ:=by
 have j:∀(k i:Nat) (as:List D) (ρ:FSt),i+k=ds.length->I i as ρ->dU fg ft fe P (ds.drop i) as ρ:=by
  intro k
  induction k with
  | zero=>
   intro i as ρ e h;have:i=ds.length:=by nofun
   subst this;rw[abu];exact sU (hd as ρ h)
  | succ k o=>
   intro i as ρ e h;have hi:i<ds.length:=by nofun
   rw[aaN hi];exact qc (hs i ds[i] as ρ _ (List.getElem?_eq_getElem hi) h λc a h'=>o (i+1) c a (by nofun) h')
 have:=j ds.length 0 f ρ (by nofun) p
 rwa [abg] at this
theorem bP(I:Nat->FSt->Prop)(g:I 0 ρ)
  (hs:∀(i:Nat) (d:D) (ρ:FSt) (R:FSt->Prop),ds[i]?=some d->I i ρ->(∀a,I (i+1) a->R a)->fg d ρ λc=>fb { nx:=R,ct:=R,bk:=E.nx,rt:=E.rt } c)
  (hd:∀ρ,I ds.length ρ->E.nx ρ):dg fg fb E ds ρ:=by
 have b:∀(k i:Nat) (ρ:FSt),i+k=ds.length->I i ρ->dg fg fb E (ds.drop i) ρ:=by
  intro k
  induction k with
  | zero=>
   intro i ρ e h;have:i=ds.length:=by nofun
   subst this;rw[abu];exact sT (hd ρ h)
  | succ k f=>
   intro i ρ e h;have hi:i<ds.length:=by nofun
   rw[aaN hi];exact qb (hs i ds[i] ρ _ (List.getElem?_eq_getElem hi) h λa h'=>f (i+1) a (by nofun) h')
 have:=b ds.length 0 ρ (by nofun) g
 rwa [abg] at this
theorem ef{fc:FT}(I:Nat->FSt->Prop)(n:Nat)(f:I n ρ)
  (hs:∀(m:Nat) (ρ:FSt) (R:FSt->Prop),I m ρ->(∀k a,k<m->I k a->R a)->fc ρ λb c=>br b (fb { nx:=R,ct:=R,bk:=E.nx,rt:=E.rt } c) (E.nx c)):hV fc fb E ρ:=by
 refine⟨n+1,?_⟩
 have d:∀(N m:Nat) (ρ:FSt),m<N->I m ρ->cg fc fb E N ρ:=by
  intro N
  induction N with
  |zero=>intro m ρ h _;nofun
  | succ N e=>
   intro m ρ h hi;exact mK (hs m ρ _ hi λk a g h'=>e k a (by nofun) h')
 exact d (n+1) n ρ (by nofun) f
theorem bo{i:Nat}(h:(dF lo n)[i]?=some d):i<n/\d=.int (lo+i):=by
 unfold dF at h;rw[List.getElem?_map,aaj] at h;obtain⟨k,h1,rfl⟩:=h;obtain⟨h2,a⟩:=List.getElem?_eq_some_iff.mp h1;rw[List.getElem_range] at a;rw[abX] at h2;subst a;exact⟨h2,rfl⟩
theorem bF :(dF lo n).length=n:=by simp[dF]
theorem j4{xs:List D}(a:0<=i)(h:i<xs.length)(q:∀d∈xs,Q d):match atI xs i with
  |some d=>Q d
  | none=>False:=by
 obtain⟨c,h1,h2⟩:=AH a h;rw[h1];exact q c h2
theorem tu{xs:List Nat}{Q:Nat->Prop}(a:0<=i)(h:i<xs.length)(q:∀d∈xs,Q d):match atI xs i with
  |some d=>Q d
  | none=>False:=by
 obtain⟨c,h1,h2⟩:=AH a h;rw[h1];exact q c h2
theorem bx :dEq (.str a) (.str b)=true↔a=b:=by
 show (a==b)=true↔_;rw[beq_iff_eq]
theorem aV{a b:Int}:dEq (.int a) (.int b)=true↔a=b:=by
 show (a==b)=true↔_;rw[beq_iff_eq]
theorem a7 :tj (.str a) (.str b):=⟨rfl,rfl,aan _⟩
theorem ar{a b:Int}:tj (.int a) (.int b):=⟨rfl,rfl,aan _⟩
theorem og{z:Str}:∀{zs:List Str},inV (.str z) (zs.map V.str)=true↔z∈zs
 |[]=>by simp[inV]
 | y::zs=>by
  have a:=og (z:=z) (zs:=zs);unfold inV at a ⊢;rw[abC,abx,Bool.or_eq_true,a,abH]
  have:eqV (.str y) (.str z)=true↔z=y:=by
   show (y==z)=true↔_;rw[beq_iff_eq];exact eq_comm
  rw[this]
theorem eN :inD (.str z) (zs.map D.str)=true↔z∈zs:=by
 unfold inD;have:(zs.map D.str).map vOf=zs.map V.str:=by rw[aau];rfl
 rw[this];exact og
theorem oh(zs:List Str):(zs.map D.str).all flD=true:=by
 induction zs with
 |nil=>rfl
 |cons z zs a=>exact a
theorem bz :qf (zs.map Sum.inr) (.inr z)=true↔z∈zs:=by
 unfold qf;rw[ab5,aaV];constructor
 ·rintro⟨y,h1,h2⟩;have:=of_decide_eq_true h2;cases this;exact h1
 ·intro h;exact⟨z,h,by simp⟩
theorem mN{Q:List Str->Prop}(q:Q zs):match dZ (zs.map .str) with
  |some zs=>Q zs
  | none=>False:=by
 rw[ge];exact q
theorem tw{bs:List Bool}{Q:List Bool->Prop}(q:Q bs):match gA (bs.map .bl) with
  |some zs=>Q zs
  | none=>False:=by
 rw[lj];exact q
theorem tD :(gq (zs.map Sum.inr) ds (.inr z) d).1=(KS.dedup1 zs z).map Sum.inr:=by
 unfold gq KS.dedup1;by_cases h:z∈zs
 ·have e:((zs.map Sum.inr).any λx=>decide (x=(Sum.inr z:Key)))=true:=bz.mpr h;rw[if_pos e,if_pos h]
 ·have e:¬((zs.map Sum.inr).any λx=>decide (x=(Sum.inr z:Key)))=true:=λq=>h (bz.mp q);rw[if_neg e,if_neg h,aad];rfl
theorem tE(hl:zs.length<64)(h:P (.fl ((bv zs).map .str))):eU [.lst (zs.map .str)] P:=by
 unfold eU qg;simp only[ge];exact⟨hl,h⟩
theorem ik(hl:zs.length<64)(h:P (.fl ((bv zs).map .str))):eU [.dct (zs.map Sum.inr) ds] P:=by
 unfold eU qg;simp only[ii];exact⟨hl,h⟩
def KY(fa:FE):FE:=λρ Q=>fa ρ λr a=>on1 a r λd=>match d with
 |.int i=>Q (.ov (.fz (.int (-i)))) a
 |_=>False
theorem Ja{K:Frag}{ta:TE}{fa:FE}(f:EF K μ ta fa):EF K μ (tUn (rU λi=>.int (-i)) ta) (KY fa):=⟨by
 intro F Z H j σ ρ A Q P c R h q;refine f.h c R h λk b x l H1 n m h1 e a v1 f1=>?_;obtain⟨d,g,h2⟩:=bW h1;split at h2
 ·rename_i i;exact⟨i,(a.acc v1 g).int_eq,q _ _ _ _ _ _ _ h2 e a (.fz (.int _)) Fresh.nil⟩
 ·exact h2.elim⟩
theorem xS{α:Type}(xs:List α)(a b:Nat):eQ xs (some (a:Int)) (some (b:Int))=(xs.drop (min a xs.length)).take (min b xs.length - min a xs.length):=by
 unfold eQ;rw[HT.sIx_nat,HT.sIx_nat]
theorem bY{x:D}{r:List D}(q:Q x):match atI (x::r) 0 with
  |some d=>Q d
  | none=>False:=by
 rw[LS];exact q
end L2
namespace KS
open PySem PySem.Spec PyProof.Rows
open PySem.W
section
variable {prog:Program} {w:World} {K:Type} [DecidableEq K] {knd:KeyKind prog w K} {A:Around} {E:Value->Shared->Prop} {s:Shared}
end
end KS
namespace L2
open PySem PySem.Spec PyProof.Rows
variable{X:Cx}{μ ixs T:List Nat}{ty tl te:TE}{i j n ep:Nat}{fk fe:FE}{F H:Hp}{tg l:Expr}{a:Addr}{o:Obj}{kvs:List (Key×V)}{st:Stmt}{g:TG}{fg:FG}{tc:TT}{fc:FT}
section
variable {K:Frag} 
end
theorem DZ{o e:Expr}{td:TE}{apos cpos:Pos}(ho:BE X o td)(he:BE X e ty)(b:attributeBase o "pop" X.env (eval o X.env)=eval o X.env)(c:a9 e=true)(a:(apos.endLine==cpos.line)=true):BE X (.Call (.Attribute o "pop" apos) [e] [] cpos) (nL td ty):=
 ⟨wO ho.h he.h ⟨b,nQ (es:=[e]) (by simp[c]) (by show 1<29;decide),a,by
  rw[aT c];rfl⟩⟩
section
variable {K:Frag} 
def mO(ks:List Key)(ds:List D)(k:Key):List Key×List D:=(ks.filter λx=>decide (x≠k),((ks.zip ds).filter λa=>decide (a.1≠k)).map (·.2))
def D0(i:Nat)(fk:FE):FE:=λρ Q=>(unD ρ i).isSome=true/\fk ρ λs a=>on1 a s λb=>match lc b,unD a i with
 | some k,some (ks,ds)=>(match ie ks ds k with
  |some d=>Q (.ov (.fz d)) (a.set i (some (.fd (mO ks ds k).1 (mO ks ds k).2)))
  |none=>False)
 |_,_=>False
theorem lm{F:Hp}{k:Key}:∀{ys:List (Key×V)} {ks:List Key} {ds:List D},ys.map (·.1)=ks->Dens K F (ys.map (·.2)) ds->(iS ys k).map (·.1)=(mO ks ds k).1/\Dens K F ((iS ys k).map (·.2)) (mO ks ds k).2
 |[],_,ds,a,h=>by subst a;cases h;exact⟨rfl,.nil⟩
 | y::ys,_,ds,a,h=>by
  subst a
  cases h with
  | @cons _ f _ ds h1 h2=>
   obtain⟨d,c⟩:=lm (k:=k) rfl h2;unfold iS mO at *;by_cases e:y.1=k
   ·have b:decide (y.1≠k)=false:=decide_eq_false λz=>z e;simp only[List.map_cons,List.zip_cons_cons,List.filter_cons,b,if_neg Bool.false_ne_true];exact⟨d,c⟩
   ·have b:decide (y.1≠k)=true:=decide_eq_true e;simp only[List.map_cons,List.zip_cons_cons,List.filter_cons,b,if_pos];exact⟨by rw[d],.cons h1 c⟩
theorem D3(z:μ[j]?=some i)(y:EF K μ ty fk):EF K μ (nL (dD j) ty) (D0 i fk):=⟨by
 intro F Z H O σ ρ A Q P m R h q;obtain⟨B,h⟩:=h;obtain⟨⟨x,M⟩,J⟩:=abR.mp B;obtain⟨a,g,h1,h2,_,_,_⟩:=R.mutD J;refine⟨.ref a,(m j i z).1.trans h1,a,rfl,.inl ⟨g,.inl h2⟩,?_⟩;refine y.h m R h λr o v U H1 X V w s n v1 f1=>?_;obtain⟨S,D,b⟩:=bW w;split at b
 ·rename_i k ks ds G I;split at b
  ·rename_i d E;obtain⟨T,ys,f,l,c,e,mt⟩:=n.mutD I;rw[h1] at f;cases f;obtain⟨p,C,L⟩:=j1 c e E;obtain⟨u,t⟩:=lm (k:=k) c e;obtain⟨W,N⟩:=mt (iS ys k) _ _ u t;exact⟨ys,k,p,l,dW (n.acc v1 D) G,C,q _ _ _ _ _ _ _ b s N (.fz L) Fresh.nil⟩
  ·exact b.elim
 ·exact b.elim⟩
theorem xT(h:j<n)(a:EF K (List.range n) ty fk):EF K (List.range n) (nL (dD j) ty) (D0 j fk):=D3 (by simp[h]) a
def tF:D->Bool
 |.non=>true
 |_=>false
theorem Acc.isNon{v:V}{d:D}(h:Acc K F H v d):decide (v=.non)=tF d:=by
 cases h with
 |fz h=>cases h <;> first|rfl|exact decide_eq_false (λz=>nomatch z)
 |lst=>exact decide_eq_false (λz=>nomatch z)
 |dct=>exact decide_eq_false (λz=>nomatch z)
 |dt=>exact decide_eq_false (λz=>nomatch z)
def tG:D->D->(OV->Prop)->Prop
 |d,.non,P=>P (.fz (.bl (tF d)))
 |_,_,_=>False
def qi:D->D->(OV->Prop)->Prop
 |d,.non,P=>P (.fz (.bl (!tF d)))
 |_,_,_=>False
theorem D4:OpF K MX tG:=⟨by
 intro F H x y d e Q P s b a f n;unfold tG at f;split at f
 ·exact⟨a.non_eq,by rw[b.isNon];exact aw s n (.bl _) f⟩
 ·exact f.elim⟩
theorem xU:OpF K HQ qi:=⟨by
 intro F H x y d e Q P s b a f n;unfold qi at f;split at f
 ·exact⟨a.non_eq,by rw[b.isNon];exact aw s n (.bl _) f⟩
 ·exact f.elim⟩
end
section
variable {K:Frag} 
end
section
variable {K:Frag} 
end
section
variable {K:Frag} 
end
section
variable {K:Frag}
@[irreducible] def cMinD:List D->(OV->Prop)->Prop
 |[.dct ks _],P=>∃zs:List Str,ks=zs.map Sum.inr/\zs≠[]/\∀z∈zs,P (.fz (.str z))
 |_,_=>False
end
def tH(K:Frag):List V->Hp->VK->Prop:=λxs H Q=>∃p kvs,xs=[.ref p]/\Rd H p (.dK kvs)/\∀l,H l=none->Q (.ref l) (upd H l (.dK kvs))
theorem qj:CallR X (.type "dict") (tH X.K):=by
 intro pins s σ H xs us Q I r h;obtain⟨p,kvs,rfl,b,q⟩:=h;obtain⟨u,rfl,a⟩:=fE r;cases a;exact wQ I b λl s' hl c=>⟨.ref l,_,c,rfl,q l hl⟩
theorem xV(K:Frag)(h:X.K=K):BCall X (.type "dict") (tH K):=by subst h;exact⟨qj⟩
section
variable {K:Frag}
def D5:List D->(OV->Prop)->Prop
 |[.dct ks ds],P=>P (.fd ks ds)
 |_,_=>False
theorem D6:CallF K (tH K) D5:=⟨by
 intro F H xs ds Q P s d f n;unfold D5 at f;split at f
 ·rename_i ks g;obtain⟨x,rfl,c⟩:=cu d;obtain⟨a,ys,rfl,h1,h2,e⟩:=c.asD s;exact⟨a,ys,rfl,h1,λq b=>n _ (.ref q) F _ [q] f (Pure.new s b) (.fd af h2 e) (New.one b (s.free b))⟩
 ·exact f.elim⟩
end
section
variable  {pins:List (Addr×Obj)} {σ:St}  {s:Shared} 
theorem Inv.frozen(I:Inv X pins σ H s)(e:H a=some (.dK kvs))(ho:s.heap.get? a=some o):Inv X pins σ (upd H a (.frz o (.dK kvs))) s:=by
 have st:∀{b u},ObjOk X.prog X.w H s.heap b u->ObjOk X.prog X.w (upd H a (.frz o (.dK kvs))) s.heap b u:=λx=>x.stay (λ_ _ _ q=>q) (λc q=>by
  rw[ai λz=>by rw[z,e] at q;cases q];exact q) λc xs q=>by
  rw[ai λz=>by rw[z,e] at q;cases q];exact q
 exact I.un (h':=s.heap) (t':=s.toks) (H':=upd H a (.frz o (.dK kvs))) ⟨λb ob q _ _ _=>q,λb ob q _ _ _=>⟨ob.slots,q⟩,λb ob q n _=>by rw[ai λz=>by rw[z,e] at n;cases n];exact n,λb ob q _=>⟨ob,q⟩,
  λb xs q=>by rw[ai λz=>by rw[z,e] at q;cases q];exact q,λb ob u q=>by rw[ai λz=>by rw[z,e] at q;cases q];exact q,λb ps q=>⟨#[],by rw[ai (λz=>by rw[z,e] at q;cases q),q];simp⟩⟩ (λb u q=>by
  by_cases d:b=a
  ·subst d;rw[af] at q;cases q;exact⟨ho,st (I.hok b _ e)⟩
  ·rw[ai d] at q;exact st (I.hok b u q))
theorem Inv.thaw(I:Inv X pins σ H s)(e:H a=some (.frz o (.dK kvs)))(j:∀o' g,X.H₀ a≠some (.frz o' g)):Inv X pins σ (upd H a (.dK kvs)) s:=by
 have d:∀b,H b=none->upd H a (.dK kvs) b=none:=λb h=>by rw[ai λz=>by rw[z,e] at h;cases h];exact h
 have st:∀{b u},ObjOk X.prog X.w H s.heap b u->ObjOk X.prog X.w (upd H a (.dK kvs)) s.heap b u:=λx=>x.stay (λ_ _ _ q=>q) (λc q=>by
  rw[ai λz=>by rw[z,e] at q;cases q];exact q) λc xs q=>by
  rw[ai λz=>by rw[z,e] at q;cases q];exact q
 refine⟨I.ok,I.os,I.bare,⟨I.base.keep,I.base.slot,λb ob q n i=>d b (I.base.free b ob q n i),I.base.there,λb xs q=>?_,λb ob u q=>?_,λb ps q=>?_⟩,I.loc,I.cell,d _ I.free,λx c q=>d c (I.freeC x c q),λp hp=>?_,λb u q=>?_,I.len⟩
 ·have h:=I.base.tups b xs q;rw[ai λz=>by rw[z,e] at h;cases h];exact h
 ·have h:=I.base.frzs b ob u q;rw[ai (λz=>j ob u (by rw[← z];exact q))];exact h
 ·obtain⟨m,h⟩:=I.base.tbls b ps q;exact⟨m,by rw[ai λz=>by rw[z,e] at h;cases h];exact h⟩
 ·obtain⟨h1,h2,k⟩:=I.pin p hp;exact⟨h1,d _ h2,k⟩
 ·by_cases f:b=a
  ·subst f;rw[af] at q;cases q;exact st (I.hok b _ e).2
  ·rw[ai f] at q;exact st (I.hok b u q)
def Go(kv:Key×V):V:=kV kv.1
def Itd(c:Key×V->V)(a:Addr)(o:Obj)(kvs:List (Key×V)):It:=
 ⟨λi H=>H a=some (.frz o (.dK kvs))/\i<kvs.length,λi H x H'=>H'=H/\∃b,kvs[i]?=some b/\x=c b,λi H=>H a=some (.frz o (.dK kvs))/\i=kvs.length⟩
theorem Md{vs:List (Key×Value)}(r:KV kvs vs):∀{i:Nat} {kv:Key×V},kvs[i]?=some kv->∃x,vs[i]?=some (kv.1,x):=by
 induction r with
 |nil=>intro i kv h;simp at h
 | @cons p q ps c h t a=>
  intro i kv e
  cases i with
  |zero=>simp at e;subst e;exact ⟨q.2,by simp [h.1]⟩
  |succ i=>obtain ⟨x,b⟩:=a (i:=i) (kv:=kv) (by exists e);exact ⟨x,(by exists b)⟩
theorem tI{es:Array DictEntry}(I:Inv X pins σ H s)(hd:o.data=.dict es ep)(e:H a=some (.frz o (.dK kvs))):∃vs,KV kvs vs/\kvs.length=vs.length/\s.heap.DictAt (ax X.prog X.w) a vs ep:=by
 obtain⟨ho,i,j,vs,b,o',f,g,h1,h2,c,d⟩:=(show ObjOk X.prog X.w H s.heap a (.frz o (.dK kvs)) from I.hok a _ e);rw[ho] at h1;cases h1;rw[hd] at c;cases c;exact⟨vs,b,aa2 b,o,es,ho,h2,hd,d⟩
theorem tJ{P:Program}{w:World}{K:Frag}{it:Addr}{es:Array DictEntry}(hd:o.data=.dict es ep):Turn P w K tg (Itd Go a o kvs) [it] it (λi h=>h.IsKeyIter it a i kvs.length ep) where
 mem:=by simp
 obj:=λi h st b hb=>by
  have e:b=it:=(by exists hb);subst e;obtain⟨o,e,c,d⟩:=st;exact⟨o,e,λv z=>by rw[d] at z;cases z⟩
 keep:=λi h h' st k=>st.at λo e=>k it (by simp) o e
 item:=by
  intro X hP hw hK hc i pins s σ H E I hf st hg;subst hP hw hK;obtain⟨e,hlt⟩:=hg;obtain⟨vs,rv,hl,hat⟩:=tI I hd e;obtain⟨x,hx⟩:=Md rv (List.getElem?_eq_getElem hlt);obtain⟨f0,f1,f2,f3,f4,f5⟩:=hf it (by simp);have st0:s.heap.IsKeyIter it a i vs.length ep:=hl ▸ st;refine wpAny_pyNext_dict_item (knd:=ax X.prog X.w) st0 hat hx λkey h' hkey st' sb=>?_;have I1:Inv X pins σ H { s with heap:=h' }:=I.turned (t':=s.toks) (λb o hb e=>(sb.2 b hb).trans e) f0 f1 f3 f4 f5;rw[← hl] at st';obtain⟨o2,e2,c2,d2⟩:=id st';refine⟨key,rfl,jK (s:={ s with heap:=h' }) e2 c2 d2 (by decide) ⟨kV kvs[i].1,H,I1,?_,⟨rfl,_,List.getElem?_eq_getElem hlt,rfl⟩,st',λb hb=>(hf b hb).1⟩⟩;rcases aP (show jJ kvs[i].1 key=true from hkey) with ⟨j,t,q1,q2⟩|⟨z,t,q1,q2⟩
  ·rw[q1,q2];exact⟨t,rfl⟩
  ·rw[q1,q2];exact⟨t,rfl⟩
 done:=by
  intro X hP hw hK hc i pins s σ H E I hf st hg;subst hP hw hK;obtain⟨e,hlt⟩:=hg;obtain⟨vs,rv,hl,hat⟩:=tI I hd e;obtain⟨f0,f1,f2,f3,f4,f5⟩:=hf it (by simp);have st0:s.heap.IsKeyIter it a i vs.length ep:=hl ▸ st;exact wpAny_pyNext_dict_end (knd:=ax X.prog X.w) (I.ok.hd hc) st0 hat (by simp;nofun) λh' eb=>⟨rfl,I.turned (t':=s.toks) (λb o hb e=>eb b o hb e) f0 f1 f3 f4 f5⟩
 self:=λ_ _ _ _ _ st h=>wpAny_pyIter_keyiter st h
def tK(b:Key×V->V)(tl:TE):TI:=λσ H R=>tl σ H λx H1=>∃a kvs,x=.ref a/\H1 a=some (.dK kvs)/\∀o,R (Itd b a o kvs) (upd H1 a (.frz o (.dK kvs)))
theorem D7(hl:PE X l tl):PI X tg l (tK Go tl):=by
 intro pins s σ H R I h;refine thn (hl pins s σ H _ I h) λv c v=>?_;obtain⟨x,H1,d,m,n⟩:=v;obtain⟨a,kvs,e,f,q⟩:=n;subst e;cases m;obtain⟨y,r,vs,k,o,es,ep,h1,h2,j,t⟩:=(show ObjOk X.prog X.w H1 c.heap a (.dK kvs) from d.hok a _ f);have g:kvs.length=vs.length:=aa2 k;refine wpAny_pyIter_dict (knd:=ax X.prog X.w) r ⟨o,es,h1,h2,j,t⟩ ?_;have w:=d.kept (t':=c.toks) (h':=c.heap.push { cls:=.type "dict_keyiterator", data:=.fields #[.ref a,.int 0 0,.int vs.length 0,.int ep 0] }) λb o e=>Heap.get?_push_of_some _ e;have u:=w.frozen f (Heap.get?_push_of_some _ h1);refine⟨c.heap.objs.size,[c.heap.objs.size],_,_,_,rfl,u,tJ j,⟨_,Heap.get?_push_size _ rfl,rfl,by rw[g];rfl⟩,λb p=>?_,q o⟩;have e:b=c.heap.objs.size:=(by exists p);subst e;have i:=d.hok.fresh (aac c.heap.objs.size);exact d.fpOk (aac _) (by rw[ai λz=>by rw[z,f] at i;cases i];exact i)
theorem D8(hl:BE X l tl):BI X tg l (tK Go tl):=⟨D7 hl.h⟩
def xW(t:TE):TE:=λσ H Q=>t σ H λv H'=>∃a o kvs,H a=some (.dK kvs)/\H' a=some (.frz o (.dK kvs))/\Q v (upd H' a (.dK kvs))
theorem Inv.nofrz(I:Inv X pins σ H s)(e:H a=some (.dK kvs)):∀o' b,X.H₀ a≠some (.frz o' b):=λo' b z=>by
 have:=I.base.frzs a o' b z;rw[e] at this;cases this
theorem D9{t:TE}(h:BS X st (qU t (fU i))):BS X st (qU (xW t) (fU i)):=⟨by
 intro pins s σ H D I q;refine thn (h.h pins s σ H { D with nx:=λb H'=>∃a o kvs,H a=some (.dK kvs)/\H' a=some (.frz o (.dK kvs))/\D.nx b (upd H' a (.dK kvs)) } I q) λf k c=>?_
 cases f with
 | next=>
  obtain⟨b,H',j,a,o,kvs,g,e,d⟩:=c;exact⟨b,_,j.thaw e (I.nofrz g),d⟩
 |brk=>exact c
 |cont=>exact c
 |ret u=>exact c⟩
end
def fzo:Option OV->Option OV
 |some (.fz d)=>some (.fz d)
 |_=>none
def tL(a:List Key->List D->List D)(no i:Nat)(fg:FG)(ft:FT)(fe:FE):FE:=λρ Q=>match unD ρ i with
 |some (ks,ds)=>k6 (List.replicate no none++(ρ.map fzo).set i (some (.fz (.dct ks ds)))) (dU fg ft fe (λas _=>(∃zs:List Str,as=zs.map .str)/\Q (.ov (.fl as)) ρ) (a ks ds) [])
 |none=>False
def Me:List Key->List D->List D:=λks _=>ks.map xL
def AT(no i:Nat)(fg:FG)(ft:FT)(fe:FE):FE:=tL Me no i fg ft fe
section
variable {K:Frag} 
theorem Slots.fzo{F H:Hp}:∀{σ:St} {ρ:FSt} {A:List Addr},Slots K F H σ ρ A->Slots K F H σ (ρ.map fzo) []
 |_,_,_,.nil=>.nil
 |_,_,_,.skip t=>.skip (Slots.fzo t)
 | _,_,_,.has (o:=o) h t=>by
  cases h with
  |fz d=>exact .has (A:=[]) (B:=[]) (.fz d) (Slots.fzo t)
  |_=>exact .skip (Slots.fzo t)
theorem Ea(k:Key):Den K F (kV k) (xL k):=by
 cases k with
 |inl i=>exact .int i
 |inr z=>exact .str z
def Jb(K:Frag)(c:Key×V->V)(a:List Key->List D->List D):Prop:=∀(F:Hp) (ys:List (Key×V)) ks ds,ys.map (·.1)=ks->Dens K F (ys.map (·.2)) ds->(a ks ds).length=ys.length/\∀(i:Nat) b,ys[i]?=some b->∃e,(a ks ds)[i]?=some e/\Den K F (c b) e
theorem Eb:Jb K Go Me:=λF ys ks ds h1 h2=>⟨by show (ks.map xL).length=_;rw[← h1,abz,abz],λi a e=>⟨xL a.1,by show (ks.map xL)[i]?=_;rw[← h1,aau,List.getElem?_map,e];rfl,Ea a.1⟩⟩
theorem xX{pk:Key×V->V}{n:List Key->List D->List D}(hs:Jb K pk n){no:Nat}{N j0:Nat}(hj0:μ[j0]?=some N)(hix:∀j∈ixs,j<μ.length)(hg:GF K (muC no ixs μ) T g fg)(hT:∀i∈T,i<no)
  (hc:TF K (muC no ixs μ) tc fc) (he:EF K (muC no ixs μ) te fe):EF K μ (xW (gy no ixs (tK pk (dD j0)) g tc te)) (tL n no N fg fc fe):=⟨by
 intro F Z H τ σ ρ A Q P vw R h q;unfold tL at h;split at h
 case h_2=>exact h.elim
 rename_i ks ds e0;obtain⟨a,ys,g1,g2,g3,g4,_⟩:=R.mutD e0
 have ha0:a∈A:=by
  have e:=lb e0;obtain⟨v,B,A',h1,h2,h3,h4⟩:=R.sl.take e;rw[g1] at h1;cases h1
  cases h2 with
  |fd=>exact h3.mem_iff.mpr (by simp)
 obtain⟨hF0,hZ0⟩:=R.fr a ha0;refine⟨.ref a,(vw j0 N hj0).1.trans g1,a,ys,rfl,g2,λo D hD=>?_⟩;rw[eJ] at h;have I:D≠a:=λz=>by rw[z,af] at hD;cases hD
 have t:H D=none:=by rw[ai I] at hD;exact hD
 -- what is one's own is held
 obtain⟨C,S,d⟩:=mix (A.filter λb=>decide (b≠a)) H Z;have inB:∀b,b∈A->b≠a->b∈A.filter λb=>decide (b≠a):=λb h1 h2=>abM.mpr ⟨h1,decide_eq_true h2⟩;have p:∀b,b∈(A.filter λb=>decide (b≠a))->b∈A/\b≠a:=λb c=>⟨(abM.mp c).1,of_decide_eq_true (abM.mp c).2⟩
 have sz:Same Z C:=λb u z=>by
  rw[d b λy=>by rw[(R.fr b (p b y).1).2] at z;cases z];exact z
 have zA:C a=none:=by rw[d a λy=>(p a y).2 rfl];exact hZ0
 have zD:C D=none:=by
  rw[d D λy=>by
   obtain⟨u,hu⟩:=R.sl.live D (p D y).1;rw[t] at hu;cases hu]
  exact R.zh.free t
 have W:F D=none:=R.fh.free t
 let m:Hp:=upd F a (.frz o (.dK ys))
 let H1:Hp:=upd (upd H a (.frz o (.dK ys))) D (.lst [])
 have sF:Same F m:=λb u z=>by rw[show m b=F b from ai λy=>by rw[y,hF0] at z;cases z];exact z
 have fh1:Same m H1:=λb u z=>by
  have bD:b≠D:=λy=>by rw[y,show m D=F D from ai I,W] at z;cases z
  rw[show H1 b=upd H a (.frz o (.dK ys)) b from ai bD];by_cases c:b=a
  ·subst c;rw[af];rw[show m b=some (.frz o (.dK ys)) from af] at z;exact z
  ·rw[ai c];rw[show m b=F b from ai c] at z;exact R.fh b u z
 have zh1:SameN C H1:=⟨λb u z=>by
  have bD:b≠D:=λy=>by rw[y,zD] at z;cases z
  have ba:b≠a:=λy=>by rw[y,zA] at z;cases z
  rw[show H1 b=upd H a (.frz o (.dK ys)) b from ai bD,ai ba];by_cases c:b∈A.filter λb=>decide (b≠a)
  ·rw[S b c] at z;exact z
  ·rw[d b c] at z;exact R.zh.s b u z,λb xs z=>by
  by_cases c:b∈A.filter λb=>decide (b≠a)
  ·rw[S b c] at z;exact R.sl.nt b (p b c).1 xs z
  ·rw[d b c] at z;exact R.zh.n b xs z⟩
 have dj1:∀b u,m b=some u->C b=none:=λb u z=>by
  by_cases c:b=a
  ·rw[c];exact zA
  ·rw[show m b=F b from ai c] at z;rw[d b λy=>by rw[(R.fr b (p b y).1).1] at z;cases z];exact R.dj b u z
 have sl0:Slots K m H1 σ (ρ.map fzo) []:=(R.sl.fzo).keep sF λ_ _ z=>nomatch z;have hi0:N<ρ.length:=(List.getElem?_eq_some_iff.mp (lb e0)).1;have en:(ρ.map fzo)[N]?=some none:=by rw[List.getElem?_map,lb e0];rfl
 obtain⟨A2,p2,sl2⟩:=sl0.put (i:=N) (B:=[]) en g1 (.fz (.dct (.inr ⟨o,af⟩) g3 (g4.mono sF)));have eA2:A2=[]:=(by exists p2);subst eA2;have R1:Rel K m C H1 (List.replicate no none++σ) (List.replicate no none++(ρ.map fzo).set N (some (.fz (.dct ks ds)))) []:=⟨sl2.none_app no,abQ,λ_ z=>(nomatch z),fh1,zh1,dj1⟩;have fD1:m D=none:=by rw[show m D=F D from ai I];exact W
 have w:∀{F' H' f l A'},Same m F'->Rel K F' C H' f l A'->H' a=some (.frz o (.dK ys)):=λs' J=>J.fh _ _ (s' _ _ af);have hkl:(n ks ds).length=ys.length:=(hs F ys ks ds g3 g4).1
 refine⟨λi k acc E H'=>k=ys.length - i/\i<=ys.length/\∃F' l A' f as,Same m F'/\Rel K F' C H' f l A'/\View (muC no ixs μ) E f/\H' D=some (.lst acc)/\F' D=none/\D∉A'/\Dens K F' acc as /\
   dU fg fc fe (λas _=>(∃zs:List Str,as=zs.map .str)/\P (.ov (.fl as)) ρ) ((n ks ds).drop i) as l,
  ⟨_,rfl,aan _,m,_,[],_,[],Same.refl _,R1,la vw hix,af,fD1,(λz=>nomatch z),.nil,by rw[abg];exact h⟩,?_⟩
 rintro i k acc E H' ⟨rfl,hle,F',l,A',f,as,s',J,vw',s,hFD,hAD,dn,h'⟩;by_cases O:i<ys.length
 ·have L:i<(n ks ds).length:=by rw[hkl];exact O
  rw[aaN L,ia] at h'
  refine .inr ⟨⟨w s' J,O⟩,λacc E H'=>∃F' l A' f as,Same m F'/\Rel K F' C H' f l A'/\View (muC no ixs μ) E f/\H' D=some (.lst acc)/\F' D=none/\D∉A'/\Dens K F' acc as /\
   dU fg fc fe (λas _=>(∃zs:List Str,as=zs.map .str)/\P (.ov (.fl as)) ρ) ((n ks ds).drop (i+1)) as l,λacc' M H2 z=>⟨_,by nofun,rfl,O,z⟩,λx H2 y=>?_⟩
  obtain⟨rfl,kv,hkv,rfl⟩:=y;obtain⟨el,hel,del⟩:=(hs F ys ks ds g3 g4).2 i kv hkv
  have ekey:(n ks ds)[i]=el:=by
   rw[List.getElem?_eq_getElem L] at hel;exact aai hel
  rw[ekey] at h';refine hg.h vw' J (del.mono (sF.trans s')) h' fun τ2 M ρ2 A2 p2 G R2 k2 kl2 _ m2=>?_
  have fD:Fresh F' C A2 [D]:=⟨by simp,λb c=>by
   have:b=D:=(by exists c);subst this;exact⟨hFD,zD,λz=>hAD (m2 _ z)⟩⟩
  obtain⟨Z2,sz2,R2',zl,back⟩:=R2.hold (B:=[D]) (λb c=>by
   have:b=D:=(by exists c);subst this;exact⟨_,s⟩) (.one s (λ_ z=>nomatch z) .nil) fD
  refine hc.h G R2' p2 λb ρ3 F3 H3 A3 Y X R3=>?_
  cases b with
  | false=>
   replace Y:=wb Y;rw[if_neg abF];obtain⟨R3',f3,k3⟩:=back _ _ _ _ X R3;have fa:=f3.fr D (by simp);exact⟨F3,ρ3,A3,M,as,s'.trans X,R3',G,k3 D _ (by simp) s,fa.1,fa.2.2,dn.mono X,Y⟩
  | true=>
   replace Y:=wa Y;rw[if_pos rfl];refine he.h G R3 Y λr ρ4 v F4 H4 A4 B4 p4 s4 R4 v4 f4=>?_;split at p4
   ·rename_i y ρ5 e5;obtain⟨F5,A5,s5,R5,dy,_,_⟩:=R4.frz v4 f4 e5;obtain⟨R5',f5,k5⟩:=back _ _ _ _ ((X.trans s4).trans s5) R5;have fa:=f5.fr D (by simp);refine⟨k5 D _ (by simp) s,by rw[dn.length];exact p4.1,F5,ρ5,A5,M,as++[y],((s'.trans X).trans s4).trans s5,R5'.write fa.2.2 fa.1 zD,G,af,fa.1,fa.2.2,(dn.mono ((X.trans s4).trans s5)).snoc dy,p4.2⟩
   ·exact p4.elim
 ·have e:i=ys.length:=by nofun
  subst e;rw[← hkl,abu,hX] at h';obtain⟨⟨zs,rfl⟩,h'⟩:=h';refine .inl ⟨⟨w s' J,rfl⟩,a,o,ys,g2,w s' J,?_⟩;have ex:=dn.strs_eq;subst ex
  have sl3:Slots K F (upd H' a (.dK ys)) σ ρ A:=R.sl.keep (Same.refl _) λb u c hu=>by
   by_cases U:b=a
   ·subst U;rw[af];rw[g2] at hu;exact hu
   ·rw[ai U];exact J.zh.s b u (by rw[S b (inB b c U)];exact hu)
  have R3:Rel K F Z (upd H' a (.dK ys)) σ ρ A:=⟨sl3,R.nd,R.fr,λb u z=>by
   rw[ai λy=>by rw[y,hF0] at z;cases z];exact J.fh b u (s' b u (sF b u z)),⟨λb u z=>by
   rw[ai λy=>by rw[y,hZ0] at z;cases z];exact J.zh.s b u (sz b u z),R.zh.n⟩,R.dj⟩
  refine q _ _ _ F _ A [D] h' (Same.refl _) R3 (.fl (by rw[ai I];exact s) (Dens.strs zs)) ⟨by simp,λb c=>?_⟩;have:b=D:=(by exists c);subst this
  exact⟨W,R.zh.free t,λz=>by
   obtain⟨u,hu⟩:=R.sl.live b z;rw[t] at hu;cases hu⟩⟩
theorem tM{no:Nat}(h:j<n)(a:∀j∈ixs,j<(List.range n).length)(b:GF K (muC no ixs (List.range n)) T g fg)(d:∀i∈T,i<no)
  (c:TF K (muC no ixs (List.range n)) tc fc) (he:EF K (muC no ixs (List.range n)) te fe):EF K (List.range n) (xW (gy no ixs (tK Go (dD j)) g tc te)) (AT no j fg fc fe):=xX Eb (by simp[h]) a b d c he
end
theorem xY :BS X st rc:=⟨wq⟩
def eh:FS:=λ_ _=>False
theorem xZ{K:Frag}{m:List Nat}:SF K n m rc eh:=⟨λ_ _ _ h=>h.elim⟩
theorem mP{c:FT}{f g:FS}{E:FEnds}{ρ:FSt}(I:FSt->Prop)(rest:∀ρ,I ρ->E.nx ρ)(h:(∀ρ,I ρ->E.nx ρ)->c ρ λb a=>br b (f E a) (g E a)):fIf c f g E ρ:=av (h rest)
section
variable {K:Frag} 
end
end L2
namespace L2
open PySem PySem.Spec PyProof.Rows PyProof.Rows
section
variable {X:Cx} {pins:List (Addr×Obj)} {σ:St} {H:Hp} {s:Shared}
end
section
variable {K:Frag} {n:Nat} {m:List Nat} {G:Hp->Prop}
end
end L2
namespace L2
open PySem PySem.Spec PyProof.Rows
variable{X:Cx}{pins:List (Addr×Obj)}{σ:St}{H:Hp}{s:Shared}
end L2
namespace L2
open PySem PySem.W PySem.Spec PyProof.Rows PySem.Calls PySem.Builtin PySem.Builtin.ObjectAttr PySem.Builtin.Getset_descriptor
section
variable {prog:Program} {w:World} {A:Around} {E:Value->Shared->Prop} {s:Shared} {K:Frag} {a C:Addr} {o:Obj}
end
section
variable {X:Cx}
end
end L2
namespace HT
open PySem PySem.Spec PyProof.Rows
section
variable {prog:Program} {w:World} {A:Around} {E:Value->Shared->Prop} {s:Shared}
theorem getItem_tuple_all{t sl:Addr}{items:Array Value}{vl vu:Value}{lo hi:Option Int}{Q:Value->Shared->Prop}(a:IsTup s.heap t items)(hs:s.heap.IsSliceOf sl vl vu .none)(pl:IsPart vl lo)(e:IsPart vu hi)
  (hw:sIx items.size 0 lo=0/\sIx items.size items.size hi=items.size) (h:Q (.ref t) s):wpAny (model prog w) A (getItem (.ref t) (.ref sl)) Q E s:=by
 obtain⟨os,b,c,f⟩:=id hs;have d:s.TypeIs (.ref sl) "slice" := ⟨os,b,c⟩;unfold getItem
 try with_reducible refine aaW ?_
 first|refine aaa (aaf ?_)|skip
 refine aaa (wpAny_sequenceKey a.typeIs (by decide) ?_)
 refine aaa (wpAny_callSpecial?_slot (name:=Str.ofString "__getitem__") a.typeIs aa0
  (aay aa0 a.typeIs entry_tuple_getitem ?_ (args_tuple_getitem _ _)))
 show wpAny _ _ (Builtin.Tuple.tupleItemsOf (.ref t) >>= _) _ _ s;refine aaa (tupleItemsOf_ a ?_);refine aaa (wpAny_typeOf d ?_);rw[if_pos (by decide)];refine aaa (dE hs pl e ?_);show wpAny _ _ (if (((sIx items.size 0 lo:Nat):Int)==0&&(1:Int)==1&&(sIx items.size items.size hi - sIx items.size 0 lo)==items.size)=true then _ else _) _ _ s;rw[if_pos (by rw[hw.1,hw.2];simp)];refine aaa (m:=Builtin.Tuple.tupleIsExact _) (aaa (wpAny_typeOf a.typeIs (aaf ?_)));rw[if_pos (by decide)]
 first
  |exact aaa (wpAny_rule (aaf ⟨_,rfl,aaf h⟩))
  |exact aaa (wpAny_rule (aaa (aaf (aaf ⟨_,rfl,aaf h⟩))))
  |exact aaa (aaa (wpAny_rule (aaf (aaf ⟨_,rfl,aaf h⟩))))
  |exact aaa (aaa (wpAny_rule (aaf ⟨_,rfl,aaf h⟩)))
end
end HT
namespace L2
open PySem PySem.Spec PyProof.Rows
variable{X:Cx}
def Jc(K:Frag):V->Option Int->Option Int->Hp->VK->Prop:=λx lo hi H Q=>∃a xs,x=.ref a/\SqT K H a xs/\HT.sIx xs.length 0 lo=0/\HT.sIx xs.length xs.length hi=xs.length/\Q (.ref a) H
theorem Ec:SlR X (Jc X.K):=by
 intro pins s σ H x v vl vu lo hi sl Q I f hs pl g h;obtain⟨a,xs,rfl,i,e,d,q⟩:=h;cases f;obtain⟨its,r,c,j⟩:=I.tuple i;have b:its.toArray.size=xs.length:=by rw[abK];exact r.length.symm
 refine⟨"tuple", _,PyProof.Rows.slot_tuple_getitem.lookup,c.typeIs,?_⟩;exact HT.getItem_tuple_all c hs pl g (by rw[b];exact⟨e,d⟩) ⟨.ref a,H,I,rfl,q⟩
def M5(K:Frag):V->Option Int->Option Int->Hp->VK->Prop:=λx lo hi H Q=>Hj K x lo hi H Q∨Jc K x lo hi H Q
theorem tN{a:Expr}{lo hi:Option Expr}{ta:TE}{tl th:TO}{pos b:Pos}(K:Frag)(c:BE X a ta)(hl:BO X lo tl)(hh:BO X hi th)(d:X.K=K):BE X (.Subscript a (.Slice lo hi none b) pos) (tSl (M5 K) ta tl th):=by
 subst d;exact⟨nG (AG.or Ec) c.h hl.h hh.h⟩
section
variable {K:Frag} {μ:List Nat}
theorem tO{α:Type}{xs:List α}{lo hi:Option Int}(h1:HT.sIx xs.length 0 lo=0)(h2:HT.sIx xs.length xs.length hi=xs.length):eQ xs lo hi=xs:=by
 unfold eQ;rw[h1,h2];simp
def Mf:D->Option Int->Option Int->(OV->Prop)->Prop
 |.str z,lo,hi,P=>z.length<=sizeLine/\P (.fz (.str (c9 z lo hi)))
 |.lst ds,lo,hi,P=>P (.fl (eQ ds lo hi))
 |.tup ds,lo,hi,P=>P (.fz (.tup (eQ ds lo hi)))
 |_,_,_,_=>False
theorem Mg:SlF K (M5 K) Mf:=⟨by
 intro F H x d lo hi Q P s b f n;unfold Mf at f;split at f
 ·exact .inl (j2.h s b (by unfold aSl;exact f) n)
 ·exact .inl (j2.h s b (by unfold aSl;exact f) n)
 ·rename_i ds;by_cases hw:HT.sIx ds.length 0 lo=0/\HT.sIx ds.length ds.length hi=ds.length
  ·have e:=tO hw.1 hw.2;rw[e] at f;have c:=b;obtain⟨a,xs,rfl,h1,h2⟩:=b.asT s;refine .inr ⟨a,xs,rfl,h1,by rw[h2.length];exact hw.1,by rw[h2.length];exact hw.2,?_⟩
   cases c with
   |fz hd=>exact aw s n hd f
  ·exact .inl (j2.h s b (by unfold aSl;exact⟨hw,f⟩) n)
 ·exact f.elim⟩
end
mutual
def depD:D->Nat
 |.lst xs=>depDs xs+1
 |.tup xs=>depDs xs+1
 |_=>0
def depDs:List D->Nat
 |[]=>0
 |d::ds=>max (depD d) (depDs ds)
end
mutual
def okS:D->Bool
 |.lst xs=>okSs xs
 |.tup xs=>okSs xs
 |.dct _ _=>false
 |.ty _=>false
 |.gt _=>false
 |.dt _ _=>false
 |_=>true
def okSs:List D->Bool
 |[]=>true
 |d::ds=>okS d&&okSs ds
end
section
variable  {pins:List (Addr×Obj)} {σ:St} {H:Hp} {s:Shared}
end
section
variable {K:Frag}
end
end L2
namespace L2
open PySem PySem.Spec PyProof.Rows
open PySem.Builtin PySem.Builtin.Str
section
variable {X:Cx}
end
section
variable {K:Frag} {μ:List Nat}
end
end L2
namespace L2
open PySem PySem.Builtin PySem.Builtin.Str PySem.StrLaws
theorem gG(z:Str):z.length=z.cps.toList.length:=by simp[Str.length]
theorem mQ{a b:Str}(h:a.cps.toList=b.cps.toList):a=b:=Str.ext' (Array.toList_inj.mp h)
end L2
namespace L2
open PySem PySem.Spec PyProof.Rows PySem.W
section
variable {n:Nat} {lt:Nat->Nat->Bool}
end
section
variable {prog:Program} {w:World} {A:Around} {s:Shared} {C:Bool->Shared->Prop} {bb fn:Bool}
end
section
variable {X:Cx}
end
section
variable {K:Frag}
end
end L2
namespace L2
open PySem PySem.Spec PyProof.Rows
open PySem.Builtin PySem.Builtin.Str
def dG(z:Str)(n:Int):Str:=⟨(List.replicate n.toNat z.cps).foldl (·++·) #[]⟩
theorem qk(a:Array Nat)(n:Nat)(acc:Array Nat):((List.replicate n a).foldl (·++·) acc).toList=acc.toList++(List.replicate n a.toList).flatten:=by
 induction n generalizing acc with
 |zero=>simp
 |succ n b=>rw[List.replicate_succ,List.foldl_cons,b,Array.toList_append,List.replicate_succ,List.flatten_cons,aap]
theorem eZ(z:Str)(n:Int):(dG z n).cps.toList=(List.replicate n.toNat z.cps.toList).flatten:=(qk _ _ _).trans (List.nil_append _)
theorem ql(z:Str)(n:Int):(dG z n).length=z.length*n.toNat:=by
 have h:=congrArg List.length (eZ z n);rw[List.length_flatten,List.map_replicate,List.sum_replicate_nat] at h;exact h.trans (Nat.mul_comm _ _)
def Jd:R2:=λx y H Q=>∃(z:Str) (n:Int),x=.str z/\y=.int n/\1<n/\0<z.length/\z.length*n.toNat<=16777216/\Q (.str (dG z n)) H
section
variable {X:Cx}
theorem x2:OpR X (binaryOp .Mult) Jd:=by
 intro pins s σ H x y v u Q I f e h;obtain⟨z,n,rfl,rfl,h1,g,hl,q⟩:=h;obtain⟨t,rfl⟩:=f;obtain⟨t',rfl⟩:=e;have k:n.toNat<=16777216:=aas (Nat.le_mul_of_pos_left _ g) hl;have j:z.length<=16777216:=aas (Nat.le_mul_of_pos_right _ (by nofun)) hl
 have i:(n==1 || z.length==0)=false:=by
  rw[Bool.or_eq_false_iff,beq_eq_false_iff_ne,beq_eq_false_iff_ne];exact⟨by nofun,by nofun⟩
 refine PySem.P.mul_str (by rw[Bool.or_eq_false_iff,decide_eq_false_iff_not,decide_eq_false_iff_not];exact⟨by nofun,by nofun⟩) (λ_ _ d=>?_) (λ_ _=>?_) ?_
 ·have:((z.length*n.toNat:Nat):Int)=z.length*n:=by rw[Int.natCast_mul,Int.toNat_of_nonneg (by nofun)]
  have h2:(z.length:Int)*n<=2 ^ 63 - 1:=by nofun
  have:=Int.lt_iff_add_one_le.mp d;have l:=(Int.le_ediv_iff_mul_le (c:=n) (a:=(z.length:Int)) (b:=2 ^ 63 - 1) (by nofun)).mpr h2;nofun
 ·have:=sizeLine_eq;unfold tooLong;simp;nofun
 ·rw[if_neg (by nofun),if_neg (by rw[i];decide)];refine⟨?_,.str _,H,I.tok _,⟨_,rfl⟩,q⟩;exact(ql z n).symm ▸ (by have:=sizeLine_eq;nofun)
end
section
variable {K:Frag} {μ:List Nat}
end
end L2
namespace L2
open PySem PySem.Spec PyProof.Rows
variable{X:Cx}{μ:List Nat}{A:Around}{E:Value->Shared->Prop}{s:Shared}
section
variable {K:Frag} 
end
section
variable {M:Model}   
end
section
variable {prog:Program} {w:World}   {R:Result->Shared->Prop} 
end
section
variable  {pins:List (Addr×Obj)} {σ:St} {H:Hp}  {T F:List Str} {ixs:List Nat} {scope:Scope} {fp:List Addr}
end
section
variable {K:Frag}  {G:Hp->Prop}
end
end L2
namespace L2
open PySem PySem.W PySem.Spec PyProof.Rows
variable{X:Cx}
end L2
namespace L2
open PySem PySem.Spec PyProof.Rows
section
variable {X:Cx}
end
section
variable {K:Frag} {μ:List Nat}
end
end L2
namespace L2
open PySem PySem.Spec PyProof.Rows
open PySem.Builtin PySem.Builtin.Str PySem.StrLaws
def Ed:R2:=λx y H Q=>∃(z:Str) (n:Int),x=.str z/\y=.int n/\1<=n/\0<z.length/\z.length*n.toNat<=16777216/\Q (.str (dG z n)) H
theorem qm(z:Str):dG z 1=z:=by
 apply mQ;rw[eZ];simp
section
variable {X:Cx}
theorem ju:BOp X (binaryOp .Mult) Ed:=⟨by
 intro pins s σ H x y v u Q I b a h;obtain⟨z,n,rfl,rfl,h1,d,hl,q⟩:=h;by_cases c:n=1
 ·subst c;rw[qm] at q;obtain⟨t,rfl⟩:=b;obtain⟨t',rfl⟩:=a;refine PySem.P.mul_str (by decide) (λ_ h=>absurd h (by simp)) (λ_ h=>absurd h (by simp)) ?_;rw[if_neg (by decide),if_pos (by simp)];exact⟨.str z,H,I,⟨_,rfl⟩,q⟩
 ·exact x2 pins s σ H _ _ v u Q I b a ⟨z,n,rfl,rfl,by nofun,d,hl,q⟩⟩
end
section
variable {K:Frag} {μ:List Nat}
end
end L2
namespace L2
open PySem PySem.Spec PyProof.Rows
variable{μ ixs T m:List Nat}{n i j c k ix:Nat}{te tv td ty tk tl:TE}{fe fk fv:FE}{t:TA}{fa:FA}{wi:TI}{g:TG}{fg:FG}{tc:TT}{fc:FT}{ds:List D}{os:List OV}{X:Cx}{tg e l:Expr}{pos p:Pos}{y v:V}{x f q mn:Str}{es:List Expr}{st:Stmt}{oc doc pm cdv ct:Value}{od an:Option Addr}{osl:Array (Option Value)}{Z F F' H H':Hp}{fd:FuncData}{ps:List FV}{σ:St}{ρ:FSt}{A B:List Addr}{a C:Addr}{o:Obj}{vs xs:List V}{α K:Type}{d:D}{cc:Ct}{prog:Program}{w:World}{E:Value->Shared->Prop}{s:Shared}{Q:Option Value->Shared->Prop}{ks:List (List Key)}{trs:List (TE×TE)}
def dm(fa:FE):FT:=au fa
def bI(_:List Nat)(no:Nat)(fi:FI)(fg:FG)(ft:FT)(fe:FE):FE:=IB no fi fg ft fe
def tP(_:List Nat)(no i:Nat)(fg:FG)(ft:FT)(fe:FE):FE:=AT no i fg ft fe
section
variable {K:Frag}  {no:Nat}  
theorem tf_B(a:EF K μ te fe):TF K μ (tB te) (dm fe):=⟨(sP a).h⟩
theorem ya{c:Ct}(a:AF K μ t fa):EF K μ (pK (spM K c) [] E0 t) (ag c fa):=mJ a
theorem Mh(h:μ[μ.idxOf i]?=some i):EF K μ (dD (μ.idxOf i)) (ab i):=sO h
theorem gf_c(h:decide (i<no)=true)(a:(muC no ixs μ).Nodup):GF K (muC no ixs μ) [i] (fU i) (ac i):=sQ (by
 unfold muC;rw[List.getElem?_append_left (by rw[abX];exact of_decide_eq_true h)];simp[of_decide_eq_true h]) a
theorem Mi{fi:FI}(hi:ITF K μ wi fi)(b:GF K (muC no ixs μ) T g fg)(d:∀i∈T,i<no)(a:∀j∈ixs,j<μ.length)
  (c:TF K (muC no ixs μ) tc fc) (he:EF K (muC no ixs μ) te fe):EF K μ (gy no ixs wi g tc te) (bI ixs no fi fg fc fe):=DC hi a b d c he
theorem Mj(h:j<n)(b:GF K (muC no ixs (List.range n)) T g fg)(d:∀i∈T,i<no)(a:∀j∈ixs,j<(List.range n).length)
  (c:TF K (muC no ixs (List.range n)) tc fc) (he:EF K (muC no ixs (List.range n)) te fe):EF K (List.range n) (xW (gy no ixs (tK Go (dD j)) g tc te)) (tP ixs no j fg fc fe):=tM h a b d c he
end
def Ee:List D->List Str
 |.str z::ds=>z::Ee ds
 |_=>[]
theorem Ml{K:Frag}(h:(Ee ds).map D.str=ds):EF K μ (tGU K ((Ee ds).map V.str)) (fC (.gt ds)):=L7 λ_=>by
 conv=>arg 4;rw[← h]
 exact Dens.strs _
def KZ(m:List Nat):Nat->List OV->Bool
 |_,[]=>true
 |i,o::os=>(m.contains i || sV o)&&KZ m (i+1) os
theorem tQ{m:List Nat}:∀{os:List OV} {i:Nat},KZ m i os=true->∀j o,os[j]?=some o->i+j∉m->sV o=true
 |[],_,_,_,_,e,_=>nomatch e
 | a::os,i,h,j,o,e,n=>by
  rw[KZ,abP,Bool.or_eq_true] at h
  cases j with
  | zero=>
   cases e;exact h.1.elim (λz=>absurd (List.contains_iff_mem.mp z) n) id
  |succ j=>exact tQ h.2 j o e (by rw [ab2];exact n)
theorem lo_of(h1:os.length=n)(h2:KZ m 0 os=true):os.length=n/\∀j o,os[j]?=some o->j∉m->sV o=true:=⟨h1,λj o e a=>tQ h2 j o e (by rw[aba];exact a)⟩
def tgN:Expr->List Str
 |.Name x _=>[x]
 | .Tuple es _ _=>es.filterMap λe=>match e with
  |.Name x _=>some x
  |_=>none
 |_=>[]
def fvN(X:Cx)(ixs:List Nat):List Str:=ixs.map λi=>X.N.getD i ""
theorem Mm{l:List Str}(h:decide l.Nodup=true):l.Nodup:=of_decide_eq_true h
section
variable   {no:Nat} {scope:Scope} {elt iter:Expr} {ifs:List Expr}     
theorem Mn(d:(tgN tg).length=no)(c:X.calm=true)(S:CompScope X (tgN tg) (fvN X ixs) ixs scope)(hi:BI X tg iter wi)
  (b:∀C s H fp,BG (bt X (tgN tg++fvN X ixs) scope (aB X.env scope.names []) C s H fp) tg g) (a:∀C s H fp,BIf (bt X (tgN tg++fvN X ixs) scope (aB X.env scope.names []) C s H fp) ifs tc) (he:∀C s H fp,BE (bt X (tgN tg++fvN X ixs) scope (aB X.env scope.names []) C s H fp) elt te)
  (hs:∀x,foldedSetIterable iter X.env x=pure x):BE X (.ListComp elt [⟨tg,iter,ifs,0⟩] scope pos) (gy no ixs wi g tc te):=d ▸ CO c S hi b a he hs
theorem Mo{y:Str}{py a:Pos}(b:swapsWith (.ListComp elt [⟨tg,iter,ifs,0⟩] scope pos) (some (.Name y py)) a.line X.env=pure true)(k:(tgN tg).length=no)(j:X.calm=true)(S:CompScope X (tgN tg) (fvN X ixs) ixs scope)(hi:BI X tg iter wi)
  (e:∀C s H fp,BG (bt X (tgN tg++fvN X ixs) scope (aB X.env scope.names []) C s H fp) tg g) (d:∀C s H fp,BIf (bt X (tgN tg++fvN X ixs) scope (aB X.env scope.names []) C s H fp) ifs tc) (he:∀C s H fp,BE (bt X (tgN tg++fvN X ixs) scope (aB X.env scope.names []) C s H fp) elt te)
  (hs:∀x,foldedSetIterable iter X.env x=pure x) (l:X.N.Nodup) (c:X.N[i]?=some y) (hx:Loc X.env.scope y) (f:X.fn y=true∨X.env.scope.names.lookup y=some .local) :
  BS X (.Assign [.Name y py] (.ListComp elt [⟨tg,iter,ifs,0⟩] scope pos) a) (qU (gy no ixs wi g tc te) (fU i)):=k ▸ Dk j S hi e d he hs l c hx b f
theorem yb{f:Value}{r:List V->Hp->VK->Prop}(k:BCall X f r)(i:X.mg x=none)(d:bootBuiltins x=some f)(m:(∃id,f=.builtin id)∨∃T,f=.type T)(l:BA X (e::es) t)(j:X.env.kindOf x=some .globalImplicit)(a:(e::es).all a9=true)(g:(x == "__name__")=false)
  (c:(x==("__debug__" : Str))=false):BE X (.Call (.Name x p) (e::es) [] pos) (tCB r t):=by
 have b:x ≠ "__name__" := λz=>by rw[z] at g;exact absurd g (by decide)
 rcases m with ⟨id,rfl⟩|⟨T,rfl⟩
 ·exact xf k i d l j a b c
 ·exact xg k i d l j a b c
end
structure Df(K:Frag)(x:Str)(st:Stmt)(f:Addr)(fd:FuncData):Prop where
 ns:PySem.W.nsIn K mainGlobals x=some (some (.ref f))
 fn:Fun K x x st f fd
theorem df_mk{K:Frag}{f:Addr}{kV:Value}(a:PySem.W.nsIn K mainGlobals x=some (some (.ref f)))(l:K.lookup f=some ⟨oc,od,.func (PySem.W.fnOf x x (cz st) (bw st) (am st) .none kV doc pm an cdv ct),osl⟩)
  (c:PySem.W.codeIn K cdv x=true) (k:PySem.W.keepIn K (.ref f)=true):Df K x st f (PySem.W.fnOf x x (cz st) (bw st) (am st) .none kV doc pm an cdv ct):=⟨a,AD l c k⟩
abbrev Lh(c:Ct)(n:Nat)(m:List Nat):Prop:=∀os P,c os P->os.length=n/\∀j o,os[j]?=some o->j∉m->sV o=true
abbrev Hh(c:Ct)(f:FS)(m:List Nat)(n:Nat):Prop:=∀os P,c os P->f { nx:=fin m os P (.fz .non),rt:=fin m os P } (ah n os)
structure Zz where
 P:Program
 w:World
 K:Frag
 mg:Str->Option Value
 base:Heap
 h:Heap
structure TopZ(Z:Zz)(T:Prop):Prop where
 X:Z.K.In Z.h
 G:Z.h.Ns mainGlobals Z.mg
 T:T
abbrev cv(Z:Zz)(x:Str)(k:Nat)(ps:List Str)(c:Ct):Prop:=Own Z.P Z.w Z.K Z.mg Z.base x k ps (spM Z.K c)
section
variable {Z:Zz} {T:Prop}   {f:Addr}  {ps:List Str} {c:Ct} {fs:FS}  
theorem i8(N:List Str)(t:TopZ Z T)(D:Fun Z.K x q st f fd)(e:Lh c ps.length m)(l:Hh c fs m n)(S:FnScope N ps (am st))
  (d:∀(cdv:Value) (A:Around) (outer:List Env) (s:Shared) (H:Hp) (E:XK),T->N.Nodup->Room k (A.deeper (envOfC q (am st) s.heap.objs.size f cdv)) ->
   ∃t,SF Z.K n m t fs/\BSs (rJ CX0 Z.P Z.w Z.K Z.mg Z.base N q (am st) f cdv A outer s H E).nox (bw st) t) (g:autoParam (N.length=n) L2.aR._auto_1) (o:autoParam (ps.length<=n) L2.aD._auto_1) (j:autoParam (∀i∈m,i<ps.length) L2.aD._auto_1):FnOk Z.P Z.w Z.K Z.mg Z.base CX0 (k+1) f fd ps (spM Z.K c):=
 Fun.okG n m D S g o e j (λcdv A outer s H E hr=>let ⟨t,a,b⟩:=d cdv A outer s H E t.T S.nd hr;⟨t,b,a⟩) l
theorem ao(N:List Str)(t:TopZ Z T)(D:Df Z.K x st f fd)(b:Lh c ps.length m)(g:Hh c fs m n)
  (j:∀(kV doc pm:Value) (an:Option Addr) (cdv ct:Value) (us:List Value),us.length=ps.length->bindArgs (PySem.W.fnOf x x (cz st) (bw st) (am st) .none kV doc pm an cdv ct) ⟨us,[]⟩=pure (ps.zip us)) (S:FnScope N ps (am st))
  (a:∀(cdv:Value) (A:Around) (outer:List Env) (s:Shared) (H:Hp) (E:XK),T->N.Nodup->Room k (A.deeper (envOfC x (am st) s.heap.objs.size f cdv)) ->
   ∃t,SF Z.K n m t fs/\BSs (rJ CX0 Z.P Z.w Z.K Z.mg Z.base N x (am st) f cdv A outer s H E).nox (bw st) t) (d:autoParam (N.length=n) L2.aR._auto_1) (l:autoParam (ps.length<=n) L2.aD._auto_1) (e:autoParam (∀i∈m,i<ps.length) L2.aD._auto_1):cv Z x (k+1) ps c:=
 ⟨f,fd,i8 N t D.fn b g S a d l e,aaH t.X t.G D.ns,D.fn.kp,D.fn.binds j⟩
end
structure ClsF(K:Frag)(c:Nat)(C:Addr):Prop where
 ns:PySem.W.nsIn K mainGlobals (Dl c)=some (some (.ref C))
 cl:Cls K C
 na:∀f∈b4 c,NoAttr K C f
theorem dq(c:Nat):(b4 c).Nodup:=by
 match c with
 |0=>decide +kernel
 |1=>exact abQ
 |_+2=>exact abQ
def unO(ρ:FSt)(i c:Nat):Option (Addr×List FV):=match ρ[i]? with
 | some (some (.ob ⟨a,b,ps⟩))=>(match Nat.beq b c with
  |true=>some (a,ps)
  |false=>none)
 |_=>none
def K0(a:Addr):OV->Option FV
 |.fz d=>some (.fz d)
 |.fl ds=>some (.fl a ds)
 |.fd ks ds=>some (.fd a ks ds)
 |.ft ks ds=>some (.ft a ks ds)
 |_=>none
def tR(as:Nat->Addr):Nat->List OV->Option (List FV)
 |_,[]=>some []
 | i,o::os=>match K0 (as i) o with
  | some p=>match tR as (i+1) os with
   |some ps=>some (p::ps)
   |none=>none
  |none=>none
def Je(ps:List FV)(k:Nat)(g:FV):Option (List FV):=match Nat.blt k ps.length with
 |true=>some (ps.set k g)
 | false=>(match Nat.beq k ps.length with
  |true=>some (ps++[g])
  |false=>none)
section
variable {K:Frag}     
theorem tS(h:unO ρ i c=some (a,ps)):ρ[i]?=some (some (.ob ⟨a,c,ps⟩)):=by
 unfold unO at h;split at h
 ·rename_i g f b e;split at h
  ·rename_i d;cases h;rw[e,abq d]
  ·cases h
 ·cases h
def adr:V->Addr
 |.ref a=>a
 |_=>0
theorem Ow.part{o:OV}{g:FV}(h:Ow K F H v o B)(e:K0 (adr v) o=some g):Fw K F H v g B:=by
 cases h with
 |fz h=>cases e;exact .fz h
 |fl h t=>cases e;exact .fl h t
 |fd h q t=>cases e;exact .fd h q t
 |ft h q t=>cases e;exact .ft h q t
 |_=>cases e
theorem Ows.parts{as:Nat->Addr}(h:Ows K F H vs os B):∀{ps:List FV} {i:Nat},(∀j v,vs[j]?=some v->as (i+j)=adr v)->tR as i os=some ps->Fws K F H vs ps B:=by
 induction h with
 |nil=>intro ps i _ e;cases e;exact .nil
 | @cons v o _ os _ _ h t f=>
  intro ps i c e;unfold tR at e;have k:as i=adr v:=c 0 v rfl
  cases a:K0 (as i) o with
  |none=>rw [a] at e;cases e
  | some p=>
   cases b:tR as (i+1) os with
   |none=>rw[a,b] at e;cases e
   | some d=>
    rw[a,b] at e;cases e;exact .cons (h.part (k ▸ a)) (f (λj w g=>by rw[show i+1+j=i+(j+1) by nofun];exact c (j+1) w g) b)
theorem Fws.length{xs:List V}{ps:List FV}{B:List Addr}(h:Fws K F H xs ps B):xs.length=ps.length:=by
 induction h with
 |nil=>rfl
 |cons _ _ a=>exact congrArg (·+1) a
theorem Fws.at_(h:Fws K F H xs ps B):∀{k:Nat} {g:FV},ps[k]?=some g->∃x C B',xs[k]?=some x/\Fw K F H x g C/\B.Perm (C++B') /\
  ∀F' H' y g' c,Same F F'->(∀a u,a∈B'->H a=some u->H' a=some u)->Fw K F' H' y g' c->∃b,Fws K F' H' (xs.set k y) (ps.set k g') b/\b.Perm (c++B'):=by
 induction h with
 |nil=>intro k g e;cases e
 | @cons x o xs os d q h t m=>
  intro k g e
  cases k with
  | zero=>
   cases e;exact⟨x,d,q,rfl,h,aaC _,λF' H' y g' c s k w=>⟨_,.cons w (t.keep s k),aaC _⟩⟩
  | succ k=>
   obtain⟨y,C,B',h1,h2,p,n⟩:=m (k:=k) e
   have sw:∀(C:List Addr),(d++(C++B')).Perm (C++(d++B')):=λC=>by
    rw[← aap,← aap];exact aa4 _ aaY
   refine⟨y,C,d++B',h1,h2,(aaP d p).trans (sw C),λF' H' i g' c s k w=>?_⟩;obtain⟨b,l,j⟩:=n F' H' i g' c s (λa u f=>k a u (aal _ f)) w;exact⟨_,.cons (h.keep s λa u f=>k a u (aaw _ f)) l,(aaP d j).trans (sw c)⟩
theorem Fws.snoc{C:List Addr}{g:FV}(h:Fws K F H xs ps B)(w:Fw K F H y g C):∃a,Fws K F H (xs++[y]) (ps++[g]) a/\a.Perm (C++B):=by
 induction h with
 |nil=>exact⟨_,.cons w .nil,aaC _⟩
 | @cons x o xs os c d h t b=>
  obtain⟨a,h1,h2⟩:=b;refine⟨_,.cons h h1,(aaP c h2).trans ?_⟩;rw[← aap,← aap];exact aa4 _ aaY
theorem Rel.away(R:Rel K F Z H σ ρ A)(k:∀a u,a∉B->H a=some u->H' a=some u)(f:∀b∈B,F b=none/\Z b=none/\b∉A):Rel K F Z H' σ ρ A:=
 ⟨R.sl.keep (Same.refl _) λa u c h=>k a u (λz=>(f a z).2.2 c) h,R.nd,R.fr,λa u h=>k a u (λz=>by rw[(f a z).1] at h;cases h) (R.fh a u h),⟨λa u h=>k a u (λz=>by rw[(f a z).2.1] at h;cases h) (R.zh.s a u h),R.zh.n⟩,R.dj⟩
theorem Rel.chg{o:OV}(R:Rel K F Z H σ ρ A)(e:ρ[i]?=some (some o)):∃v B,σ[i]?=some (some v)/\Ow K F H v o B/\B.Nodup/\(∀b∈B,b∈A) /\
  ∀H' o' c,(∀a u,a∉B->H a=some u->H' a=some u)->Ow K F H' v o' c->c.Nodup->(∀b∈c,b∈B∨(F b=none/\Z b=none/\b∉A))->∃A',Rel K F Z H' σ (ρ.set i (some o')) A':=by
 obtain⟨v,B,A',h1,h2,j,f,pm⟩:=R.takeI e;refine⟨v,B,h1,h2,f.nd,λb d=>pm.mem_iff.mpr (abA.mpr (.inl d)),λH' o' c k w nd m=>?_⟩;obtain⟨l,g,_⟩:=(j.away k f.fr).putI (eI e) h1 w ⟨nd,λb d=>(m b d).elim (f.fr b) λz=>⟨z.1,z.2.1,λy=>z.2.2 (pm.mem_iff.mpr (abA.mpr (.inr y)))⟩⟩;rw[abr] at g;exact⟨l,g⟩
theorem tT{fs:List (Str×V)}:∀{k:Nat} {f:Str} {x:V},(fs.map (·.1)).Nodup->(fs.map (·.1))[k]?=some f->(fs.map (·.2))[k]?=some x->fs.lookup f=some x:=by
 induction fs with
 |nil=>intro k f x _ h;cases h
 | cons p fs a=>
  intro k f x n h1 h2;obtain⟨n1,n2⟩:=abJ.mp n
  cases k with
  |zero=>cases h1;cases h2;simp [List.lookup]
  | succ k=>
   have b:f∈fs.map (·.1):=List.mem_of_getElem? h1;have:(f==p.1)=false:=beq_eq_false_iff_ne.mpr λz=>n1 (show p.1∈_ from z ▸ b);rw[aaB,this];exact a (k:=k) n2 h1 h2
theorem tU{fs:List (Str×V)}(h:f∉fs.map (·.1)):fs.lookup f=none:=by
 induction fs with
 |nil=>rfl
 | cons p fs a=>
  rw[abC,abH,not_or] at h;rw[aaB,beq_eq_false_iff_ne.mpr h.1];exact a h.2
theorem Ef{fs:List (Str×V)}:∀{k:Nat} {f:Str},(fs.map (·.1)).Nodup->(fs.map (·.1))[k]?=some f->(fF f y fs).map (·.1)=fs.map (·.1)/\(fF f y fs).map (·.2)=(fs.map (·.2)).set k y:=by
 induction fs with
 |nil=>intro k f _ h;cases h
 | cons p fs a=>
  intro k f n h1;obtain⟨n1,n2⟩:=abJ.mp n;obtain⟨g,x⟩:=p
  cases k with
  |zero=>cases h1;unfold fF;rw [if_pos rfl];exact ⟨rfl,rfl⟩
  | succ k=>
   have b:f∈fs.map (·.1):=List.mem_of_getElem? h1;unfold fF;rw[if_neg λz:g=f=>n1 (show g∈_ from z.symm ▸ b)];obtain⟨d,c⟩:=a (k:=k) n2 h1;exact⟨by rw[abC,abC,d],by rw[abC,abC,c];rfl⟩
theorem oj{y:V}{f:Str}:∀{fs:List (Str×V)},f∉fs.map (·.1)->fF f y fs=fs++[(f,y)]
 |[],_=>rfl
 | (g,x)::fs,h=>by
  rw[abC,abH,not_or] at h;unfold fF;rw[if_neg λz=>h.1 z.symm,oj h.2];rfl
theorem Rel.obj(R:Rel K F Z H σ ρ A)(hC:ClsF K c C)(e:unO ρ i c=some (a,ps)):∃dx fs B,σ[i]?=some (some (.ref a))/\H a=some (.ins C dx fs)/\fs.map (·.1)=(b4 c).take ps.length/\ps.length<=(b4 c).length/\Fws K F H (fs.map (·.2)) ps B/\(a::B).Nodup/\(∀b∈a::B,b∈A) /\
  ∀H' fs' d j,(∀b u,b∉a::B->H b=some u->H' b=some u)->H' a=some (.ins C dx fs')->fs'.map (·.1)=(b4 c).take d.length->d.length<=(b4 c).length->Fws K F H' (fs'.map (·.2)) d j->(a::j).Nodup->(∀b∈j,b∈B∨(F b=none/\Z b=none/\b∉A))->∃A',Rel K F Z H' σ (ρ.set i (some (.ob ⟨a,c,d⟩))) A':=by
 obtain⟨v,D,h1,h2,n,m,g⟩:=R.chg (tS e)
 cases h2 with
 | ob h2=>
  cases h2 with
  | @mk _ y dx _ fs _ B x f s hl hp=>
   have:y=C:=by
    have:=f.symm.trans hC.ns;cases this;rfl
   subst this;refine⟨dx,fs,B,h1,x,s,hl,hp,n,m,λH' fs' d j k w p o l q r=>g H' _ (a::j) k (.ob (.mk w f p o l)) q λb t=>?_⟩;rcases abH.mp t with z|z
   ·exact .inl (z ▸ aab ..)
   ·exact(r b z).imp (aae _) id
theorem gg{l:List α}{x:α}(h:l[k]?=some x)(a:k<n):(l.take n)[k]?=some x:=by rw[List.getElem?_take_of_lt a];exact h
def fT(c i k:Nat):FE:=λρ Q=>match unO ρ i c with
 | some (_,ps)=>(match ps[k]? with
  |some (.fz d)=>Q (.ov (.fz d)) ρ
  |_=>False)
 |none=>False
theorem Jf(hC:ClsF K c C)(o:μ[j]?=some i)(b:(b4 c)[k]?=some f):EF K μ (wA K (dD j) f) (fT c i k):=⟨by
 intro F Z H r σ ρ A Q P m R h q;unfold fT at h;split at h
 ·rename_i a ps e;split at h
  ·rename_i d l;obtain⟨dx,fs,B,h1,h2,g,s,p,_⟩:=R.obj hC e;obtain⟨x,t,u,g1,g2,_⟩:=p.at_ l;have n:k<ps.length:=(List.getElem?_eq_some_iff.mp l).1;have hl:fs.lookup f=some x:=tT (k:=k) (by rw[g];exact(aa1 ..).nodup (dq c)) (by rw[g];exact gg b n) g1
   cases g2 with
   |fz dn=>exact⟨.ref a,(m j i o).1.trans h1,a,C,dx,fs,x,rfl,h2,hC.cl,hC.na f (List.mem_of_getElem? b),hl,q _ _ _ _ _ _ _ h (Same.refl _) R (.fz dn) Fresh.nil⟩
  ·exact h.elim
 ·exact h.elim⟩
theorem tV(c:Nat):(b4 c).length<1000:=by
 match c with
 |0=>decide
 |1=>decide
 |_+2=>show (0:Nat)<1000;decide
theorem Rel.setF{s:List FV}{g:FV}{E:List Addr}(R:Rel K F Z H σ ρ A)(hC:ClsF K c C)(G:(b4 c)[k]?=some f)(e:unO ρ i c=some (a,ps))(w:Fw K F H y g E)(fr:Fresh F Z A E)(ep:Je ps k g=some s) :
  ∃dx fs,σ[i]?=some (some (.ref a))/\H a=some (.ins C dx fs)/\fs.length<1000/\∃A',Rel K F Z (upd H a (.ins C dx (fF f y fs))) σ (ρ.set i (some (.ob ⟨a,c,s⟩))) A':=by
 obtain⟨dx,fs,B,h1,h2,D,X,Q,nd,mA,mk⟩:=R.obj hC e;obtain⟨m,t⟩:=abJ.mp nd;have L:=Q.length;rw[abz] at L;have O:a∈A:=mA a (aab ..);have r:∀b∈E,b≠a:=λb d z=>(fr.fr b d).2.2 (z ▸ O);have out:∀b u,b≠a->H b=some u->upd H a (.ins C dx (fF f y fs)) b=some u:=λb u d q=>by rw[ai d];exact q
 have T:Fw K F (upd H a (.ins C dx (fF f y fs))) y g E:=w.keep (Same.refl _) λb u d q=>out b u (r b d) q;have W:(fs.map (·.1)).Nodup:=by rw[D];exact(aa1 ..).nodup (dq c)
 refine⟨dx,fs,h1,h2,by have:=tV c;nofun,?_⟩;unfold Je at ep;split at ep
 ·rename_i o;have o:k<ps.length:=Nat.le_of_ble_eq_true o;cases ep;obtain⟨x,C0,B',g1,g2,pm,Y⟩:=Q.at_ (List.getElem?_eq_getElem o);obtain⟨V,p2⟩:=Ef (y:=y) (k:=k) W (by rw[D];exact gg G o);have n:∀b∈B',b∈B:=λb d=>pm.mem_iff.mpr (abA.mpr (.inr d));obtain⟨S,I,l⟩:=Y F (upd H a (.ins C dx (fF f y fs))) y g E (Same.refl _) (λb u d q=>out b u (λz=>m (z ▸ n b d)) q) T;obtain⟨_,n2,_⟩:=bd pm t;refine mk _ _ _ S (λb u d q=>out b u (λz=>d (z ▸ aab ..)) q) af (by rw[V,D,aaI]) (by rw[aaI];exact X) (by rw[p2];exact I) (abJ.mpr ⟨λd=>?_,l.nodup_iff.mpr (abN.mpr ⟨fr.nd,n2,λb d b' p z=>?_⟩)⟩) λb d=>?_
  ·rcases abA.mp (l.mem_iff.mp d) with z|z
   ·exact r a z rfl
   ·exact m (n a z)
  ·exact(fr.fr b d).2.2 (mA b (aae _ (n b (z ▸ p))))
  ·rcases abA.mp (l.mem_iff.mp d) with z|z
   ·exact .inr (fr.fr b z)
   ·exact .inl (n b z)
 ·split at ep
  ·rename_i o;have o:k=ps.length:=abq o;subst o;cases ep;have J:ps.length<(b4 c).length:=(List.getElem?_eq_some_iff.mp G).1
   have v:f∉fs.map (·.1):=λz=>by
    rw[D] at z;obtain⟨j,N⟩:=List.mem_iff_getElem?.mp z
    have M:j<ps.length:=by
     have:=(List.getElem?_eq_some_iff.mp N).1;rw[abD] at this;nofun
    rw[List.getElem?_take_of_lt M] at N;have:=(List.getElem?_inj (by nofun) (dq c)).mp (N.trans G.symm);nofun
   have P:Fws K F (upd H a (.ins C dx (fF f y fs))) (fs.map (·.2)) ps B:=Q.keep (Same.refl _) λb u d q=>out b u (λz=>m (z ▸ d)) q;obtain⟨S,I,l⟩:=P.snoc T;have U:=oj (y:=y) v;have e2:(fF f y fs).map (·.2)=fs.map (·.2)++[y]:=by rw[U,aad];rfl
   refine mk _ _ _ S (λb u d q=>out b u (λz=>d (z ▸ aab ..)) q) af ?_ (by rw[abB];exact J) (by rw[e2];exact I) (abJ.mpr ⟨λd=>?_,l.nodup_iff.mpr (abN.mpr ⟨fr.nd,t,λb d b' p z=>?_⟩)⟩) λb d=>?_
   ·rw[U,aad,D,abB,show ps.length+[g].length=ps.length+1 from rfl,List.take_add_one,G];rfl
   ·rcases abA.mp (l.mem_iff.mp d) with z|z
    ·exact r a z rfl
    ·exact m z
   ·exact(fr.fr b d).2.2 (mA b (aae _ (z ▸ p)))
   ·rcases abA.mp (l.mem_iff.mp d) with z|z
    ·exact .inr (fr.fr b z)
    ·exact .inl z
  ·cases ep
def i9(c i k:Nat)(fe:FE):FS:=λE ρ=>fe ρ λr e=>match fzR r e with
 | some (d,b)=>(match unO b i c with
  | some (a,ps)=>(match Je ps k (.fz d) with
   |some f=>E.nx (b.set i (some (.ob ⟨a,c,f⟩)))
   |none=>False)
  |none=>False)
 |none=>False
def AU(c i k:Nat)(fe:FE):FS:=λE ρ=>fe ρ λr e=>match takeR r e with
 | some (o,d)=>∀b:Addr,(match K0 b o with
  | some g=>(match unO d i c with
   | some (a,ps)=>(match Je ps k g with
    |some f=>E.nx (d.set i (some (.ob ⟨a,c,f⟩)))
    |none=>False)
   |none=>False)
  |none=>False)
 |none=>False
def qo(c i k:Nat)(fe:FE):FS:=λE ρ=>match unO ρ i c with
 | some (_,e)=>(match e[k]? with
  | some (.fz (.int x))=>fe ρ fun r b=>on1 b r fun d=>(match d with
   | .int y=>(match unO b i c with
    | some (a,ps)=>(match Je ps k (.fz (.int (x+y))) with
     |some f=>E.nx (b.set i (some (.ob ⟨a,c,f⟩)))
     |none=>False)
    |none=>False)
   |_=>False)
  |_=>False)
 |none=>False
theorem Eg(hC:ClsF K c C)(e:(b4 c)[k]?=some f)(he:EF K (List.range n) te fe):SF K n m (KI K (dD i) te f) (i9 c i k fe):=⟨by
 intro F Z H σ0 σ ρ A D z R p E h;refine he.h (View.id p.1) R h λr j v G H1 M I b o y v1 f1=>?_;split at b
 ·rename_i d g w;obtain⟨B,L,l,R2,dn,_,_⟩:=y.frz v1 f1 w;split at b
  ·rename_i a ps u;split at b
   ·rename_i q t;obtain⟨dx,fs,h1,h2,s,J,x⟩:=R2.setF hC e u (.fz dn) Fresh.nil t;exact⟨.ref a,h1,a,C,dx,fs,rfl,h2,hC.cl,hC.na f (List.mem_of_getElem? e),s,E.nx _ _ _ _ _ (o.trans l) x p b⟩
   ·exact b.elim
  ·exact b.elim
 ·exact b.elim⟩
theorem yc(hC:ClsF K c C)(d:(b4 c)[k]?=some f)(he:EF K (List.range n) te fe):SF K n m (KI K (dD i) te f) (AU c i k fe):=⟨by
 intro F Z H σ0 σ ρ A D G R p E h;refine he.h (View.id p.1) R h λr j v I H1 O L b l B v1 f1=>?_;split at b
 ·rename_i o e y;obtain⟨J,N,R2,s,f2,_,_⟩:=B.takeR v1 f1 y;have b:=b (adr v);split at b
  ·rename_i g u;split at b
   ·rename_i a ps x;split at b
    ·rename_i q w;obtain⟨dx,fs,h1,h2,t,M,z⟩:=R2.setF hC d x (s.part u) f2 w;exact⟨.ref a,h1,a,C,dx,fs,rfl,h2,hC.cl,hC.na f (List.mem_of_getElem? d),t,E.nx _ _ _ _ _ l z p b⟩
    ·exact b.elim
   ·exact b.elim
  ·exact b.elim
 ·exact b.elim⟩
theorem Rel.fld(R:Rel K F Z H σ ρ A)(hC:ClsF K c C)(l:(b4 c)[k]?=some f)(e:unO ρ i c=some (a,ps))(g:ps[k]?=some (.fz d)):∃dx fs x,σ[i]?=some (some (.ref a))/\H a=some (.ins C dx fs)/\fs.lookup f=some x/\Den K F x d:=by
 obtain⟨dx,fs,B,h1,h2,b,n,m,_⟩:=R.obj hC e;obtain⟨x,o,p,g1,g2,_⟩:=m.at_ g;have j:k<ps.length:=(List.getElem?_eq_some_iff.mp g).1
 cases g2 with
 |fz dn=>exact⟨dx,fs,x,h1,h2,tT (k:=k) (by rw[b];exact(aa1 ..).nodup (dq c)) (by rw[b];exact gg l j) g1,dn⟩
theorem Eh(hC:ClsF K c C)(b:(b4 c)[k]?=some f)(he:EF K (List.range n) te fe):SF K n m (mo K (dD i) te Lu f) (qo c i k fe):=⟨by
 intro F Z H σ0 σ ρ A D M R p E h;unfold qo at h;split at h
 ·rename_i j s J;split at h
  ·rename_i x B;obtain⟨dx,fs,z,h1,h2,w,dn⟩:=R.fld hC b J B;refine⟨.ref j,h1,j,C,dx,fs,z,rfl,h2,hC.cl,hC.na f (List.mem_of_getElem? b),w,?_⟩;refine he.h (View.id p.1) R h λr o v N H1 Q O u q l v1 f1=>?_;obtain⟨d,e,p2⟩:=bW u;split at p2
   ·rename_i y;refine⟨x,y,dn.int_eq,(l.acc v1 e).int_eq,?_⟩;split at p2
    ·rename_i a ps I;split at p2
     ·rename_i t G;obtain⟨g,fs',g1,g2,g3,P,L⟩:=l.setF (y:=.int (x+y)) hC b I (.fz (.int _)) Fresh.nil G;have:a=j:=by rw[h1] at g1;cases g1;rfl
      subst this;exact⟨g,fs',g2,g3,E.nx _ _ _ _ _ q L p p2⟩
     ·exact p2.elim
    ·exact p2.elim
   ·exact p2.elim
  ·exact h.elim
 ·exact h.elim⟩
end
section
variable {K:Frag}     
theorem om{l:List α}{x:α}(h:l[k]?=some x):l.set k x=l:=by
 apply List.ext_getElem?;intro j;by_cases a:k=j
 ·subst a;rw[h,List.getElem?_set_self (List.getElem?_eq_some_iff.mp h).1]
 ·rw[List.getElem?_set_ne a]
theorem Rel.fldL{b:Addr}(R:Rel K F Z H σ ρ A)(hC:ClsF K c C)(G:(b4 c)[k]?=some f)(e:unO ρ i c=some (a,ps))(w:ps[k]?=some (.fl b ds)) :
  ∃dx fs xs,σ[i]?=some (some (.ref a))/\H a=some (.ins C dx fs)/\fs.lookup f=some (.ref b)/\H b=some (.lst xs)/\Dens K F xs ds/\∀d g,Dens K F d g->∃A',Rel K F Z (upd H b (.lst d)) σ (ρ.set i (some (.ob ⟨a,c,ps.set k (.fl b g)⟩))) A':=by
 obtain⟨dx,fs,B,h1,h2,r,L,J,nd,mA,mk⟩:=R.obj hC e;obtain⟨n,m⟩:=abJ.mp nd;obtain⟨x,N,O,g1,g2,pm,M⟩:=J.at_ w;have E:k<ps.length:=(List.getElem?_eq_some_iff.mp w).1
 cases g2 with
 | @fl _ xs _ I dn=>
  have o:b∈B:=pm.mem_iff.mpr (by simp);have p:a≠b:=λz=>n (z ▸ o);obtain⟨_,n2,n3⟩:=bd pm m;refine⟨dx,fs,xs,h1,h2,tT (k:=k) (by rw[r];exact(aa1 ..).nodup (dq c)) (by rw[r];exact gg G E) g1,I,dn,λd g s=>?_⟩;obtain⟨D,t,l⟩:=M F (upd H b (.lst d)) (.ref b) (.fl b g) [b] (Same.refl _) (λy u j q=>by rw[ai (show y≠b from λz=>n3 b (by simp) (z ▸ j))];exact q) (.fl af s);rw[om g1] at t;have v:∀y∈D,y∈B:=λy j=>pm.mem_iff.mpr (l.mem_iff.mp j);exact mk _ fs _ D (λy u j q=>by rw[ai (show y≠b from λz=>j (z ▸ aae _ o))];exact q) (by rw[ai p];exact h2) (by rw[aaI];exact r) (by rw[aaI];exact L) t (abJ.mpr ⟨λz=>n (v a z),(l.trans pm.symm).nodup_iff.mpr m⟩) λy j=>.inl (v y j)
def yd(c i k:Nat)(fe:FE):FE:=λρ Q=>match unO ρ i c with
 | some (_,g)=>(match g[k]? with
  | some (.fl b _)=>fe ρ fun r f=>(match fzR r f with
   | some (d,e)=>(match unO e i c with
    | some (a,ps)=>(match ps[k]? with
     |some (.fl j ds)=>j=b/\ds.length<sizeLine/\Q (.ov (.fz .non)) (e.set i (some (.ob ⟨a,c,ps.set k (.fl j (ds++[d]))⟩)))
     |_=>False)
    |none=>False)
   |none=>False)
  |_=>False)
 |none=>False
theorem Ei(hC:ClsF K c C)(z:μ[j]?=some i)(l:(b4 c)[k]?=some f)(he:EF K μ te fe):EF K μ (tBM K "list" dO (wA K (dD j) f) (eP te kB)) (yd c i k fe):=⟨by
 intro F Z H V σ ρ A Q P n R h q;unfold yd at h;split at h
 ·rename_i p x L;split at h
  ·rename_i b O m;obtain⟨dx,fs,xs,h1,h2,D,B,_⟩:=R.fldL hC l L m;refine⟨.ref p,(n j i z).1.trans h1,p,C,dx,fs,.ref b,rfl,h2,hC.cl,hC.na f (List.mem_of_getElem? l),D,.inl ⟨rfl,xs,SqL.of B⟩,?_⟩;refine he.h n R h λr t v X H1 A1 Y e w U v1 f1=>?_;split at e
   ·rename_i d s J;obtain⟨W,A2,u,R2,M,_,_⟩:=U.frz v1 f1 J;split at e
    ·rename_i a ps I;split at e
     ·rename_i S ds G;obtain⟨rfl,p2,y⟩:=e;obtain⟨N,fs',g,g1,g2,g3,E,o,mt⟩:=R2.fldL hC l I G;obtain⟨A3,T⟩:=mt (g++[v]) (ds++[d]) (o.snoc M);exact⟨S,g,v,rfl,rfl,E,by rw[o.length];exact p2,q _ _ _ _ _ _ _ y (w.trans u) T (.fz .non) Fresh.nil⟩
     ·exact e.elim
    ·exact e.elim
   ·exact e.elim
  ·exact h.elim
 ·exact h.elim⟩
def dL(_:Str)(c i:Nat)(cc:Ct)(fa:FA):FE:=λρ Q=>match unO ρ i c with
 |some _=>ag cc (aa (ab i) fa) ρ Q
 |none=>False
theorem Ej(hC:ClsF K c C)(g:μ[j]?=some i)(f:(b4 c).contains mn=false)(l:AF K μ t fa):EF K μ (mq C mn (spM K cc) [] E0 (dD j) t) (dL mn c i cc fa):=⟨by
 intro F Z H n σ ρ A Q P b R h q;unfold dL at h;split at h
 ·rename_i ap e;obtain⟨a,ps⟩:=ap;obtain⟨dx,fs,B,h1,h2,m,p,o,_⟩:=R.obj hC e;obtain⟨v,d,k⟩:=(mJ (E:=E0) (mI (sO g) l)).h b R h q
  have:v=.ref a:=by
   have:=d.symm.trans ((b j i g).1.trans h1);cases this;rfl
  subst this;refine⟨.ref a,d,a,dx,fs,rfl,h2,tU λz=>?_,k⟩;rw[m] at z;rw[List.contains_eq_mem,decide_eq_false_iff_not] at f;exact f (aaR z)
 ·exact h.elim⟩
end
section
variable {K:Frag}     
theorem Rel.call{c:Ct}{C:List Addr}{P:Pk}{Q:VK}{E:XK}(R:Rel K F Z H σ ρ A)(x:Ows K F H vs os C)(f2:Fresh F Z A C)(h:c os P)
  (q:∀o f v i j k B,P o f->Same F i->Rel K i Z j σ ρ A->Ows K i j vs f k->Ow K i j v o B->Fresh i Z A (k++B)->Q v j):spM K c vs H Q E:=by
 obtain⟨m,g,d⟩:=mix A H Z;have D:∀a,a∈A->Z a=none:=λa e=>(R.fr a e).2;have sz:Same Z m:=λa o z=>by rw[d a λy=>by rw[D a y] at z;cases z];exact z
 refine⟨F,m,os,C,P,R.fh,⟨λa o z=>?_,λa xs z=>?_⟩,λa o z=>?_,x,f2.nd,λa e=>⟨(f2.fr a e).1,by rw[d a (f2.fr a e).2.2];exact(f2.fr a e).2.1⟩,h,λo f v i j k B p n fh zh dj t s nd fr=>?_⟩
 ·by_cases y:a∈A
  ·rw[g a y] at z;exact z
  ·rw[d a y] at z;exact R.zh.s a o z
 ·by_cases y:a∈A
  ·rw[g a y] at z;exact R.sl.nt a y xs z
  ·rw[d a y] at z;exact R.zh.n a xs z
 ·rw[d a λy=>by rw[(R.fr a y).1] at z;cases z];exact R.dj a o z
 ·have r:∀a∈A,∃u,m a=some u:=λa e=>by
   obtain⟨u,hu⟩:=R.sl.live a e;exact⟨u,by rw[g a e];exact hu⟩
  have G:Rel K i Z j σ ρ A:=⟨R.sl.keep n λa u e hu=>zh a u (by rw[g a e];exact hu),R.nd,λa e=>⟨(by
   cases z:i a with
   |none=>rfl
   | some u=>
    have:=dj a u z;obtain⟨w,hw⟩:=r a e;rw[hw] at this;exact nomatch this),(R.fr a e).2⟩,fh,⟨sz.trans zh,R.zh.n⟩,λa o z=>sz.free (dj a o z)⟩
  exact q o f v i j k B p n G t s ⟨nd,λb l=>⟨(fr b l).1,sz.free (fr b l).2,λy=>by
   obtain⟨w,hw⟩:=r b y;rw[(fr b l).2] at hw;cases hw⟩⟩
def Jg(c:Nat)(cc:Ct)(fa:FA):FE:=λρ Q=>fa ρ λg d=>match takeL g d with
 | some (os,b)=>∀a:Addr,cc (.ob ⟨a,c,[]⟩::os) λo f=>(match o,f with
  |.fz .non,i::e=>Q (.ov i) (putL g e b)
  |_,_=>False)
 |none=>False
theorem Ek(hC:ClsF K c C)(V:AF K μ t fa):EF K μ (Ce C (spM K cc) [] E0 t) (Jg c cc fa):=⟨by
 intro F Z H τ σ ρ A Q P J R h q;refine V.h J R h λrs s vs l H1 A1 B1 h1 M R1 v1 f1=>?_;rw[aao];intro x dx f k j;split at h1
 ·rename_i os r e;obtain⟨C1,A2,R2,m,f2,m2,c2⟩:=R1.takeL v1 f1 e;have i:upd H1 dx (.own x) x=none:=by rw[ai (Ne.symm j)];exact f
  have hh:Same H1 (upd (upd H1 dx (.own x)) x (.ins C dx [])):=(bO k).trans (bO i);have R3:=R2.step (F':=l) (H':=upd (upd H1 dx (.own x)) x (.ins C dx [])) ⟨Same.refl _,hh,R2.fh.trans hh,λa o h n=>by rw[n] at h;cases h⟩;have S:=m.keep (Same.refl l) λa u _ h=>hh a u h;have W:l x=none:=R2.fh.free f;have w:Z x=none:=R2.zh.free f;have nx:x∉A2:=λz=>by obtain⟨u,hu⟩:=R2.sl.live x z;rw[f] at hu;cases hu
  have T:x∉C1:=λz=>by obtain⟨u,hu⟩:=m.live x z;rw[f] at hu;cases hu
  refine R3.call (.cons (.ob (.mk af hC.ns rfl (aan _) .nil)) S) ⟨abJ.mpr ⟨T,f2.nd⟩,λb d=>?_⟩ (h1 x) λo O v F4 H4 C4 B p L Y I G g=>?_
  ·rcases abH.mp d with z|z
   ·rw[z];exact⟨W,w,nx⟩
   ·exact f2.fr b z
  ·split at p
   ·rename_i o1 N
    cases G with
    | fz dn=>
     cases I with
     | @cons _ _ _ _ D1 D2 E D=>
      rw[aao] at g;obtain⟨n1,n2,n3⟩:=bd (aaC (D1++D2)) g.nd;obtain⟨A5,X,U⟩:=Y.putL v1 D ⟨n2,λb d=>g.fr b (abA.mpr (.inr d))⟩;refine⟨dn.non_eq,q _ _ _ _ _ _ _ p (M.trans L) X E ⟨n1,λb d=>?_⟩⟩;have:=g.fr b (abA.mpr (.inl d));exact⟨this.1,this.2.1,λz=>(U b z).elim this.2.2 λy=>n3 b d y⟩
   ·exact p.elim
 ·exact h1.elim⟩
def mR(c i k:Nat):FE:=λρ Q=>match unO ρ i c with
 | some (a,ps)=>(match ps[k]? with
  |some g=>Q (.ov (.fz (hJ g))) (ρ.set i (some (.ob ⟨a,c,ps.set k (.fz (hJ g))⟩)))
  |none=>False)
 |none=>False
theorem El(hC:ClsF K c C)(hj:μ[j]?=some i)(L:(b4 c)[k]?=some f):EF K μ (wA K (dD j) f) (mR c i k):=⟨by
 intro F Z H τ σ ρ A Q P V R h q;unfold mR at h;split at h
 ·rename_i a ps e;split at h
  ·rename_i g O;obtain⟨v,B,A',h1,h2,R',t,pm⟩:=R.takeI (tS e);have Y:k<ps.length:=(List.getElem?_eq_some_iff.mp O).1
   cases h2 with
   | ob h2=>
    cases h2 with
    | @mk _ T dx _ fs _ B N r n hl hp=>
     have:T=C:=by have:=r.symm.trans hC.ns;cases this;rfl
     subst this;obtain⟨p,D⟩:=abJ.mp t.nd;obtain⟨x,C1,B1,g1,g2,l,g4⟩:=hp.at_ O;have W:∀b∈C1,b∈a::B:=λb m=>aae _ (l.mem_iff.mpr (abA.mpr (.inl m)));have J:∀b∈B1,b∈B:=λb m=>l.mem_iff.mpr (abA.mpr (.inr m));obtain⟨n1,n2,n3⟩:=bd l D;obtain⟨G,w,R2,X,U⟩:=R'.grow g2.live λb m=>t.fr b (W b m);have dn:=g2.freeze w X;obtain⟨B2,I,d⟩:=g4 G H x (.fz (hJ g)) [] w (λ_ _ _ h=>h) (.fz dn);rw[om g1] at I
     have E:∀b∈a::B2,G b=none/\Z b=none/\b∉A':=λb m=>by
      have s:b∈a::B:=by
       rcases abH.mp m with z|z
       ·exact z ▸ aab ..
       ·exact aae _ (J b (d.mem_iff.mp z))
      refine⟨?_,(t.fr b s).2⟩
      cases z:G b with
      |none=>rfl
      | some u=>
       have M:=U b u z (t.fr b s).1;rcases abH.mp m with y|y
       ·exact absurd (l.mem_iff.mpr (abA.mpr (.inl (y ▸ M)))) p
       ·exact absurd (d.mem_iff.mp y) (n3 b M)
     obtain⟨A3,S,_⟩:=R2.putI (o:=.ob ⟨a,c,ps.set k (.fz (hJ g))⟩) (eI (tS e)) h1 (.ob (.mk N r (by rw[aaI];exact n) (by rw[aaI];exact hl) I)) ⟨abJ.mpr ⟨λz=>p (J a (d.mem_iff.mp z)),d.nodup_iff.mpr n2⟩,E⟩;rw[abr] at S;exact⟨.ref a,(V j i hj).1.trans h1,a,T,dx,fs,x,rfl,N,hC.cl,hC.na f (List.mem_of_getElem? L),tT (k:=k) (by rw[n];exact(aa1 ..).nodup (dq c)) (by rw[n];exact gg L Y) g1,q _ _ _ _ _ _ _ h w S (.fz dn) Fresh.nil⟩
  ·exact h.elim
 ·exact h.elim⟩
end
section
variable {K:Frag}     
theorem Obs.length{xs:List V}{os:List Oo}{B:List Addr}(h:Obs K F H xs os B):xs.length=os.length:=by
 induction h with
 |nil=>rfl
 |cons _ _ a=>exact congrArg (·+1) a
theorem Ob.at_{o:Oo}(h:Ob K F H v o B):v=.ref o.a:=by cases h;rfl
def Jh(fe:FE):FE:=λρ Q=>fe ρ λr a=>match r with
 |.ov (.ob o)=>Q (.ov (.obs [o])) a
 |_=>False
theorem Em(he:EF K μ te fe):EF K μ (KL (eP te kB)) (Jh fe):=⟨by
 intro F Z H m σ ρ A Q P i R h q;refine he.h i R h λr g v e H1 n f d j c v1 f1=>⟨by rw[sizeLine_eq];exact(by decide:(1:Nat)<=16777216),λp hp=>?_⟩;split at d
 ·rename_i o
  cases v1 with
  | ob v1=>
   have k:e p=none:=c.fh.free hp;have R2:=c.step (Pure.new (o:=.lst [v]) c.fh hp);have w:Obs K e (upd H1 p (.lst [v])) [v] [o] (f++[]):=.cons (v1.keep (Same.refl _) λa u _ h=>bO hp a u h) .nil;rw[aao] at w;have np:p∉f:=λz=>by obtain⟨u,hu⟩:=v1.live p z;rw[hp] at hu;cases hu
   refine q _ _ _ _ _ _ _ d j R2 (.obs af w) ⟨abJ.mpr ⟨np,f1.nd⟩,λb l=>?_⟩;rcases abH.mp l with z|z
   ·rw[z];exact⟨k,c.zh.free hp,λy=>by obtain⟨u,hu⟩:=c.sl.live p y;rw[hp] at hu;cases hu⟩
   ·exact f1.fr b z
 ·exact d.elim⟩
def ye(i:Nat):FE:=λρ Q=>match ρ[i]? with
 |some (some (.obs os))=>Q (.ov (.fz (.int os.length))) ρ
 |some (some (.obh os _))=>Q (.ov (.fz (.int (os.length+1:Nat)))) ρ
 |_=>False
theorem En(f:μ[j]?=some i):EF K μ (tCB (Gk K) (eP (dD j) kB)) (ye i):=⟨by
 intro F Z H g σ ρ A Q P d R h q;unfold ye at h;split at h
 ·rename_i os e;obtain⟨v,B,h1,h2,_⟩:=R.chg e
  cases h2 with
  | @obs a xs _ _ c ho=>
   refine⟨.ref a,(d j i f).1.trans h1,.inr (.inl ⟨a,_,rfl,.inl (SqL.of c),?_⟩)⟩;rw[aax,ho.length];exact q _ _ _ _ _ _ _ h (Same.refl _) R (.fz (.int _)) Fresh.nil
 ·rename_i os b e;obtain⟨v,B,h1,h2,_⟩:=R.chg e
  cases h2 with
  | @obh a _ xs _ _ c ho=>
   refine⟨.ref a,(d j i f).1.trans h1,.inr (.inl ⟨a,_,rfl,.inl (SqL.of c),?_⟩)⟩;rw[aax,abI,ho.length];exact q _ _ _ _ _ _ _ h (Same.refl _) R (.fz (.int _)) Fresh.nil
 ·exact h.elim⟩
def oo(i:Nat):FE:=λρ Q=>match ρ[i]? with
 |some (some (.obs (o::os)))=>Q (.ov (.ob o)) (ρ.set i (some (.obh os o.a)))
 |_=>False
theorem yf(s:μ[j]?=some i):EF K μ (tOp (KU K) (dD j) (tUn (rU λi=>.int (-i)) (tC (.int 1)))) (oo i):=⟨by
 intro F Z H C σ ρ A Q P p R h q;unfold oo at h;split at h
 ·rename_i o os e;obtain⟨v,B,A',h1,h2,u,k,pm⟩:=R.takeI e
  cases h2 with
  | @obs a xs _ _ l ho=>
   cases ho with
   | @cons x _ xs _ w B2 m t=>
    have ex:=m.at_;subst ex;obtain⟨d,g⟩:=abJ.mp k.nd;obtain⟨n1,n2,n3⟩:=bd (aaC (w++B2)) g
    obtain⟨D,n,r⟩:=u.putI (o:=.obh os o.a) (eI e) h1 (.obh l t) ⟨abJ.mpr ⟨λz=>d (abA.mpr (.inr z)),n2⟩,λb f=>k.fr b (by
     rcases abH.mp f with z|z
     ·exact z ▸ aab ..
     ·exact aae _ (abA.mpr (.inr z)))⟩
    rw[abr] at n;refine⟨.ref a,(p j i s).1.trans h1,1,rfl,.inl (.inl ⟨a,_,-1,.ref o.a,rfl,rfl,SqL.of l,(by rw[aaM];exact nH _ _),q _ _ _ _ _ _ _ h (Same.refl _) n (.ob m) ⟨n1,λb f=>?_⟩⟩)⟩;have c:=k.fr b (aae _ (abA.mpr (.inl f)));refine⟨c.1,c.2.1,λz=>?_⟩;rcases abA.mp (r.mem_iff.mp z) with y|y
    ·rcases abH.mp y with y|y
     ·exact d (y ▸ abA.mpr (.inl f))
     ·exact n3 b f y
    ·exact c.2.2 y
 ·exact h.elim⟩
def Eo(i:Nat):FE:=λρ Q=>match ρ[i]? with
 |some (some (.obh os _))=>Q (.ov (.fz .non)) (ρ.set i (some (.obs os)))
 |_=>False
theorem Ep :SF K n m (wo (Gi K "list" G8 (dD i))) (bQ (Eo i)):=⟨by
 intro F Z H σ0 σ ρ A D g R p E h;unfold bQ Eo at h;split at h
 ·rename_i os b e;obtain⟨v,B,h1,h2,nd,mA,mk⟩:=R.chg e
  cases h2 with
  | @obh a _ xs _ B d ho=>
   obtain⟨j,f⟩:=mk (upd H a (.lst xs.reverse)) (.obs os) (a::B) (λy u c q=>by rw[ai (show y≠a from λz=>c (z ▸ aab ..))];exact q) (.obs af (ho.keep (Same.refl _) λy u c q=>by rw[ai (show y≠a from λz=>(abJ.mp nd).1 (z ▸ c))];exact q)) nd λy c=>.inl c;refine⟨.ref a,h1,.inl ⟨rfl,_,SqL.of d⟩,a,_,.ref b,rfl,rfl,d,?_,?_⟩
   ·rw[aax,abI,aaM,List.getElem?_append_right (by rw[aax];nofun)];simp
   ·have:((V.ref b::xs).reverse).dropLast=xs.reverse:=by rw[aaM,abv]
    rw[this];exact E.nx _ _ _ _ _ (Same.refl _) f p h
 ·exact h.elim⟩
def yg(i:Nat)(fe:FE):FE:=λρ Q=>(match ρ[i]? with
 | some (some (.obs _))=>fe ρ λr a=>(match r,a[i]? with
  |.ov (.ob o),some (some (.obs os))=>os.length<sizeLine/\Q (.ov (.fz .non)) (a.set i (some (.obs (o::os))))
  |_,_=>False)
 |_=>False)
theorem Er(w:μ[j]?=some i)(he:EF K μ te fe):EF K μ (tBM K "list" dO (dD j) (eP te kB)) (yg i fe):=⟨by
 intro F Z H J σ ρ A Q P k R h q;unfold yg at h;split at h
 ·rename_i s E;obtain⟨v0,O,h1,h2,_⟩:=R.chg E
  cases h2 with
  | @obs a n _ _ g t=>
   refine⟨.ref a,(k j i w).1.trans h1,.inl ⟨rfl,_,SqL.of g⟩,?_⟩;refine he.h k R h λr m v N H1 T l d p I v1 f1=>?_;split at d
   ·rename_i o os D;obtain⟨M,B,g1,g2,nd,mA,mk⟩:=I.chg D;rw[h1] at g1;cases g1
    cases v1 with
    | ob v1=>
     cases g2 with
     | @obs _ xs _ B C ho=>
      have na:∀b∈l,b≠a:=λb x z=>(f1.fr b x).2.2 (mA b (z ▸ aab ..));have f:∀(y:Addr) (u:HO),y≠a->H1 y=some u->upd H1 a (.lst (v::xs).reverse) y=some u:=λy u c q=>by rw[ai c];exact q
      obtain⟨S,G⟩:=mk (upd H1 a (.lst (v::xs).reverse)) (.obs (o::os)) (a::(l++B)) (λy u c q=>f y u (λz=>c (z ▸ aab ..)) q) (.obs af (.cons (v1.keep (Same.refl _) λy u c q=>f y u (na y c) q) (ho.keep (Same.refl _) λy u c q=>f y u (λz=>(abJ.mp nd).1 (z ▸ c)) q)))
       (abJ.mpr ⟨λz=>(abA.mp z).elim (λy=>na a y rfl) (abJ.mp nd).1,abN.mpr ⟨f1.nd,(abJ.mp nd).2,λy c L e z=>(f1.fr y c).2.2 (mA y (aae _ (z ▸ e)))⟩⟩)
       (λy c=>by
        rcases abH.mp c with z|z
        ·exact .inl (z ▸ aab ..)
        ·exact(abA.mp z).elim (λz=>.inr (f1.fr y z)) λz=>.inl (aae _ z))
      refine⟨a,_,v,rfl,rfl,C,by rw[aax,ho.length];exact d.1,?_⟩;rw[← aaM];exact q _ _ _ _ _ _ _ d.2 p G (.fz .non) Fresh.nil
   ·exact d.elim
 ·exact h.elim⟩
def bk(i ix:Nat)(ρ:FSt)(k:FSt->Prop):Prop:=match ρ[i]? with
 | some (some (.obh os b))=>(match ρ[ix]? with
  |some (some (.ob o))=>o.a=b/\k ((ρ.set ix none).set i (some (.obs (o::os))))
  |_=>False)
 |_=>k ρ
theorem Rel.bk{k:FSt->Prop}(R:Rel K F Z H σ ρ A)(h:L2.bk i ix ρ k):∃c A',Rel K F Z H σ c A'/\k c:=by
 unfold L2.bk at h;split at h
 ·rename_i os b e;split at h
  ·rename_i o l;obtain⟨rfl,h⟩:=h;obtain⟨v,B,A',h1,h2,r,d,pm⟩:=R.takeI l;have j:ix≠i:=λz=>by rw[z,e] at l;cases l
   have n:(ρ.set ix none)[i]?=some (some (.obh os o.a)):=by rw[List.getElem?_set_ne j];exact e
   obtain⟨w,B2,g1,g2,nd,mA,mk⟩:=r.chg n
   cases h2 with
   | ob h2=>
    cases g2 with
    | @obh a _ xs _ B2 m ho=>
     have ex:=h2.at_;subst ex;have na:a∉B:=λz=>(d.fr a z).2.2 (mA a (aab ..))
     obtain⟨s,p⟩:=mk H (.obs (o::os)) (a::(B++B2)) (λ_ _ _ q=>q) (.obs m (.cons h2 ho)) (abJ.mpr ⟨λz=>(abA.mp z).elim na (abJ.mp nd).1,abN.mpr ⟨d.nd,(abJ.mp nd).2,λy g t f z=>(d.fr y g).2.2 (mA y (aae _ (z ▸ f)))⟩⟩)
      (λy g=>by
       rcases abH.mp g with z|z
       ·exact .inl (z ▸ aab ..)
       ·exact(abA.mp z).elim (λz=>.inr (d.fr y z)) λz=>.inl (aae _ z))
     exact⟨_,s,p,h⟩
  ·exact h.elim
 ·exact⟨ρ,A,R,h⟩
def tW(i ix:Nat)(f:FS):FS:=λE ρ=>bk i ix ρ λa=>f E a
theorem yh{t:TS}{f:FS}(h:SF K n m t f):SF K n m t (tW i ix f):=⟨λR p E q=>by
 obtain⟨a,A',c,b⟩:=R.bk q;exact h.h c p E b⟩
def Ji(i ix:Nat)(f:FS):FS:=λE ρ=>f { E with nx:=λρ=>bk i ix ρ E.nx,ct:=λρ=>bk i ix ρ E.ct } ρ
theorem Es{t:TS}{f:FS}(h:SF K n m t f):SF K n m t (Ji i ix f):=⟨fun {F Z H σ0 σ ρ A D g} R p E q=>h.h (fD:={ g with nx:=λρ=>bk i ix ρ g.nx,ct:=λρ=>bk i ix ρ g.ct }) R p ⟨λF' H' a c A' s j e h'=>by
  obtain⟨b,k,R2,d⟩:=j.bk h';exact E.nx _ _ _ _ _ s R2 e d,E.rt,E.bk,λF' H' a c A' s j e h'=>by
  obtain⟨b,k,R2,d⟩:=j.bk h';exact E.ct _ _ _ _ _ s R2 e d⟩ q⟩
end
section
variable {K:Frag}     
def Jj(fa:FA):FE:=λρ Q=>fa ρ λc b=>match takeL c b with
 | some (os,a)=>∀as:Nat->Addr,(match tR as 0 os with
  |some ps=>ps.length<=sizeLine/\Q (.ov (.ot ps)) a
  |none=>False)
 |none=>False
theorem Et(r:AF K μ t fa):EF K μ (KJ t) (Jj fa):=⟨by
 intro F Z H B σ ρ A Q P l R h q;refine r.h l R h λD k vs y H1 L I h1 m x v1 f1=>?_;split at h1
 ·rename_i os g e;obtain⟨C,J,R2,d,f2,E,G⟩:=x.takeL v1 f1 e;have h2:=h1 λj=>adr (vs.getD j .non);split at h2
  ·rename_i ps ep;have w:=d.parts (i:=0) (λj v n=>by rw[aba,List.getD_eq_getElem?_getD,n];rfl) ep;refine⟨by rw[w.length];exact h2.1,λp hp=>?_⟩;have s:=R2.step (Pure.frz (o:=.tup vs) R2.fh hp);have np:p∉C:=λz=>by obtain⟨u,hu⟩:=d.live p z;rw[hp] at hu;cases hu
   have f:y p=none:=R2.fh.free hp;refine q _ _ _ _ _ _ _ h2.2 (m.trans (bO f)) s (.ot af (w.keep (bO f) λa u _ h=>bO hp a u h)) ⟨f2.nd,λb c=>⟨?_,(f2.fr b c).2⟩⟩;rw[ai (show b≠p from λz=>np (z ▸ c))];exact(f2.fr b c).1
  ·exact h2.elim
 ·exact h1.elim⟩
theorem oq{l:List α}{x:α}(h:l[k]?=some x):atI l (k:Int)=some x:=by
 have:=(List.getElem?_eq_some_iff.mp h).1;unfold atI ixN;rw[if_pos (Int.natCast_nonneg k),if_pos (by nofun)];exact h
def Jk(c k:Nat)(fe:FE):FE:=λρ Q=>fe ρ λr a=>match r with
 | .ov (.ob ⟨_,b,ps⟩)=>(match Nat.beq b c with
  | true=>(match ps[k]? with
   |some g=>Q (.ov (.fz (hJ g))) a
   |none=>False)
  |false=>False)
 |_=>False
theorem Eu(hC:ClsF K c C)(m:(b4 c)[k]?=some f)(he:EF K μ te fe):EF K μ (wA K te f) (Jk c k fe):=⟨by
 intro F Z H I σ ρ A Q P t R h q;refine he.h t R h λr s v L H1 S O d u G v1 f1=>?_;split at d
 ·rename_i a o ps;split at d
  ·rename_i E;obtain rfl:o=c:=abq E;split at d
   ·rename_i g n
    cases v1 with
    | ob v1=>
     cases v1 with
     | @mk _ p dx _ fs _ B D j e hl hp=>
      have:p=C:=by have:=j.symm.trans hC.ns;cases this;rfl
      subst this;have y:k<ps.length:=(List.getElem?_eq_some_iff.mp n).1;obtain⟨x,M,N,g1,g2,i,_⟩:=hp.at_ n;obtain⟨J,l,R2,w,_⟩:=G.grow g2.live λb z=>f1.fr b (aae _ (i.mem_iff.mpr (abA.mpr (.inl z))));exact⟨a,p,dx,fs,x,rfl,D,hC.cl,hC.na f (List.mem_of_getElem? m),tT (k:=k) (by rw[e];exact(aa1 ..).nodup (dq o)) (by rw[e];exact gg m y) g1,q _ _ _ _ _ _ _ d (u.trans l) R2 (.fz (g2.freeze l w)) Fresh.nil⟩
   ·exact d.elim
  ·exact d.elim
 ·exact d.elim⟩
end
section
variable  {o value:Expr}   {pos' tpos apos:Pos} {ta:TE}    {ps:List Str} {sp:Sp}
theorem Jl(K:Frag)(he:BE X e ta)(a:attributeBase e f X.env (eval e X.env)=eval e X.env)(b:X.K=K):BE X (.Attribute e f pos) (wA K ta f):=by subst b;exact⟨GW he.h a⟩
theorem Jm(K:Frag)(b:BE X o ta)(a:BE X value tv)(hs:swapsWith value (some (.Attribute o f pos')) pos.line X.env=pure false)(c:X.K=K):BS X (.Assign [.Attribute o f pos'] value pos) (KI K ta tv f):=by subst c;exact⟨GX b.h a.h hs⟩
theorem Jn(K:Frag)(b:BE X o ta)(a:BE X value tv)(c:X.K=K):BS X (.AugAssign (.Attribute o f tpos) .Add value pos) (mo K ta tv Lu f):=by subst c;exact⟨rG b.h a.h GY⟩
structure OwnM(P:Program)(w:World)(K:Frag)(mg:Str->Option Value)(base:Heap)(C:Addr)(x:Str)(k:Nat)(ps:List Str)(sp:Sp):Prop where
 ex:∃(f:Addr) (fd:FuncData),FnOk P w K mg base CX0 k f fd ps sp/\Meth K C x f/\Binds K fd ps []
theorem Jo{m:Str}(O:OwnM X.prog X.w X.K X.mg X.base C m k ps sp)(c:Cls X.K C)(hr:Room k X.A)(he:BE X o ta)(i:BA X (e::es) t)(b:(e::es).all a9=true)
  (a:∃pl:Sem Bool,eval (.Call (.Attribute o m apos) (e::es) [] pos) X.env=(do
   let ov ← eval o X.env
   standAt apos.atName
   let (f,first) ← holding [ov] (getMethod ov m pl)
   callWith pos f first (backTo pos (starEach (e::es) X.env)) (backToKw pos (keywordEach [] X.env)))):BE X (.Call (.Attribute o m apos) (e::es) [] pos) (mq C m sp [] E0 ta t):=by
 obtain⟨f,fd,F,d,g⟩:=O.ex;obtain⟨pl,a⟩:=a;have h:=b;rw[aaJ,abP] at h;exact⟨Cg (pl:=pl) he.h c d F hr g .nil wU i.h (aT h.1) (cT h.2) a⟩
theorem Ew{m:Str}(O:OwnM X.prog X.w X.K X.mg X.base C m k ps sp)(c:Cls X.K C)(hr:Room k X.A)(he:BE X o ta)
  (a:∃pl:Sem Bool,eval (.Call (.Attribute o m apos) [] [] pos) X.env=(do
   let ov ← eval o X.env
   standAt apos.atName
   let (f,first) ← holding [ov] (getMethod ov m pl)
   callWith pos f first (backTo pos (starEach [] X.env)) (backToKw pos (keywordEach [] X.env)))):BE X (.Call (.Attribute o m apos) [] [] pos) (mq C m sp [] E0 ta kB):=by
 obtain⟨f,fd,F,b,d⟩:=O.ex;obtain⟨pl,a⟩:=a;exact⟨wB (pl:=pl) he.h c b F hr d .nil wU a⟩
structure OwnI(P:Program)(w:World)(K:Frag)(mg:Str->Option Value)(base:Heap)(x:Str)(C:Addr)(k:Nat)(ps:List Str)(sp:Sp):Prop where
 ex:∃(f:Addr) (fd:FuncData),FnOk P w K mg base CX0 k f fd ps sp/\Mk K C f/\mg x=some (.ref C)/\Binds K fd ps []
theorem Mp(O:OwnI X.prog X.w X.K X.mg X.base x C k ps sp)(hr:Room (k+1) X.A)(j:BA X (e::es) t)(g:X.env.kindOf x=some .globalImplicit)(c:(e::es).all a9=true)(a:(x==("__debug__" : Str))=false):BE X (.Call (.Name x p) (e::es) [] pos) (Ce C sp [] E0 t):=by
 obtain⟨f,fd,F,d,b,i⟩:=O.ex;have h:=c;rw[aaJ,abP] at h;exact⟨Ch d F hr g b i .nil wU j.h a (aT h.1) (cT h.2)⟩
theorem Jp{t:TE}(K:Frag)(h:BE X (.Attribute o f pos) t)(a:X.K=K):BT X (.Attribute o f pos) (LQ K t):=by subst a;exact⟨nE h.h (λ_=>rfl)⟩
theorem Jq(K:Frag)(h:X.K=K):BMt X "list.pop" G8:=⟨G9⟩
theorem yi:BE X (.Dict [] [] pos) rT:=⟨wK⟩
theorem Ex(hu:X.A.units+64<cLine)(ho:BE X o td)(he:BE X e ty)(m:M1 X o "get" apos e pos):BE X (.Call (.Attribute o "get" apos) [e] [] pos) (rV td ty):=⟨wN (by nofun) ho.h he.h m⟩
end
theorem tX:typeLookup (.type "list") "keys" = pure none:=am_miss_of_fast (by decide +kernel)
section
variable   {A:Around}  
theorem Ey{xs:Array Value}(hx:s.heap.get? a=some o)(l:o.cls=.type "list")(f:o.data=.seq xs k)(hd:o.dict=none)(n:A.handled=none)
  (h:∀h' tk,(∀b u,s.heap.get? b=some u->h'.get? b=some u)->Q none { s with heap:=h',toks:=tk }):wpAny (model prog w) A (getAttr? (.ref a) "keys") Q E s:=by
 obtain⟨c,dct,p,sl⟩:=o;simp only at l f hd;subst l f hd;obtain⟨hp,g,d,tk,os⟩:=s;have m:∀i,(⟨hp,g,d,i,os⟩:Shared).TypeIs (.ref a) "list" := λ_=>⟨_,hx,rfl⟩;have f1:=sub_AttributeError;have v:=F.slot_list_getattribute.lookup;have t:=F.slot_list_getattribute.bind (.ref a);have r:=am_list_getattr_none;unfold getAttr? getAttrBy? getAttrBy
 repeat (any_goals (first|assumption|exact m _|((with_reducible show wpAny _ _ (call (Value.builtin "list.__getattribute__") _ _) _ _ _);refine call_meets F.slot_list_getattribute (m _) am_entry_list_getattribute (F.args_list_getattribute_2 _ _) (meets_getattribute_miss_list a xs k sl "keys" _ tX (by decide +kernel) (by decide +kernel)) ⟨hx,n,λh' i e j=>?_⟩)|wp_step))
 obtain⟨t',q,he⟩:=j.there;show wpAny _ _ (getattributeRaised _ _ _ _ _ _ _) _ _ _;unfold getattributeRaised
 repeat (any_goals (first|assumption|wp_step))
 exact h _ _ j.keeps
theorem ou:entryFor table "dict.update.loop" = some Builtin.«dict.update.loop»:=entryFor_of_tree (by kernel_rfl)
theorem gH:plainId "dict.update.loop" = true:=by decide +kernel
variable  [DecidableEq K] {knd:KeyKind prog w K}
def yj(kv:Nat->K×Value)(i:Nat):List (K×Value):=((List.range i).map kv).foldl (λm p=>stored m p.1 p.2) []
theorem il(kv:Nat->K×Value)(i:Nat):yj kv (i+1)=stored (yj kv i) (kv i).1 (kv i).2:=by
 unfold yj;rw[List.range_succ,aad,abo];rfl
theorem qp{t:Addr}{k v:Value}{m:Nat}{Q:List Value->Shared->Prop}(h1:s.heap.get? t=some o)(h2:o.cls=.type "tuple")(a:o.data=.seq #[k,v] m)(h:Q [k,v] s):wpAny (model prog w) A (Builtin.Dict.pairItems (.ref t)) Q E s:=by
 obtain⟨c,dct,b,sl⟩:=o;simp only at h2 a;subst h2 a;obtain⟨hp,g,d,tk,os⟩:=s;have e:(⟨hp,g,d,tk,os⟩:Shared).TypeIs (.ref t) "tuple" := ⟨_,h1,rfl⟩;unfold Builtin.Dict.pairItems
 repeat (any_goals (first|assumption|wp_step))
theorem ox(kv:Nat->K×Value):∀i,(yj kv i).length<=i
 |0=>aac _
 |i+1=>by rw[il];exact aas (stored_length_le ..) (Nat.succ_le_succ (ox kv i))
theorem tY{R:Result->Shared->Prop}{I:Addr}{fp c:List Addr}{G:Array GenState->Array GenState->Prop}{P:Nat->Value->Prop}{St:Nat->Shared->Prop}(W:WalksS prog w A.in1 I fp c G n P St)(d:Addr)(D:d∉fp)
  (kv:Nat->K×Value) (hn:n<=sizeLine):∀(k i:Nat) (s:Shared),n - i=k->i<=n->St i s ->
   (∀i v,P i v->∃t o key m,v=.ref t/\s.heap.get? t=some o/\o.cls=.type "tuple" /\ o.data=.seq #[key,(kv i).2] m/\knd.is (kv i).1 key=true/\t∉d::c)->s.heap.DictOf knd d (yj kv i) ->
   (∀s',Moved (d::c) G s s'->s'.heap.DictOf knd d (yj kv n)->R (.ok (.ret .none)) s') ->
   codeAny (model prog w) A (.builtin "dict.update.loop" ⟨[.ref d,.ref I,rawInt i,.none],[]⟩) R s:=by
 have F:d∉c:=λh=>D (W.sub _ h);have a:∀b∈c,b∈d::c:=λb l=>aae _ l;intro k
 induction k with
 | zero=>
  intro i s U hi f L N O;obtain rfl:i=n:=by nofun
  refine codeAny_builtin ou ?_;rw[aaZ gH _];show wpAny _ A.in1 (pyNext (.ref I) >>= _) _ _ s;refine aaa (W.done s _ _ f λs' B=>?_);show wpAny _ A.in1 (Builtin.Dict.addKeywords d [] >>= λ_=>ret Value.none) _ _ s';obtain⟨o,es,ep,ho,r⟩:=N;exact aaa (aaf (aaf (O s' (B.mono a) ⟨o,es,ep,B.heap d o F ho,r⟩)))
 | succ k T=>
  intro i s U hi f L N O;have C:i<n:=by nofun
  refine codeAny_builtin ou ?_;rw[aaZ gH _];show wpAny _ A.in1 (pyNext (.ref I) >>= _) _ _ s;refine aaa (W.item i s _ _ C f λv s' X x B=>?_);obtain⟨t,o,key,m,rfl,h1,h2,h3,Z,Y⟩:=L i v X;have keep:∀b u,b∉c->s.heap.get? b=some u->s'.heap.get? b=some u:=λb u l q=>B.heap b u l q
  have M:s'.heap.DictOf knd d (yj kv i):=by
   obtain⟨o,es,ep,ho,r⟩:=N;exact⟨o,es,ep,keep d o F ho,r⟩
  show wpAny _ A.in1 (holding [Value.ref t] _ >>= _) _ _ s';refine aaa (aaW ?_);refine aaa (wpAny_tryCatch ?_);refine qp (keep t o (λz=>Y (a t z)) h1) h2 h3 ?_;show wpAny _ A.in1 (holding [key,(kv i).2] (dictSet d key (kv i).2)) _ _ s';refine aaW (wpAny_dictSet_pairs Z M (λh' E g=>?_) (aas (ox kv i) (by nofun)));rw[← il] at E;refine aaf ⟨plainId_quiet gH _,T (i+1) _ (by nofun) C (W.frame _ s' _ _ x (aaU _) λb l o e=>?_) (λj v V=>?_) E λJ y H=>?_⟩
  ·rw[g.2 b (λh:b=d=>D (by rw[← h];exact l))];exact e
  ·obtain⟨t',o',p,S,e1,e2,e3,e4,e5,Q⟩:=L j v V;exact⟨t',o',p,S,e1,(g.2 t' λz=>Q (z ▸ aab ..)).trans (keep t' o' (λz=>Q (a t' z)) e2),e3,e4,e5,Q⟩
  ·refine O J (Moved.trans W.gtrans ((B.mono a).then_heap (aaU _) λb o l e=>?_) y) H;rw[g.2 b (λh:b=d=>l (by rw[h];exact aab))];exact e
theorem lp{l:Addr}{ol:Obj}{items:Array Value}{nl:Nat}{Q:Value->Shared->Prop}(hl:s.heap.get? l=some ol)(n:ol.cls=.type "list")(c:ol.data=.seq items nl)(B:ol.dict=none)(hh:A.handled=none)(kv:Nat->K×Value)
  (L:∀(i:Nat) v,items[i]?=some v->∃t o key m,v=.ref t/\s.heap.get? t=some o/\o.cls=.type "tuple" /\ o.data=.seq #[key,(kv i).2] m/\knd.is (kv i).1 key=true) (J:items.size<=sizeLine)
  (h:∀h' tk,h'.DictOf knd s.heap.objs.size (yj kv items.size)->(∀b o,s.heap.get? b=some o->h'.get? b=some o)->Q (.ref s.heap.objs.size) { s with heap:=h',toks:=tk }) :
  wpAny (model prog w) A (call (.type "dict") [.ref l]) Q E s:=by
 refine callType_codes (Q₁:=λobj d=>obj=.ref s.heap.objs.size/\d={ s with heap:=s.heap.push { cls:=.type "dict", data:=.dict #[] } }) F.kt_called_dict (F.kt_typeCall_dict_1 _) F.entry_dict_init (kt_code_dict_new _ ⟨rfl,rfl⟩) ?_;rintro obj d ⟨rfl,rfl⟩;have a:(s.heap.push { cls:=.type "dict", data:=.dict #[] }).DictOf knd s.heap.objs.size []:=Heap.DictOf.new s.heap;have g:(s.heap.push { cls:=.type "dict", data:=.dict #[] }).get? l=some ol:=Heap.get?_push_of_some _ hl;refine⟨a.typeIs,F.args_dict_init_2 _ _,?_⟩;unfold Builtin.«dict.__init__»;refine aaa ?_;unfold Builtin.Dict.selfAndRest;refine aaa (wpAny_notOrdered_dict a.typeIs ?_);show wpAny _ _ (pure (s.heap.objs.size,[Value.ref l])) _ _ _;refine aaf ?_;show wpAny _ _ (Builtin.Dict.updateFrom "dict.__init__" s.heap.objs.size (.ref l) [] .none) _ _ _;unfold Builtin.Dict.updateFrom;refine aaa (wpAny_typeOf (T := "list") ⟨ol,g,n⟩ ?_);rw[if_pos (by decide)];refine aaa (Ey g n c B (by simp[hh]) λh1 H y=>?_);rw[if_pos (show (none:Option Value).isNone=true from rfl)];refine aaa (wpAny_rule ?_);have f:h1.get? l=some ol:=y l ol g;refine aaa (wpAny_pyIter_list (items:=items) ⟨ol,f,n,nl,c⟩ ?_)
 have j:h1.DictOf knd s.heap.objs.size []:=by
  obtain⟨o,es,ep,ho,r⟩:=a;exact⟨o,es,ep,y _ _ ho,r⟩
 have e:s.heap.objs.size<h1.objs.size:=by
  obtain⟨o,es,ep,ho,r⟩:=j;exact aag ho
 have z:l<s.heap.objs.size:=aag hl;have up:∀b u,s.heap.get? b=some u->h1.get? b=some u:=λb u q=>y b u (Heap.get?_push_of_some _ q);refine aaf ⟨plainId_quiet gH _,tY (knd:=knd) (A:=A.in1) ((Walks.list (by simp[hh]) _ l (aak (aag f)) items).toS) s.heap.objs.size ?_ kv J (items.size - 0) 0 _ rfl (aan _) ?_ ?_ ?_ ?_⟩
 ·simp only[List.mem_cons,List.not_mem_nil,or_false,not_or];exact⟨aak e,Nat.ne_of_gt z⟩
 ·exact⟨⟨_,Heap.get?_push_size _ rfl,rfl,rfl⟩,⟨ol,Heap.get?_push_of_some _ f,n,nl,c⟩⟩
 ·intro i v I;obtain⟨t,o,key,m,U,G,S,R,P⟩:=L i v I;refine⟨t,o,key,m,U,Heap.get?_push_of_some _ (up t o G),S,R,P,?_⟩;simp only[List.mem_cons,List.not_mem_nil,or_false,not_or];have:=aag G;exact⟨aak this,aak (Nat.lt_trans this e)⟩
 ·exact j.push _
 ·intro s' k C;obtain⟨h',g',V,p,x⟩:=s';have N:g'=s.gens:=k.gens;have O:V=s.drawn:=k.drawn;have M:x=s.os:=k.os;subst N O M;refine⟨rfl,h h' p C λb o q=>?_⟩;have D:=aag q;refine k.heap b o ?_ (Heap.get?_push_of_some _ (up b o q));simp only[List.mem_cons,List.not_mem_nil,or_false,not_or];exact⟨aak D,aak (Nat.lt_trans D e)⟩
end
theorem qr[DecidableEq K]{L:List (K×Value)}{d:K×Value}(g:(L.map (·.1)).Nodup):∀i,i<=L.length->yj (λi=>L.getD i d) i=L.take i:=by
 intro i
 induction i with
 |zero=>intro _;rfl
 | succ i f=>
  intro hi;rw[il,f (by nofun)];have he:L[i]?=some (L.getD i d):=by rw[List.getD_eq_getElem?_getD,List.getElem?_eq_getElem (by nofun)];rfl
  have a:(L.take i).any (λe=>decide (e.1=(L.getD i d).1))=false:=by
   rw[List.any_eq_false];intro p hp;rw[decide_eq_true_eq];intro z;obtain⟨j,c⟩:=List.mem_iff_getElem?.mp hp;have b:j<i:=by have:=(List.getElem?_eq_some_iff.mp c).1;rw[abD] at this;nofun
   rw[List.getElem?_take_of_lt b] at c;have l:(L.map (·.1))[j]?=some p.1:=by rw[List.getElem?_map,c];rfl
   have k:(L.map (·.1))[i]?=some p.1:=by rw[List.getElem?_map,he,z];rfl
   have:=(List.getElem?_inj (by rw[abz];nofun) g).mp (l.trans k.symm);nofun
  unfold stored;rw[a,if_neg (by decide),List.take_add_one,he];rfl
def tZ(K:Frag):List V->Hp->VK->Prop:=λxs H Q=>∃(l:Addr) (rows:List (Addr×Str×V)),xs=[.ref l]/\SqL K H l (rows.map λr=>.ref r.1)/\(∀r∈rows,SqT K H r.1 [.str r.2.1,r.2.2])/\(rows.map (·.2.1)).Nodup /\
 ∀p,H p=none->Q (.ref p) (upd H p (.dK (rows.map λr=>(.inr r.2.1,r.2.2))))
theorem Ez{pins:List (Addr×Obj)}(I:Inv X pins σ H s):∀{rows:List (Addr×Str×V)},(∀r∈rows,SqT X.K H r.1 [.str r.2.1,r.2.2]) ->
  ∃L:List (Key×Value),KV (rows.map λr=>((.inr r.2.1:Key),r.2.2)) L/\∀(i:Nat) r,rows[i]?=some r->∃o key val m,s.heap.get? r.1=some o/\o.cls=.type "tuple" /\ o.data=.seq #[key,val] m/\L[i]?=some (.inr r.2.1,val)/\(ax X.prog X.w).is (.inr r.2.1) key=true:=by
 intro rows
 induction rows with
 |nil=>exact λ_=>⟨[],.nil,λi r h=>nomatch h⟩
 | cons r rows e=>
  intro h;obtain⟨L,h1,h2⟩:=e λx a=>h x (aae _ a);obtain⟨its,b,⟨o,j,g,n,f⟩,_⟩:=I.tuple (h r (aab ..));obtain⟨key,val,rfl,d,c⟩:=wx b;refine⟨(.inr r.2.1,val)::L,.cons ⟨rfl,c⟩ h1,λi x a=>?_⟩
  cases i with
  |zero=>cases a;exact ⟨o,key,val,n,j,g,f,rfl,iT (k:=.inr r.2.1) d⟩
  |succ i=>exact h2 i x a
theorem qt(F:X.calm=true):CallR X (.type "dict") (tZ X.K):=by
 intro pins s σ H xs us Q I r h;obtain⟨l,rows,rfl,h1,h2,G,q⟩:=h;obtain⟨u,rfl,A⟩:=fE r;cases A;obtain⟨its,j,⟨ol,nl,P,O,N,M⟩,p⟩:=I.list h1;obtain⟨L,n,k⟩:=Ez I h2;have R:L.length=rows.length:=by have:=n.length;rw[abz] at this;exact this.symm
 have hi:its.length=rows.length:=by have:=j.length;rw[abz] at this;exact this.symm
 rw[abz] at p
 have E:L.map (·.1)=rows.map λr=>(.inr r.2.1:Key):=by
  apply List.ext_getElem?;intro i;rw[List.getElem?_map,List.getElem?_map]
  cases e:rows[i]? with
  | none=>
   have:L[i]?=none:=by rw[List.getElem?_eq_none_iff] at e ⊢;nofun
   rw[this];rfl
  | some r=>
   obtain⟨_,_,val,_,_,_,_,K,_⟩:=k i r e;rw[K];rfl
 have D:(L.map (·.1)).Nodup:=by
  rw[E];have:(rows.map λr=>(.inr r.2.1:Key))=(rows.map (·.2.1)).map Sum.inr:=by rw[aau];rfl
  rw[this];exact List.Pairwise.map _ (λa b (z:a≠b) y=>z (aa8 y)) G
 refine lp (knd:=ax X.prog X.w) P O M N (I.ok.hd F) (λi=>L.getD i (.inl 0,.none)) (λi v t=>?_) (by rw[abK];nofun) λh' tk x g=>?_
 ·have c:its[i]?=some v:=by rw[← Array.getElem?_toList] at t;exact t
  have d:i<rows.length:=by have:=(List.getElem?_eq_some_iff.mp c).1;nofun
  obtain⟨o,key,val,m,g1,g2,g3,w,J⟩:=k i _ (List.getElem?_eq_getElem d);have C:(rows.map λr=>V.ref r.1)[i]?=some (.ref (rows[i]).1):=by rw[List.getElem?_map,List.getElem?_eq_getElem d];rfl
  obtain⟨u,hu,B⟩:=j.get C;rw[c] at hu;cases hu;refine⟨_,o,key,m,B,g1,g2,?_,?_⟩
  ·rw[List.getD_eq_getElem?_getD,w];exact g3
  ·rw[List.getD_eq_getElem?_getD,w];exact J
 ·have f:its.toArray.size=L.length:=by rw[abK];nofun
  rw[f,qr D L.length (aac _),List.take_length] at x;refine⟨.ref s.heap.objs.size,_,I.laid (a:=s.heap.objs.size) (o:=.dK (rows.map λr=>(.inr r.2.1,r.2.2))) (t':=tk) g (aac _) (gW (by rw[abz];exact p) (beq_eq_false_iff_ne.mpr (Ne.symm (aak I.big))) n x),rfl,q _ (I.hok.fresh (aac _))⟩
theorem yk(K:Frag)(a:X.calm=true)(h:X.K=K):BCall X (.type "dict") (tZ K):=by subst h;exact⟨qt a⟩
section
variable {K:Frag}
def mS:List D->Option (List (Str×D))
 |[]=>some []
 | .tup [.str z,d]::ds=>(match mS ds with
  |some r=>some ((z,d)::r)
  |none=>none)
 |_=>none
def jv:List D->(OV->Prop)->Prop
 | [.lst ds],P=>(match mS ds with
  |some a=>(a.map (·.1)).Nodup/\P (.fd (a.map fun r=>.inr r.1) (a.map (·.2)))
  |none=>False)
 |_,_=>False
theorem t0(s:Same F H):∀{ds:List D} {xs:List V} {b:List (Str×D)},Dens K F xs ds->mS ds=some b->∃rows:List (Addr×Str×V),xs=rows.map (λr=>.ref r.1)/\(∀r∈rows,SqT K H r.1 [.str r.2.1,r.2.2])/\rows.map (·.2.1)=b.map (·.1)/\Dens K F (rows.map (·.2.2)) (b.map (·.2)):=by
 intro ds
 induction ds with
 |nil=>intro xs b h e;cases h;cases e;exact⟨[],rfl,(λ_ z=>nomatch z),rfl,.nil⟩
 | cons d ds j=>
  intro xs b h e
  cases h with
  | @cons x _ xs _ h t=>
   unfold mS at e;split at e
   ·rename_i heq;cases heq
   ·rename_i z o n heq;cases heq;split at e
    ·rename_i r m;cases e;obtain⟨rows,rfl,h2,l,k⟩:=j t m
     cases h with
     | @tup a ys _ f hd=>
      cases hd with
      | cons i c=>
       cases c with
       | @cons v _ _ _ c g=>
        cases g;rw[i.str_eq] at f;refine⟨(a,z,v)::rows,rfl,λr hr=>?_,by rw[abC,abC,l],.cons c k⟩;rcases abH.mp hr with y|y
        ·rw[y];exact SqT.of (s _ _ f)
        ·exact h2 r y
    ·cases e
   ·cases e
theorem yl:CallF K (tZ K) jv:=⟨by
 intro F H xs ds Q P s e f n;unfold jv at f;split at f
 ·rename_i j;split at f
  ·rename_i c i;obtain⟨x,rfl,d⟩:=cu e;obtain⟨a,ys,rfl,h1,h2⟩:=d.asL s;obtain⟨rows,rfl,g2,g3,g⟩:=t0 s h2 i;refine⟨a,rows,rfl,h1,g2,by rw[g3];exact f.1,λq b=>n _ (.ref q) F _ [q] f.2 (Pure.new s b) (.fd af ?_ ?_) (New.one b (s.free b))⟩
   ·rw[aau];have:(rows.map (·.2.1)).map (Sum.inr (α:=Int))=(c.map (·.1)).map Sum.inr:=by rw[g3]
    rw[aau,aau] at this;exact this
   ·rw[aau];exact g
  ·exact f.elim
 ·exact f.elim⟩
end
section
variable {K:Frag}     
def t3:FE:=λρ Q=>Q (.ov (.ft [] [])) ρ
theorem ym:EF K μ rT t3:=⟨by
 intro F Z H e σ ρ A Q P f R h q p hp;have c:F p=none:=R.fh.free hp;exact R.after (P:=λo=>P (.ov o) ρ) (λo v i g B p a d b fr=>q _ _ _ _ _ _ _ p a d b fr) _ _ F _ [p] h (Pure.new R.fh hp) (.ft af rfl .nil) (New.one hp c)⟩
def t4(ks:List (List Key))(ds:List D)(k:List Key)(d:D):List (List Key)×List D:=
 if tm ks k=true then (ks,(ks.zip ds).map λa=>if a.1=k then d else a.2) else (ks++[k],ds++[d])
theorem t5{ys:List (List Key×V)}{k:List Key}(e:ys.map (·.1)=ks)(dn:Dens K F (ys.map (·.2)) ds)(g:Den K F v d):(gx ys k v).map (·.1)=(t4 ks ds k d).1/\Dens K F ((gx ys k v).map (·.2)) (t4 ks ds k d).2:=by
 unfold t4 gx;have f:tm ks k=(ys.any λb=>decide (b.1=k)):=by rw[← e,tm,ab5];rfl
 by_cases c:tm ks k=true
 ·have a:(ys.any λb=>decide (b.1=k))=true:=f ▸ c;rw[if_pos a,if_pos c];constructor
  ·rw[aau,← e];refine aa3 λb _=>?_;show (if b.1=k then (b.1,v) else b).1=b.1;split <;> rfl
  ·subst e;clear c a f
   induction ys generalizing ds with
   |nil=>cases dn;exact .nil
   | cons y ys i=>
    cases dn with
    | cons l j=>
     refine .cons ?_ (i j);show Den K F (if y.1=k then (y.1,v) else y).2 (if y.1=k then d else _);split
     ·exact g
     ·exact l
 ·have a:¬(ys.any λb=>decide (b.1=k))=true:=f ▸ c;rw[if_neg a,if_neg c];refine⟨by rw[aad,e];rfl,?_⟩;rw[aad];exact dn.snoc g
def unT(ρ:FSt)(i:Nat):Option (List (List Key)×List D):=match ρ[i]? with
 |some (some (.ft ks ds))=>some (ks,ds)
 |_=>none
theorem Rel.mutT(R:Rel K F Z H σ ρ A)(h:unT ρ i=some (ks,ds)):∃a ys,σ[i]?=some (some (.ref a))/\H a=some (.dT ys)/\ys.map (·.1)=ks/\Dens K F (ys.map (·.2)) ds /\
  ∀b c d,b.map (·.1)=c->Dens K F (b.map (·.2)) d->∃A',Rel K F Z (upd H a (.dT b)) σ (ρ.set i (some (.ft c d))) A':=by
 have e:ρ[i]?=some (some (.ft ks ds)):=by
  unfold unT at h;split at h
  ·rename_i e;cases h;exact e
  ·cases h
 obtain⟨v,B,h1,h2,nd,mA,mk⟩:=R.chg e
 cases h2 with
 | @ft a ys _ _ l k dn=>
  refine⟨a,ys,h1,l,k,dn,λb c d g j=>mk _ _ [a] (λy u f q=>by rw[ai (show y≠a from λz=>f (z ▸ aab ..))];exact q) (.ft af g j) nd λy f=>.inl f⟩
def t6(i:Nat)(fe fk:FE):FS:=λE ρ=>fe ρ λr c=>match fzR r c with
 | some (d,b)=>(unT b i).isSome=true/\fk b λs a=>on1 a s λf=>(match f with
  | .tup e=>(match i7 e,unT a i with
   |some k,some (ks,ds)=>ks.length<sizeLine/\E.nx (a.set i (some (.ft (t4 ks ds k d).1 (t4 ks ds k d).2)))
   |_,_=>False)
  |_=>False)
 |none=>False
theorem yn(he:EF K (List.range n) tv fe)(L:EF K (List.range n) ty fk):SF K n m (wH (dD i) ty tv) (t6 i fe fk):=⟨by
 intro F Z H σ0 σ ρ A D fD R p E h;refine he.h (View.id p.1) R h λr x v F1 H1 A1 B1 e B X v1 f1=>?_;split at e
 ·rename_i d u S;obtain⟨F2,A2,z,R2,U,_,_⟩:=X.frz v1 f1 S;obtain⟨N,e⟩:=e;obtain⟨⟨J,V⟩,T⟩:=abR.mp N;obtain⟨a,xs,h1,h2,h3,_⟩:=R2.mutT T;refine⟨.ref a,h1,?_⟩;refine L.h (View.id p.1) R2 e λs t w F3 H3 A3 B3 I q o y f3=>?_;obtain⟨dk,O,c⟩:=bW I;split at c
  ·rename_i Y;split at c
   ·rename_i k ks ds P Q;obtain⟨a',ys,g,l,f,j,mt⟩:=o.mutT Q;rw[h1] at g;cases g;obtain⟨b,rfl,M⟩:=jZ o.fh (o.acc y O) P;obtain⟨G,C⟩:=t5 (k:=k) f j (U.mono q);obtain⟨A4,W⟩:=mt (gx ys k v) _ _ G C;have hl:ys.length=ks.length:=by rw[← f,abz]
    exact⟨a,_,rfl,.inr ⟨ys,k,b,l,rfl,M,by rw[hl];exact c.1,rfl⟩,E.nx _ _ _ _ _ ((B.trans z).trans q) W p c.2⟩
   ·exact c.elim
  ·exact c.elim
 ·exact e.elim⟩
def EA(c fk:FE):FE:=λρ Q=>c ρ λr b=>on1 b r λf=>(match f with
 | .dct _ _=>fk b λs a=>on2 a r s λd e=>(match d,lc e with
  |.dct ks ds,some k=>Q (.ov (.fz ((ie ks ds k).getD .non))) a
  |_,_=>False)
 |_=>False)
theorem EB{ys:List (Key×V)}{ks:List Key}{k:Key}{z:V}{g:D}(c:ys.map (·.1)=ks)(h:Dens K F (ys.map (·.2)) ds)(j:Den K F z g):Den K F ((gw ys k).getD z) ((ie ks ds k).getD g):=by
 cases e:ie ks ds k with
 | some d=>
  obtain⟨v,h1,h2⟩:=j1 c h e;rw[h1];exact h2
 | none=>
  have:gw ys k=none:=by
   have h1:=n9 (k:=k) c
   cases q:gw ys k with
   |none=>rfl
   | some v=>
    rw[q] at h1;have b:qf ks k=true:=h1.symm;unfold qf at b;rw[aaV] at b;obtain⟨x,l,a⟩:=b;rw[decide_eq_true_eq] at a;subst a;unfold ie at e;rw[Option.map_eq_none_iff,List.find?_eq_none] at e;have hl:ks.length=ds.length:=by rw[← c,abz];simpa using h.length
    obtain⟨i,hi⟩:=List.mem_iff_getElem?.mp l;have f:i<ds.length:=by have:=(List.getElem?_eq_some_iff.mp hi).1;nofun
    have:=e (x,ds[i]) (List.mem_iff_getElem?.mpr ⟨i,by rw[List.getElem?_zip_eq_some];exact⟨hi,List.getElem?_eq_getElem f⟩⟩);simp at this
  rw[this];exact j
theorem EC{l:FE}(ho:EF K μ td l)(t:EF K μ ty fk):EF K μ (rV td ty) (EA l fk):=⟨by
 intro F Z H E σ ρ A Q P j R h q;refine ho.h j R h λJ n x S H1 W U h1 r i v1 f1=>?_;obtain⟨L,D,h1⟩:=bW h1;split at h1
 ·obtain⟨a,o,rfl,g1,_⟩:=(i.acc v1 D).asD i.fh;refine⟨a,rfl,.inl ⟨_,g1⟩,?_⟩;obtain⟨N,sz,g,G,back⟩:=i.hold v1.live v1.nt f1;refine t.h j g h1 λI m y O H2 V T h2 c R2 p f2=>?_;obtain⟨b,v,s⟩:=back _ _ _ _ c R2;obtain⟨d,e,C,B,f⟩:=nT h2;split at f
  ·rename_i ks ds k w;obtain⟨M,ys,z,g2,g3,u⟩:=(b.acc (v1.keep c s) C).asD b.fh;cases z;refine⟨gw ys k,by rw[dW (b.acc p B) w];exact DGet.kR g2,q _ _ _ _ _ _ _ f (r.trans c) b (.fz (EB g3 u .non)) Fresh.nil⟩
  ·exact f.elim
 ·exact h1.elim⟩
def fGet2(i fk g:FE):FE:=λρ Q=>i ρ λr c=>on1 c r λl=>(match l with
 | .dct _ _=>fk c λs b=>on1 b s λe=>(match lc e with
  | some k=>g b fun t f=>(match fzR t f with
   | some (j,a)=>on1 a r λd=>(match d with
    |.dct ks ds=>Q (.ov (.fz ((ie ks ds k).getD j))) a
    |_=>False)
   |none=>False)
  |none=>False)
 |_=>False)
def t7(fk fv:FE):FE:=λρ Q=>fk ρ λr a=>on1 a r λd=>(match lc d with
 | some k=>fv a λs c=>(match fzR s c with
  |some (e,b)=>Q (.ov (.fd [k] [e])) b
  |none=>False)
 |none=>False)
theorem yo(t:EF K μ tk fk)(s:EF K μ tv fv):EF K μ (wM [(tk,tv)]) (t7 fk fv):=⟨by
 intro F Z H N σ ρ A Q P c R h q p hp;have M:=R.step (Pure.new (o:=.dK []) R.fh hp);have fp:Fresh F Z A [p]:=R.fresh (New.one hp (R.fh.free hp));obtain⟨V,sz,L,O,back⟩:=M.hold (B:=[p]) (λb u=>⟨.dK [],by rw[abG.mp u];exact af⟩) (.one af (λ_ z=>nomatch z) .nil) fp;refine t.h c L h λT m x Y H1 A1 B1 h1 g R2 v1 f1=>?_;obtain⟨d,D,h2⟩:=bW h1;split at h2
 ·rename_i k C;have w:=dW (R2.acc v1 D) C;refine s.h c R2 h2 λS l y X H2 A2 B2 a f J n f2=>?_;split at a
  ·rename_i U j v;obtain⟨W,A3,e,I,dn,_,_⟩:=J.frz n f2 v;obtain⟨G,i,r⟩:=back _ _ _ _ ((g.trans f).trans e) I;have fb:=i.fr p (aab ..);have E:=G.write (o:=.dK [(k,y)]) fb.2.2 fb.1 fb.2.1;exact⟨r p _ (aab ..) af,[(k,y)],by rw[w];rfl,(by decide:(1:Nat)<=15),q _ _ _ _ _ _ _ a ((g.trans f).trans e) E (.fd af rfl (.cons dn .nil)) i⟩
  ·exact a.elim
 ·exact h2.elim⟩
end
section
variable {K:Frag}        
theorem rg(h:i<n):(List.range n)[i]?=some i:=by simp[h]
theorem ED(hC:ClsF K c C)(h:i<n)(a:(b4 c)[k]?=some f):EF K (List.range n) (wA K (dD i) f) (fT c i k):=Jf hC (rg h) a
theorem yp(hC:ClsF K c C)(h:i<n)(a:(b4 c)[k]?=some f):EF K (List.range n) (wA K (dD i) f) (mR c i k):=El hC (rg h) a
theorem yq(hC:ClsF K c C)(h:i<n)(a:(b4 c)[k]?=some f)(he:EF K (List.range n) te fe):EF K (List.range n) (tBM K "list" dO (wA K (dD i) f) (eP te kB)) (yd c i k fe):=Ei hC (rg h) a he
theorem yr(hC:ClsF K c C)(h:i<n)(a:(b4 c).contains mn=false)(b:AF K (List.range n) t fa):EF K (List.range n) (mq C mn (spM K cc) [] E0 (dD i) t) (dL mn c i cc fa):=Ej hC (rg h) a b
theorem yt(h:i<n):EF K (List.range n) (tCB (Gk K) (eP (dD i) kB)) (ye i):=En (rg h)
theorem t9(h:i<n):EF K (List.range n) (tOp (KU K) (dD i) (tUn (rU λi=>.int (-i)) (tC (.int 1)))) (oo i):=yf (rg h)
theorem yu(h:i<n)(he:EF K (List.range n) te fe):EF K (List.range n) (tBM K "list" dO (dD i) (eP te kB)) (yg i fe):=Er (rg h) he
end
structure DfM(K:Frag)(C:Addr)(x q:Str)(st:Stmt)(f:Addr)(fd:FuncData):Prop where
 me:Meth K C x f
 fn:Fun K x q st f fd
theorem dfm_mk{K:Frag}{f:Addr}{kV:Value}(a:PySem.W.findIn K (.ref C) x=some (some (.ref f)))(i:PySem.W.isFn K (.ref f)=true)
  (l:K.lookup f=some ⟨oc,od,.func (PySem.W.fnOf x q (cz st) (bw st) (am st) .none kV doc pm an cdv ct),osl⟩) (c:PySem.W.codeIn K cdv q=true) (k:PySem.W.keepIn K (.ref f)=true):DfM K C x q st f (PySem.W.fnOf x q (cz st) (bw st) (am st) .none kV doc pm an cdv ct):=⟨⟨a,i,k⟩,AD l c k⟩
theorem Jr{K:Frag}(a:PySem.W.nsIn K mainGlobals (Dl c)=some (some (.ref C)))(pg:PySem.W.plainGet K C Str.empty=true)(hd:PySem.W.hasDictIn K C=true)(po:PySem.W.plainOver K C=true)(sa:PySem.W.findIn K (.ref C) "__setattr__" = some (some (.builtin "object.__setattr__")))(na:∀f∈b4 c,NoAttr K C f):ClsF K c C:=⟨a,⟨pg,hd,po,sa⟩,na⟩
abbrev lq(Z:Zz)(C:Addr)(x:Str)(k:Nat)(ps:List Str)(c:Ct):Prop:=OwnM Z.P Z.w Z.K Z.mg Z.base C x k ps (spM Z.K c)
abbrev Js(Z:Zz)(C:Addr)(x:Str)(k:Nat)(ps:List Str)(c:Ct):Prop:=OwnI Z.P Z.w Z.K Z.mg Z.base x C k ps (spM Z.K c)
section
variable {Z:Zz} {T:Prop} {y:Str}  {f:Addr}  {ps:List Str} {c:Ct}  {h:Heap}
theorem e7(D:DfM Z.K C x q st f fd)(ok:FnOk Z.P Z.w Z.K Z.mg Z.base CX0 k f fd ps (spM Z.K c))
  (a:∀(kV doc pm:Value) (an:Option Addr) (cdv ct:Value) (us:List Value),us.length=ps.length->bindArgs (PySem.W.fnOf x q (cz st) (bw st) (am st) .none kV doc pm an cdv ct) ⟨us,[]⟩=pure (ps.zip us)):lq Z C x k ps c:=⟨f,fd,ok,D.me,D.fn.binds a⟩
theorem EE(t:TopZ Z T)(D:DfM Z.K C "__init__" q st f fd)(a:PySem.W.nsIn Z.K mainGlobals y=some (some (.ref C)))(mk:PySem.W.makesIn Z.K C=true)(b:PySem.W.keepIn Z.K (.ref C)=true)(ok:FnOk Z.P Z.w Z.K Z.mg Z.base CX0 k f fd ps (spM Z.K c))
  (d:∀(kV doc pm:Value) (an:Option Addr) (cdv ct:Value) (us:List Value),us.length=ps.length->bindArgs (PySem.W.fnOf "__init__" q (cz st) (bw st) (am st) .none kV doc pm an cdv ct) ⟨us,[]⟩=pure (ps.zip us)):Js Z C y k ps c:=⟨f,fd,ok,⟨mk,D.me.at_,D.me.fn,b⟩,aaH t.X t.G a,D.fn.binds d⟩
end
section
variable  {P:List α->Prop}
theorem us_1(h:∀a,P [a]):∀us:List α,us.length=1->P us
 |[_],_=>h _
theorem us_2(h:∀a b,P [a,b]):∀us:List α,us.length=2->P us
 |[_,_],_=>h _ _
theorem us_3(h:∀a b c,P [a,b,c]):∀us:List α,us.length=3->P us
 |[_,_,_],_=>h _ _ _
theorem us_4(h:∀a b c d,P [a,b,c,d]):∀us:List α,us.length=4->P us
 |[_,_,_,_],_=>h _ _ _ _
theorem us_5(h:∀a b c d e,P [a,b,c,d,e]):∀us:List α,us.length=5->P us
 |[_,_,_,_,_],_=>h _ _ _ _ _
end
def qu(i j:Int):Prop:=i.natAbs<2 ^ 1000/\j.natAbs<2 ^ 1000
theorem EG:OpR X (binaryOp .Mult) (rI qu λi j=>.int (i*j)):=opI λi j _ _ _ _ _ a q=>mul_int q (.of_le (intBits_le a.1) (intBits_le a.2) (by decide))
theorem yv:BOp X (binaryOp .Mult) (rI qu λi j=>.int (i*j)):=⟨EG⟩
def ua(i j:Int):Prop:=0<=j/\j<=8/\i.natAbs<2 ^ 1000
theorem EH:OpR X (binaryOp .Pow) (rI ua λi j=>.int (i ^ j.toNat)):=opI λi j _ _ _ _ _ a q=>by
 refine pow_int a.1 ?_ q;have b:Builtin.Int.intBits i<=1000:=intBits_le a.2.2;have h2:=a.2.1;have h1:(Builtin.Int.intBits i:Int)*j<=1000*j:=Int.mul_le_mul_of_nonneg_right (by nofun) a.1;nofun
theorem yw:BOp X (binaryOp .Pow) (rI ua λi j=>.int (i ^ j.toNat)):=⟨EH⟩
section
variable {K:Frag}
theorem yx:OpF K (rI qu λi j=>.int (i*j)) (aIC qu λi j=>.int (i*j)):=js λ_ _ _=>.int _
theorem yy:OpF K (rI ua λi j=>.int (i ^ j.toNat)) (aIC ua λi j=>.int (i ^ j.toNat)):=js λ_ _ _=>.int _
end
def mT:V->List V->Hp->VK->Prop:=λx vs H Q=>∃l b xs ys,x=.ref l/\vs=[.ref b]/\H l=some (.dK xs)/\Rd H b (.dK ys)/\l≠b/\xs.length+ys.length<=sizeLine/\Q .non (upd H l (.dK (cI xs ys)))
theorem ub:MtM X "dict.update" mT:=by
 intro pins s σ H x vs v us Q I m n h;obtain⟨l,b,xs,ys,rfl,rfl,g,r,a,f,q⟩:=h;cases m;obtain⟨u,rfl,o⟩:=n.one;cases o;obtain⟨z,hd,v1,e,j⟩:=rP I.hok g;obtain⟨w,c,k,d,t⟩:=iU I.hok r;refine call_meetsIn PySem.F.slot_dict_update j.typeIs PySem.F.entry_dict_update (PySem.F.args_dict_update_2 _ _) (meets_dict_update (ax X.prog X.w) l b a c) ⟨v1,k,j,t,by rw[← e.length,← d.length];exact f,λh' i _ hs=>?_⟩;have he:∃q,h'.get? l=some q:=let ⟨q,_,_,p,_⟩:=i;⟨q,p⟩;exact⟨.non,_,fW I (by rw[g];exact True.intro) hs he (gW (aas (db ys xs) f) hd (d.merge e) i),rfl,q⟩
theorem uc:BMt X "dict.update" mT:=⟨ub⟩
section
variable {K:Frag}     
def EI:List Key->List D->List Key->List D->List Key×List D
 |ks,ds,k::es,d::fs=>EI (gq ks ds k d).1 (gq ks ds k d).2 es fs
 |ks,ds,_,_=>(ks,ds)
theorem yz:∀{ys xs:List (Key×V)} {ks es:List Key} {ds fs:List D},xs.map (·.1)=ks->Dens K F (xs.map (·.2)) ds->ys.map (·.1)=es->Dens K F (ys.map (·.2)) fs->(cI xs ys).map (·.1)=(EI ks ds es fs).1/\Dens K F ((cI xs ys).map (·.2)) (EI ks ds es fs).2:=by
 intro ys
 induction ys with
 |nil=>intro xs ks es ds fs h1 h2 b a;subst b;cases a;exact⟨h1,h2⟩
 | cons y ys e=>
  intro xs ks es ds fs h1 h2 b a;subst b
  cases a with
  | cons g f=>
   obtain⟨d,c⟩:=jY (k:=y.1) h1 h2 g;have r:=e (xs:=gx xs y.1 y.2) d c rfl f;exact r
theorem Rel.mutDF{ks:List Key}(R:Rel K F Z H σ ρ A)(h:unD ρ i=some (ks,ds)):∀a,σ[i]?=some (some (.ref a))->F a=none:=by
 obtain⟨v,B,A',h1,h2,f,d,pm⟩:=R.takeI (lb h);intro a c
 cases h2 with
 | @fd b ys ks os hl e dn=>
  rw[h1] at c;cases c;exact(d.fr a (aab ..)).1
def M6(i:Nat)(fe:FE):FE:=λρ Q=>(unD ρ i).isSome=true/\fe ρ λr b=>match fzR r b with
 | some (.dct es fs,a)=>(match unD a i with
  |some (ks,ds)=>ks.length+es.length<=sizeLine/\Q (.ov (.fz .non)) (a.set i (some (.fd (EI ks ds es fs).1 (EI ks ds es fs).2)))
  |none=>False)
 |_=>False
theorem EJ(h:j<n)(he:EF K (List.range n) te fe):EF K (List.range n) (tBM K "dict" mT (dD j) (eP te kB)) (M6 j fe):=⟨by
 intro F Z H T σ ρ A Q P p R h' q;obtain⟨E,h'⟩:=h';obtain⟨⟨D,M⟩,J⟩:=abR.mp E;obtain⟨a,f,h1,h2,_,_,_⟩:=R.mutD J;refine⟨.ref a,(p j j (rg h)).1.trans h1,.inr (.inr (.inl ⟨rfl,.inl ⟨f,h2⟩⟩)),?_⟩;refine he.h p R h' λr w v V H1 A1 W d y S v1 f1=>?_;split at d
 ·rename_i es fs u m;obtain⟨U,Y,x,R2,L,_,_⟩:=S.frz v1 f1 m;split at d
  ·rename_i ks ds t;obtain⟨N,xs,c,l,e,k,mt⟩:=R2.mutD t;have s:=R2.mutDF t N c;rw[h1] at c;cases c
   cases L with
   | @dct b ys _ _ g2 g3 G=>
    have i:a≠b:=λz=>by
     rw[← z] at g2;rcases g2 with g|⟨o,g⟩
     ·rw[s] at g;cases g
     ·rw[s] at g;cases g
    obtain⟨C,B⟩:=yz e k g3 G;obtain⟨X,O⟩:=mt (cI xs ys) _ _ C B;refine⟨a,b,xs,ys,rfl,rfl,l,R2.fh.rd g2,i,?_,q _ _ _ _ _ _ _ d.2 (y.trans x) O (.fz .non) Fresh.nil⟩;have I:xs.length=ks.length:=by rw[← e,abz]
    have m:ys.length=es.length:=by rw[← g3,abz]
    rw[I,m];exact d.1
  ·exact d.elim
 ·exact d.elim⟩
end
section
variable   {A:Around}   {it d:Addr} {ep:Nat}  {es:Array DictEntry} {e:DictEntry} 
theorem yB(k:s.heap.IsKeyIter it d i es.size ep)(hd:s.heap.get? d=some o)(a:o.data=.dict es ep)(he:es[i]?=some e)(q:∀h',h'.IsKeyIter it d (i+1) es.size ep->Heap.SameBut it s.heap h'->Q (some e.key) { s with heap:=h' }):wpAny (model prog w) A (pyNext (.ref it)) Q E s:=by
 have j:=k.typeIs;obtain⟨m,hi,f,c⟩:=k;obtain⟨y,dct,t,sl⟩:=m;simp only at f c;subst f c;obtain⟨x,v,r,l⟩:=o;simp only at a;subst a;obtain⟨hp,g,u,tk,os⟩:=s;unfold pyNext;refine aaa (abw (wpAny_callSpecial?_slot j aa6 (aay aa6 j F.entry_dict_keyiterator_next ?_ (F.args_dict_keyiterator_next_1 _))));unfold Builtin.«dict_keyiterator.__next__»
 repeat (any_goals (first|assumption|wp_step))
 have n:(if (i:Int)<0 then none else es[(i:Int).toNat]?)=some e:=by rw[if_neg (by nofun)];simpa using he
 rw[n]
 repeat (any_goals (first|assumption|(with_reducible refine wpAny_isOneOf_keyiter (by assumption) ?_)|wp_step))
 refine⟨_,rfl,aaf (q _ ⟨_,Heap.get?_update_self _ hi rfl,rfl,?_⟩ ⟨?_,λb p=>Heap.get?_update_other _ _ (Ne.symm p)⟩)⟩
 ·kernel_rfl
 ·exact Heap.size_update ..
theorem yD(r:A.handled=none)(k:s.heap.IsKeyIter it d i es.size ep)(hd:s.heap.get? d=some o)(a:o.data=.dict es ep)(he:es[i]?=none)(q:∀h',Heap.ExtBut it s.heap h'->Q none { s with heap:=h' }):wpAny (model prog w) A (pyNext (.ref it)) Q E s:=by
 have j:=k.typeIs;obtain⟨m,hi,f,c⟩:=k;obtain⟨z,dct,u,sl⟩:=m;simp only at f c;subst f c;obtain⟨y,x,t,l⟩:=o;simp only at a;subst a;obtain⟨hp,g,v,tk,os⟩:=s;unfold pyNext;refine aaa (abw (wpAny_callSpecial?_slot j aa6 (aay aa6 j F.entry_dict_keyiterator_next ?_ (F.args_dict_keyiterator_next_1 _))));unfold Builtin.«dict_keyiterator.__next__»
 repeat (any_goals (first|assumption|wp_step))
 have n:(if (i:Int)<0 then none else es[(i:Int).toNat]?)=none:=by rw[if_neg (by nofun)];simpa using he
 rw[n]
 repeat (any_goals (first|assumption|wp_step))
 refine wpAny_raiseNew_none (by simp[r]) ?_;have f1:=isSubtype_stop
 repeat (any_goals (first|assumption|wp_step))
 exact q _ λb o p e=>Heap.get?_push_of_some _ (Heap.get?_push_of_some _ ((Heap.get?_update_other _ _ (Ne.symm p)).trans e))
theorem yF{Q:Value->Shared->Prop}(hd:s.heap.get? d=some o)(b:o.cls=.type "dict")(a:o.data=.dict es ep)(i:(d==sysModules)=false)(q:Q (.ref s.heap.objs.size) { s with heap:=s.heap.push { cls:=.type "dict_keyiterator", data:=.fields #[.ref d,.int 0 0,.int es.size 0,.int ep 0] } }):wpAny (model prog w) A (pyIter (.ref d)) Q E s:=by
 have c:s.TypeIs (.ref d) "dict" := ⟨_,hd,b⟩;obtain⟨l,k,f,e⟩:=o;simp only at a b;subst a b;obtain⟨hp,g,j,tk,os⟩:=s;refine wpAny_pyIter_slot c F.slot_dict_iter (aay F.slot_dict_iter c F.entry_dict_iter ?_ (F.args_dict_iter_1 _));unfold Builtin.«dict.__iter__» Builtin.Dict.dictSlotNone;refine aaa (aaa (wpAny_notOrdered_dict c ?_));unfold Builtin.Dict.showsAll
 repeat (any_goals (first|assumption|wp_step))
 refine⟨_,rfl, "dict_keyiterator", _,⟨_,Heap.get?_push_size _ rfl,rfl⟩,F.slot_dict_keyiterator_next.lookup,q⟩
theorem EK(hE:o.ExactDict)(hdat:o.data=.dict es ep)(hm:(d==sysModules)=false):PySem.W.KdlSrc prog w "dict" d d es.size (λi v=>∃e,es[i]?=some e/\v=e.key) (λh=>h.get? d=some o) where
 type:=λs h=>⟨_,h,hE.1⟩
 there:=λh e=>⟨aag e,aag e⟩
 keep:=λh h' e k=>k d (.inl rfl) o e
 notList:=by decide
 notTuple:=by decide
 hint:=λA E s Q h q=>PySem.W.kdl_hint_dict ⟨_,h,hE.1⟩ q
 iter:=λA s hA h=>by
  refine⟨_,λi h'=>h'.IsKeyIter s.heap.objs.size d i es.size ep/\h'.get? d=some o,λE Q q=>yF h hE.1 hdat hm q,?_,⟨_,Heap.get?_push_size _ rfl,rfl,rfl⟩,Heap.get?_push_of_some _ h⟩;have hne:d≠s.heap.objs.size:=aak (aag h);refine⟨λb hb=>by simp at hb;simp[hb],λi h1 h2 hs k=>⟨?_,k d (by simp) o hs.2⟩,λi s1 Q E hi hs q=>?_,λs1 Q E hs q=>?_,λi s1 Q E hs q=>wpAny_pyIter_keyiter hs.1 q⟩
  ·obtain⟨oi,e1,e2⟩:=hs.1;exact⟨oi,k _ (by simp) oi e1,e2⟩
  ·refine yB hs.1 hs.2 hdat (Array.getElem?_eq_getElem hi) λh' g1 g2=>q _ h' _ ⟨_,Array.getElem?_eq_getElem hi,rfl⟩ ⟨g1,(g2.2 d hne).trans hs.2⟩ λb u hb e=>?_;rw[g2.2 b (by exists hb)];exact e
  ·refine yD hA hs.1 hs.2 hdat (Array.getElem?_eq_none (aac _)) λh' g=>q h' _ λb u hb e=>g b u (by exists hb) e
end
theorem EL{β:Type}{F:α->β->Prop}{l:List α}{m:List β}(h:Paired F l m):∀{i:Nat} {a:α} {b:β},l[i]?=some a->m[i]?=some b->F a b:=by
 induction h with
 |nil=>intro i a b e;cases e
 | cons r t f=>
  intro i a b d c
  cases i with
  |zero=>cases d;cases c;exact r
  |succ i=>exact f d c
def ud:List V->Hp->VK->Prop:=λxs H Q=>∃(p:Addr) (kvs:List (List Key×V)),xs=[.ref p]/\Rd H p (.dT kvs)/\∀(l:Addr) (bs:List Addr),H l=none->bs.length=kvs.length->(∀(i:Nat) (b:Addr) (a:List Key×V),bs[i]?=some b->kvs[i]?=some a->H b=some (.tup (a.1.map kV)))->Q (.ref l) (upd H l (.lst (bs.map .ref)))
theorem qv(C:X.calm=true):CallR X (.type "list") ud:=by
 intro pins s σ H xs us Q I r h;obtain⟨p,kvs,rfl,A,q⟩:=h;obtain⟨u,rfl,w⟩:=fE r;cases w;obtain⟨m,D,xs,rel,o,es,ep,h1,h2,F,l,E⟩:=(show ObjOk X.prog X.w H s.heap p (.dT kvs) from A.ok I.hok);have hl:kvs.length=xs.length:=aa2 rel;have f:es.size=xs.length:=by rw[← abO,l,abz]
 refine PySem.W.kdl_call (EK h2 F D) (I.ok.hd C) h1 (by rw[f,← hl];exact m) λh' tk a J B t c=>?_
 have d:a.toList=xs.map λx=>Value.ref x.2.1:=by
  apply List.ext_getElem?;intro j;rw[List.getElem?_map]
  cases e:xs[j]? with
  | none=>
   rw[List.getElem?_eq_none_iff] at e;refine List.getElem?_eq_none ?_;rw[abO,c.1,f];exact e
  | some x=>
   have n:j<a.size:=by have:=(List.getElem?_eq_some_iff.mp e).1;rw[c.1,f];exact this
   obtain⟨en,v,G⟩:=c.2 j a[j] (Array.getElem?_eq_getElem n);rw[← Array.getElem?_toList,l,List.getElem?_map,e] at v;cases v;rw[Array.getElem?_toList,Array.getElem?_eq_getElem n,G];rfl
 have z:Vals ((xs.map λx=>x.2.1).map V.ref) a.toList:=by
  rw[d,aau];clear c d t f hl l E rel
  induction xs with
  |nil=>exact .nil
  |cons x xs y=>exact .cons rfl y
 refine⟨.ref s.heap.objs.size,_,I.laid (t':=tk) (o:=.lst ((xs.map λx=>x.2.1).map V.ref)) B (aac _) ⟨by rw[abz,abz,← hl];exact m,a.toList,J,z,by rw[abf];exact t⟩,rfl,q _ _ (I.hok.fresh (aac _)) (by rw[abz,hl]) λi b K g k=>?_⟩;rw[List.getElem?_map] at g
 cases e:xs[i]? with
 |none=>rw[e] at g;cases g
 | some x=>
  rw[e] at g;cases g;exact(EL rel k e).2.1
theorem yG(a:X.calm=true):BCall X (.type "list") ud:=⟨qv a⟩
section
variable {K:Frag}     
theorem Rel.tups{bs:List Addr}(R:Rel K F Z H σ ρ A)(h:∀b∈bs,∃xs,H b=some (.tup xs)):∃F',Same F F'/\Rel K F' Z H σ ρ A/\∀b∈bs,F' b=H b:=by
 classical
 obtain⟨F',s,c,k,_⟩:=R.grow (B:=bs.filter λb=>decide (F b=none)) (λb a=>by
  obtain⟨xs,e⟩:=h b (abM.mp a).1;exact⟨_,e⟩) (λb a=>by
  obtain⟨xs,e⟩:=h b (abM.mp a).1;refine⟨of_decide_eq_true (abM.mp a).2,?_,λz=>R.sl.nt b z xs e⟩
  cases z:Z b with
  |none=>rfl
  | some o=>
   have:=R.zh.s b o z;rw[e] at this;cases this;exact absurd z (R.zh.n b xs))
 refine⟨F',s,c,λb a=>?_⟩;obtain⟨xs,e⟩:=h b a
 cases z:F b with
 |none=>rw[e];exact k b _ (abM.mpr ⟨a,decide_eq_true z⟩) e
 |some o=>rw[s b o z];exact(R.fh b o z).symm
def M7(k:List Key):D:=.tup (k.map xL)
theorem lr{F:Hp}:∀{ks:List (List Key)} {bs:List Addr},bs.length=ks.length->(∀(i:Nat) b k,bs[i]?=some b->ks[i]?=some k->F b=some (.tup (k.map kV)))->Dens K F (bs.map .ref) (ks.map M7)
 |[],[],_,_=>.nil
 |k::ks,b::bs,hl,h=>.cons (.tup (h 0 b k rfl rfl) (fL k)) (lr (Nat.succ.inj hl) λi b k c a=>h (i+1) b k c a)
def AV(fe:FE):FE:=λρ Q=>fe ρ λr a=>on1 a r λd=>match d with
 |.dt ks _=>Q (.ov (.fl (ks.map M7))) a
 |_=>False
theorem yH(he:EF K μ te fe):EF K μ (tCB ud (eP te kB)) (AV fe):=⟨by
 intro F Z H B σ ρ A Q P s R h q;refine he.h s R h λr p x D H1 G E h1 u n v1 f1=>?_;obtain⟨d,j,h2⟩:=bW h1;split at h2
 ·rename_i ks ds;obtain⟨a,ys,rfl,g1,g2,g3⟩:=(n.acc v1 j).asDT n.fh;refine⟨a,ys,rfl,g1,λl bs hl c m=>?_⟩
  have at_:∀(i:Nat) b,bs[i]?=some b->∃f,ys[i]?=some f/\H1 b=some (.tup (f.1.map kV)):=λi b e=>by
   have hi:i<ys.length:=by have:=(List.getElem?_eq_some_iff.mp e).1;nofun
   exact⟨_,List.getElem?_eq_getElem hi,m i b _ e (List.getElem?_eq_getElem hi)⟩
  obtain⟨C,t,R2,v⟩:=n.tups (bs:=bs) λb m=>by
   obtain⟨i,e⟩:=List.mem_iff_getElem?.mp m;obtain⟨f,_,g⟩:=at_ i b e;exact⟨_,g⟩
  have z:=R2.step (Pure.new (o:=.lst (bs.map .ref)) R2.fh hl);refine q _ _ _ _ _ _ _ h2 (u.trans t) z (.fl af (lr (by rw[c,← g2,abz]) λi b k j g=>?_)) (R2.fresh (New.one hl (R2.fh.free hl)));obtain⟨f,y,w⟩:=at_ i b j;rw[← g2,List.getElem?_map,y] at g;cases g;rw[v b (List.mem_iff_getElem?.mpr ⟨i,j⟩)];exact w
 ·exact h2.elim⟩
end
def Itv(K:Frag)(a:Addr)(n:Nat):It:=
 ⟨λi H=>i<n/\∃xs,SqL K H a xs/\xs.length=n,λi H x H'=>H'=H/\∀xs,SqL K H a xs->xs[n - 1 - i]?=some x,λi _=>n<=i⟩
theorem yI{P:Program}{K:Frag}(a it:Addr)(n:Nat):Turn P w K tg (Itv K a n) [it] it (λi h=>i<=n/\h.IsRevIter it a ((n:Int) - 1 - (i:Int))) where
 mem:=by simp
 obj:=λi h st b hb=>by
  have e:b=it:=(by exists hb);subst e;obtain⟨_,o,e,c,d⟩:=st;exact⟨o,e,λv z=>by rw[d] at z;cases z⟩
 keep:=λi h h' st k=>⟨st.1,st.2.at λo e=>k it (by simp) o e⟩
 item:=by
  intro X hP hw hK hc i pins s σ H E I hf st hg;subst hP hw hK;obtain⟨hi,xs,hq,hn⟩:=hg;obtain⟨st0,st⟩:=st;obtain⟨its,rv,p,hz⟩:=I.list hq;have hx:xs[n - 1 - i]?=some (xs[n - 1 - i]'(by nofun)):=List.getElem?_eq_getElem (by nofun);obtain⟨u,hu,ru⟩:=rv.get hx;obtain⟨f0,f1,f2,f3,f4,f5⟩:=hf it (by simp);have e:(n:Int) - 1 - (i:Int)=((n - 1 - i:Nat):Int):=by nofun
  rw[e] at st;refine wpAny_pyNext_rev_item st p.isList (x:=u) (by exists hu) λh' st' sb=>?_;have I1:Inv X pins σ H { s with heap:=h' }:=I.turned (t':=s.toks) (λb o hb e=>(sb.2 b hb).trans e) f0 f1 f3 f4 f5;have e2:((n - 1 - i:Nat):Int) - 1=(n:Int) - 1 - ((i+1:Nat):Int):=by nofun
  rw[e2] at st';obtain⟨o,e,c,d⟩:=id st';exact⟨u,rfl,jK (s:={ s with heap:=h' }) e c d (by decide) ⟨_,H,I1,ru,⟨rfl,λys hy=>by rw[I.list_inj hy hq];exact hx⟩,⟨hi,st'⟩,λb hb=>(hf b hb).1⟩⟩
 done:=by
  intro X hP hw hK hc i pins s σ H E I hf st hg;subst hP hw hK;obtain⟨st0,st⟩:=st;have hg:n<=i:=hg;obtain⟨f0,f1,f2,f3,f4,f5⟩:=hf it (by simp);have e:(n:Int) - 1 - (i:Int)=-1:=by nofun
  rw[e] at st;exact wpAny_pyNext_rev_end (I.ok.hd hc) st λh' eb=>⟨rfl,I.turned (t':=s.toks) (λb o hb e=>eb b o hb e) f0 f1 f3 f4 f5⟩
 self:=λ_ _ _ _ _ st h=>wpAny_pyIter_revIter st.2 h
def Mq(K:Frag)(tl:TE):TI:=λσ H R=>tl σ H λx H1=>∃a xs,x=.ref a/\SqL K H1 a xs/\R (Itv K a xs.length) H1
theorem Jt(t:Gl X "reversed")(n:X.mg "reversed" = none)(hl:PE X l tl)(g:a9 l=true):PI X tg (.Call (.Name "reversed" p) [l] [] pos) (Mq X.K tl):=by
 intro pins s σ H R I h;refine Call_ (jb I t n boot_reversed (aa9 (thn (MW hl Az g pos pins s σ H (λvs H1=>match vs with|[x]=>∃a xs,x=.ref a/\SqL X.K H1 a xs/\R (Itv X.K a xs.length) H1|_=>False) I h) λus c y=>?_) (aT g) rfl));obtain⟨vs,H1,d,k,f⟩:=y
 cases k with
 |nil=>exact False.elim f
 | cons r j=>
  cases j with
  |cons=>exact False.elim f
  | nil=>
  obtain⟨a,xs,e,m,q⟩:=f;subst e;cases r;obtain⟨its,i,pl,w⟩:=d.list m;refine call_reversed_list pl.isList ?_;have v:=d.kept (t':=c.toks) (h':=c.heap.push (revObj a ((its.toArray.size:Int) - 1))) λb o e=>Heap.get?_push_of_some _ e
  have st:(c.heap.push (revObj a ((its.toArray.size:Int) - 1))).IsRevIter c.heap.objs.size a ((xs.length:Int) - 1 - ((0:Nat):Int)):=⟨_,Heap.get?_push_size _ rfl,rfl,by
   have:=i.length;show Data.fields #[.ref a,rawInt ((its.toArray.size:Int) - 1)]=_;rw[abK,← this];simp⟩
  refine wpAny_pyIter_revIter st ?_;refine⟨c.heap.objs.size,[c.heap.objs.size],_,_,H1,rfl,v,yI a _ xs.length,⟨aan _,st⟩,λb u=>?_,q⟩;have e:b=c.heap.objs.size:=(by exists u);subst e;exact d.fpOk (aac _) (d.hok.fresh (aac _))
theorem Ju(K:Frag)(c:X.env.kindOf "reversed" = some .globalImplicit)(b:X.mg "reversed" = none)(hl:BE X l tl)(a:a9 l=true)(d:X.K=K):BI X tg (.Call (.Name "reversed" p) [l] [] pos) (Mq K tl):=⟨d ▸ Jt c b hl.h a⟩
section
variable {K:Frag}  
def Jv(fe:FE):FI:=λρ Q=>fe ρ λr b=>match fzR r b with
 |some (.lst ds,a)=>Q ds.reverse a
 |_=>False
theorem yJ(h:SqL K F a xs)(t:Dens K F xs ds):Walk K F (Itv K a xs.length) ds.reverse:=
 ⟨λH i s hi=>by
  rw[aax,← t.length] at hi;exact⟨hi,xs,s.seq h,rfl⟩,λH i x H' s hi y=>by
  obtain⟨rfl,y⟩:=y;rw[aax,← t.length] at hi;obtain⟨d,h1,h2⟩:=t.get' (y xs (s.seq h));exact⟨rfl,d,by rw[List.getElem?_reverse (by rw[← t.length];exact hi),← t.length];exact h1,h2⟩,λH s=>by
  show xs.length<=ds.reverse.length;rw[aax,t.length];exact aac _⟩
theorem EM(he:EF K μ te fe):ITF K μ (Mq K te) (Jv fe):=⟨by
 intro F Z H j σ ρ A Q P c R h q;refine he.h c R h λr a v l H1 p m h1 g i v1 f1=>?_;generalize e:fzR r a=o at h1;obtain _|⟨d,b⟩:=o
 ·exact False.elim h1
 cases d
 case lst ds=>
  obtain⟨k,n,f,R2,dn,_,_⟩:=i.frz v1 f1 e
  cases dn with
  |lst hs t=>exact ⟨_,_,rfl,R2.fh.seq hs,q _ _ _ _ _ _ h1 (g.trans f) R2 (yJ hs t)⟩
 all_goals exact False.elim h1⟩
@[irreducible] def yL(ds:List D):Option (D×List D):=match ds.getLast? with
 |some d=>some (d,ds.dropLast)
 |none=>none
def yM(i:Nat):FE:=λρ Q=>match unL ρ i with
 | some ds=>(match yL ds with
  |some p=>Q (.ov (.fz p.1)) (ρ.set i (some (.fl p.2)))
  |none=>False)
 |none=>False
theorem EN{L:List D}{Q:D×List D->Prop}(h:L=ds++[d])(q:Q (d,ds)):match yL L with
  |some p=>Q p
  | none=>False:=by
 unfold yL;rw[h,List.getLast?_concat,abv];exact q
theorem Dens.dropLast:∀{xs:List V} {ds:List D},Dens K F xs ds->Dens K F xs.dropLast ds.dropLast:=fun {xs ds} h=>by
 rw[← List.reverse_reverse xs,← List.reverse_reverse ds];have:=h.reverse
 revert this
 generalize xs.reverse=a;generalize ds.reverse=b;intro h
 cases h with
 |nil=>exact .nil
 |cons p t=>rw[aaM,aaM,abv,abv];exact t.reverse
theorem Jw(k:μ[j]?=some i):EF K μ (Gi K "list" G8 (dD j)) (yM i):=⟨by
 intro F Z H o σ ρ A Q P g R h q;unfold yM at h;split at h
 ·rename_i ds e;split at h
  ·rename_i p c;unfold yL at c;split at c
   ·rename_i d b;cases c;obtain⟨a,xs,h1,h2,f,mt⟩:=R.mutL e;obtain⟨r,n⟩:=mt _ _ f.dropLast;rw[List.getLast?_eq_getElem?,← f.length] at b;obtain⟨x,m,l⟩:=f.get b;exact⟨.ref a,(g j i k).1.trans h1,.inl ⟨rfl,xs,SqL.of h2⟩,a,xs,x,rfl,rfl,h2,m,q _ _ _ _ _ _ _ h (Same.refl _) n (.fz l) Fresh.nil⟩
   ·cases c
  ·exact h.elim
 ·exact h.elim⟩
theorem EO(h:j<n):EF K (List.range n) (Gi K "list" G8 (dD j)) (yM j):=Jw (by simp[h])
def tObj(C:Addr)(m:Str)(te:TE):TE:=λσ H Q=>te σ H λx H1=>∃a dx fs,x=.ref a/\H1 a=some (.ins C dx fs)/\fs.lookup m=none/\Q x H1
def M8(c:Nat)(fe:FE):FE:=λρ Q=>fe ρ λr b=>match r with
 | .ov (.ob ⟨a,d,ps⟩)=>(match Nat.beq d c with
  |true=>Q (.ov (.ob ⟨a,d,ps⟩)) b
  |false=>False)
 |_=>False
theorem Jx(hC:ClsF K c C)(f:(b4 c).contains mn=false)(he:EF K μ te fe):EF K μ (tObj C mn te) (M8 c fe):=⟨by
 intro F Z H p σ ρ A Q P i R h q;refine he.h i R h λr g v s H1 u t b j n v1 f1=>?_;split at b
 ·rename_i a m ps;split at b
  ·rename_i l;obtain rfl:m=c:=abq l;have v0:=v1
   cases v1 with
   | ob v1=>
    cases v1 with
    | @mk _ o dx _ fs _ B k d e hl hp=>
     have:o=C:=by have:=d.symm.trans hC.ns;cases this;rfl
     subst this;refine⟨a,dx,fs,rfl,k,tU λz=>?_,q _ _ _ _ _ _ _ b j n v0 f1⟩;rw[e] at z;rw[List.contains_eq_mem,decide_eq_false_iff_not] at f;exact f (aaR z)
  ·exact b.elim
 ·exact b.elim⟩
def AW(_:Str)(c:Nat)(cc:Ct)(fe:FE):FE:=ag cc (aa (M8 c fe) ae)
theorem yN(hC:ClsF K c C)(b:(b4 c).contains mn=false)(he:EF K μ te fe):EF K μ (mq C mn (spM K cc) [] E0 te kB) (AW mn c cc fe):=
 ⟨λa R h q=>(mJ (E:=E0) (mI (Jx hC b he) AN)).h a R h q⟩
end
def M9:R2:=λx y H Q=>∃b c:Bool,x=.bl b/\y=.bl c/\Q (.bl (b==c)) H
def Jy:R2:=λx y H Q=>∃b c:Bool,x=.bl b/\y=.bl c/\Q (.bl (!(b==c))) H
section
variable  {K:Frag}
theorem EQ:BOp X (compareOp .Is) M9:=⟨by
 intro pins s σ H x y v u Q I d a h;obtain⟨b,c,rfl,rfl,q⟩:=h;cases d;cases a;refine wpAny_is_plain rfl (aN I q ?_);cases b <;> cases c <;> rfl⟩
theorem yO:BOp X (compareOp .IsNot) Jy:=⟨by
 intro pins s σ H x y v u Q I d a h;obtain⟨b,c,rfl,rfl,q⟩:=h;cases d;cases a;refine wpAny_isNot_plain rfl (aN I q ?_);cases b <;> cases c <;> rfl⟩
def Na(d e:D)(P:OV->Prop):Prop:=match d with
 | .bl b=>(match e with
  |.bl c=>P (.fz (.bl (b==c)))
  |_=>False)
 |_=>False
def Jz(d e:D)(P:OV->Prop):Prop:=match d with
 | .bl b=>(match e with
  |.bl c=>P (.fz (.bl (!(b==c))))
  |_=>False)
 |_=>False
theorem ER:OpF K M9 Na:=⟨by
 intro F H x y d e Q P s g a f n
 cases d with
 | bl b=>
  cases e with
  |bl c=>exact ⟨b,c,g.bl_eq,a.bl_eq,aw s n (.bl _) f⟩
  |_=>exact False.elim f
 |_=>exact False.elim f⟩
theorem yQ:OpF K Jy Jz:=⟨by
 intro F H x y d e Q P s g a f n
 cases d with
 | bl b=>
  cases e with
  |bl c=>exact ⟨b,c,g.bl_eq,a.bl_eq,aw s n (.bl _) f⟩
  |_=>exact False.elim f
 |_=>exact False.elim f⟩
end
theorem us_6{P:List α->Prop}(h:∀a b c d e f,P [a,b,c,d,e,f]):∀us:List α,us.length=6->P us
 |[a,b,c,d,e,f],_=>h a b c d e f
section
variable {K:Frag}
end
section
variable {K:Frag}     
abbrev FP:=FSt->(List (Key×D)->FSt->Prop)->Prop
def JA:FP:=λρ Q=>Q [] ρ
def oy(fk fv:FE)(fp:FP):FP:=λρ Q=>fk ρ λr a=>on1 a r λd=>(match lc d with
 | some k=>fv a λs e=>(match fzR s e with
  |some (g,c)=>fp c fun f b=>Q ((k,g)::f) b
  |none=>False)
 |none=>False)
structure PF(K:Frag)(μ:List Nat)(trs:List (TE×TE))(f:FP):Prop where
 h:∀{F Z H:Hp} {τ σ:St} {ρ:FSt} {A:List Addr} {Q:List (V×V)->Hp->Prop} {P:List (Key×D)->FSt->Prop},View μ τ σ->Rel K F Z H σ ρ A->f ρ P ->
  (∀kds ρ' F' H' A' (kvs:List (Key×V)),P kds ρ'->Same F F'->Rel K F' Z H' σ ρ' A'->kvs.map (·.1)=kds.map (·.1)->Dens K F' (kvs.map (·.2)) (kds.map (·.2))->Q (kvs.map λkv=>(kV kv.1,kv.2)) H')->nK trs τ H Q
theorem JB:PF K μ [] JA:=⟨by
 intro F Z H a σ ρ A Q P b R h q;exact q [] ρ F H A [] h (Same.refl _) R rfl .nil⟩
theorem ES{fp:FP}(u:EF K μ tk fk)(t:EF K μ tv fv)(hr:PF K μ trs fp):PF K μ ((tk,tv)::trs) (oy fk fv fp):=⟨by
 intro F Z H G σ ρ A Q P a R h q;refine u.h a R h λJ l x T H1 A1 V h1 p R2 v1 f1=>?_;obtain⟨d,B,h2⟩:=bW h1;split at h2
 ·rename_i k z;have w:=dW (R2.acc v1 B) z;refine t.h a R2 h2 λI j y S H2 Y U b o E m f2=>?_;split at b
  ·rename_i L i v;obtain⟨O,X,n,D,dn,_,_⟩:=E.frz m f2 v;refine hr.h a D b λs g N M W kvs r f C c e=>?_;rw[w];exact q _ _ _ _ _ ((k,y)::kvs) r (((p.trans o).trans n).trans f) C (by rw[abC,abC,c]) (.cons (dn.mono f) e)
  ·exact b.elim
 ·exact h2.elim⟩
def eV(acc:List Key×List D)(a:List (Key×D)):List Key×List D:=a.foldl (λacc b=>gq acc.1 acc.2 b.1 b.2) acc
theorem jw:∀{a:List (Key×D)} {kvs:List (Key×V)} {ys:List (Key×V)} {acc:List Key×List D},kvs.map (·.1)=a.map (·.1)->Dens K F (kvs.map (·.2)) (a.map (·.2))->ys.map (·.1)=acc.1->Dens K F (ys.map (·.2)) acc.2->(cI ys kvs).map (·.1)=(eV acc a).1/\Dens K F ((cI ys kvs).map (·.2)) (eV acc a).2
 |[],[],_,_,_,_,h1,h2=>⟨h1,h2⟩
 |[],_::_,_,_,h,_,_,_=>by cases h
 |_::_,[],_,_,h,_,_,_=>by cases h
 | c::a,b::kvs,ys,acc,h,hd,h1,h2=>by
  rw[abC,abC] at h hd;obtain⟨f,e⟩:=List.cons.inj h
  cases hd with
  | cons g dn=>
   obtain⟨g1,g2⟩:=jY (k:=b.1) h1 h2 g;have d:b.1=c.1:=f;show (cI (gx ys b.1 b.2) kvs).map (·.1)=(eV (gq acc.1 acc.2 c.1 c.2) a).1/\Dens K F ((cI (gx ys b.1 b.2) kvs).map (·.2)) (eV (gq acc.1 acc.2 c.1 c.2) a).2;rw[← d];exact jw e dn g1 g2
def AX(fp:FP):FE:=λρ Q=>fp ρ λa b=>a.length<=15/\Q (.ov (.fd (eV ([],[]) a).1 (eV ([],[]) a).2)) b
theorem yR{fp:FP}(hp:PF K μ trs fp):EF K μ (wM trs) (AX fp):=⟨by
 intro F Z H s σ ρ A Q P i R h q p a;have r:=R.step (Pure.new (o:=.dK []) R.fh a);have fp:Fresh F Z A [p]:=R.fresh (New.one a (R.fh.free a));obtain⟨u,sz,n,t,back⟩:=r.hold (B:=[p]) (λb k=>⟨.dK [],by rw[abG.mp k];exact af⟩) (.one af (λ_ z=>nomatch z) .nil) fp;refine hp.h i n h λc g v H1 w kvs h1 d R2 f dn=>?_;obtain⟨m,e,j⟩:=back _ _ _ _ d R2;have fb:=e.fr p (aab ..);have l:=m.write (o:=.dK (cI [] kvs)) fb.2.2 fb.1 fb.2.1;obtain⟨g1,g2⟩:=jw (ys:=[]) (acc:=([],[])) f dn rfl .nil;have hl:kvs.length=c.length:=by have:=congrArg List.length f;rwa [abz,abz] at this
 exact⟨j p _ (aab ..) af,kvs,rfl,by rw[hl];exact h1.1,q _ _ _ _ _ _ _ h1.2 d l (.fd af g1 g2) e⟩⟩
end
end L2
namespace L2
open PySem PySem.Spec PyProof.Rows
open PySem.Builtin PySem.Builtin.Str PySem.StrLaws
def ue:R2:=λx y H Q=>∃(z:Str) (n:Int),x=.str z/\y=.int n/\0<=n/\0<z.length/\z.length*n.toNat<=16777216/\Q (.str (dG z n)) H
section
variable {X:Cx}
theorem qw:BOp X (binaryOp .Mult) ue:=⟨by
 intro pins s σ H x y v u Q I b a h;obtain⟨z,n,rfl,rfl,h1,d,hl,q⟩:=h;by_cases c:n=0
 ·subst c;obtain⟨t,rfl⟩:=b;obtain⟨t',rfl⟩:=a;refine PySem.P.mul_str (by decide) (λh=>absurd (by decide) h) (λh=>absurd (by decide) h) ?_;rw[if_pos (by decide)];exact⟨aan _,.str (dG z 0),H,I.tok _,⟨_,rfl⟩,q⟩
 ·exact ju.h pins s σ H _ _ v u Q I b a ⟨z,n,rfl,rfl,by nofun,d,hl,q⟩⟩
end
section
variable {K:Frag} {μ:List Nat}
def uf(d e:D)(P:OV->Prop):Prop:=match d with
 | .str z=>(match e with
  |.int n=>(0<=n/\0<z.length/\z.length*n.toNat<=16777216)/\P (.fz (.str (dG z n)))
  |_=>False)
 |_=>False
theorem qx:OpF K ue uf:=⟨by
 intro F H x y d e Q P s b a f n
 cases d with
 | str z=>
  cases e with
  |int i=>exact ⟨z,i,b.str_eq,a.int_eq,f.1.1,f.1.2.1,f.1.2.2,aw s n (.str _) f.2⟩
  |_=>exact False.elim f
 |_=>exact False.elim f⟩
end
end L2
local macro_rules|`(tactic|delta $c:ident) => `(tactic|(intro os P h;first|(cases h;exact L2.lo_of rfl rfl)|(unfold $c at h;(repeat (obtain ⟨x,h⟩ := h));all_goals (subst_vars;exact L2.lo_of rfl rfl))))
namespace KR
open PySem L2
variable{z w t n x word y u n0 n1 n2 n3 n4:Str}{k c f far g m i G g' j:Nat}{a b ln:Option Nat}{P:Pk}{d:D}{zs ls p zs0 ps E ns pool:List Str}{ds:List D}{Q:D->Prop}{ks:List Key}{α β:Type}{mg:Str->Option Value}{base:Heap}{b1 b2:Int}{rank:Str->Nat}
def top(i:Nat):Stmt:=PySem.Challenge.pw_keptreading_k68_long_papers_and_trees.main.body.getD i (.Pass ⟨0,0,0,0⟩)
def ET:Stmt->List Stmt
 |.ClassDef _ _ _ b _ _ _ _ _ _ _=>b
 |_=>[]
def mth(i j:Nat):Stmt:=(ET (top i)).getD j (.Pass ⟨0,0,0,0⟩)
structure Txt(K:Frag)(mg:Str->Option Value):Prop where
 n_len:mg "len" = none
 n_max:mg "max" = none
 n_min:mg "min" = none
 n_isinstance:mg "isinstance" = none
 n_all:mg "all" = none
 n_any:mg "any" = none
 n_sorted:mg "sorted" = none
 n_range:mg "range" = none
 n_str:mg "str" = none
 n_bool:mg "bool" = none
 n_int:mg "int" = none
 n_list:mg "list" = none
 n_tuple:mg "tuple" = none
 n_dict:mg "dict" = none
 n_ord:mg "ord" = none
 n_ValueError:mg "ValueError" = none
 n_reversed:mg "reversed" = none
 g_LETTERS:Glo mg "LETTERS" (.str "abcdefghijklmnopqrstuvwxyz")
 g_MOST_LETTERS:Glo mg "MOST_LETTERS" (.int 8)
 g_MOST_SIGNS:Glo mg "MOST_SIGNS" (.int 40)
 g_MOST_PARTS:Glo mg "MOST_PARTS" (.int 8)
 g_BARRED_SIGN:Glo mg "BARRED_SIGN" (.int 37)
 g_MOST_ROWS:Glo mg "MOST_ROWS" (.int 2000)
 g_WORDS_ALONE:HX K mg "WORDS_ALONE" [.str "none", .str "any"]
 g_WORDS_WITH_ONE:HX K mg "WORDS_WITH_ONE" [.str "again", .str "ahead", .str "not"]
 g_WORDS_WITH_SOME:HX K mg "WORDS_WITH_SOME" [.str "row", .str "first"]
 g_WORDS_EVER_EMPTY:HX K mg "WORDS_EVER_EMPTY" [.str "none", .str "again", .str "ahead", .str "not"]
abbrev Mr(a b:Addr)(c name:D)(place:Int):OV:=.ob ⟨a,0,[.fz c,.fz name,.fz (.int place),.fz (.int place),.fz (.int 0),.fl b [],.fz (.bl false),.fz .non]⟩
@[irreducible] def aM:Ct:=λos P=>∃(a:Addr) (c name:D) (place:Int),os=[.ob ⟨a,0,[]⟩,.fz c,.fz name,.fz (.int place)]/\∀b:Addr,P (.fz .non) [Mr a b c name place,.fz c,.fz name,.fz (.int place)]
@[irreducible] def ay:Ct:=λos P=>∃(a:Addr) (g f p2 e c b j i:FV) (d:D),os=[.ob ⟨a,0,[g,f,p2,e,c,b,j,i]⟩,.fz d]/\P (.fz .non) [.ob ⟨a,0,[g,f,p2,e,c,b,.fz (.bl true),.fz d]⟩,.fz d]
abbrev ug:Stmt:=mth 38 0
abbrev EU:FS:=
  (ak (i9 0 0 0 (ab 1))
  (ak (i9 0 0 1 (ab 2))
  (ak (i9 0 0 2 (ab 3))
  (ak (i9 0 0 3 (ab 3))
  (ak (i9 0 0 4 (fC (.int 0)))
  (ak (AU 0 0 5 (iZ ae))
  (ak (i9 0 0 6 (fC (.bl false)))
  (i9 0 0 7 (fC .non)))))))))
abbrev AY:Stmt:=mth 38 1
abbrev JC:FS:=
  (ak (i9 0 0 6 (fC (.bl true)))
  (i9 0 0 7 (ab 1)))
theorem EV:Hh aM EU [0] 4:=by
 intro os P h;unfold aM at h;obtain⟨a,c,name,place,rfl,q⟩:=h;ext;refine⟨aan _,?_⟩;ext;intro b;ext;exact q b
theorem JD:Hh ay JC [0] 2:=by
 intro os P h;unfold ay at h;obtain⟨a,j,i,p2,g,f,e,c,b,d,rfl,q⟩:=h;ext;exact q
def AZ(l:List Nat):Prop:=∀c∈l,97<=c/\c<=122
def cr(z:Str):Prop:=1<=z.cps.toList.length/\z.cps.toList.length<=8/\AZ z.cps.toList
theorem j5{a b:List Nat}(e:AZ a)(d:AZ b):AZ (a++b):=λc h=>(abA.mp h).elim (e c) (d c)
abbrev abc:Str := "abcdefghijklmnopqrstuvwxyz"
theorem EW:AZ abc.cps.toList:=by
 have h:(abc.cps.toList.all λc=>decide (97<=c/\c<=122))=true:=by decide +kernel
 intro c a;exact of_decide_eq_true (abV.mp h c a)
theorem mU:abc.cps.toList.length=26:=by decide +kernel
theorem j6(z:Str)(lo hi:Option Int):(c9 z lo hi).cps.toList=eQ z.cps.toList lo hi:=by simp[c9]
theorem du:sizeLine=16777216:=sizeLine_eq
def im(z:Str):Prop:=1<=z.cps.toList.length/\z.cps.toList.length<=40/\z.cps.toList.Pairwise (·<·)/\∀c∈z.cps.toList,32<=c/\c<=126/\c≠37
abbrev fM:Str := " !\"#$&'()*+,-./0123456789:;<=>?\x40ABCDEFGHIJKLMNOPQRSTUVWXYZ[\\]^_`abcdefghijklmnopqrstuvwxyz{|}~"
theorem lu:fM.cps.toList.length=94:=by decide +kernel
theorem j7:∀c∈fM.cps.toList,32<=c/\c<=126/\c≠37:=by
 have h:(fM.cps.toList.all λc=>decide (32<=c/\c<=126/\c≠37))=true:=by decide +kernel
 intro c a;exact of_decide_eq_true (abV.mp h c a)
theorem yS(h:z.cps.toList.length=1):∃c,z=⟨#[c]⟩:=by
 obtain⟨c,a⟩:=List.length_eq_one_iff.mp h;exact⟨c,jP (by rw[a])⟩
theorem oz:∀{ss:List Str},(∀z∈ss,z.cps.toList.length=1)->∃cs:List Nat,ss=cs.map λc=>(⟨#[c]⟩:Str)
 |[],_=>⟨[],rfl⟩
 | s::ss,h=>by
  obtain⟨c,rfl⟩:=yS (h s (aab ..));obtain⟨cs,rfl⟩:=oz (ss:=ss) λz a=>h z (aae _ a);exact⟨c::cs,rfl⟩
theorem gh:∀cs:List Nat,((cs.map λc=>(⟨#[c]⟩:Str)).map λz=>z.cps.toList).flatten=cs
 |[]=>rfl
 |c::cs=>by simp only[List.map_cons,List.flatten_cons,gh cs];rfl
theorem qy{cs:List Nat}(h:(cs.map λc=>(⟨#[c]⟩:Str)).Pairwise λa b=>cQ a b=true)(e:(cs.map λc=>(⟨#[c]⟩:Str)).Nodup):cs.Pairwise (·<·):=by
 rw[List.Nodup] at e;have h2:=h.and e;rw[List.pairwise_map] at h2;refine h2.imp fun {a b} d=>?_;have f:¬([b]<[a]):=dX.mp d.1;have i:¬(b<a):=λz=>f (List.Lex.rel z);have g:a≠b:=λz=>d.2 (by rw[z]);nofun
def uh(zs:List Str)(word:Str)(rest:List Str):Prop:=
 ((word = "none" ∨ word = "any")/\rest=[])∨(word = "signs" /\ ∃z,rest=[z]/\im z) ∨
 ((word = "again" ∨ word = "ahead" ∨ word = "not")/\rest.length=1/\∀z∈rest,z∈zs)∨((word = "row" ∨ word = "first")/\1<=rest.length/\rest.length<=8/\∀z∈rest,z∈zs)
abbrev aH(word:Str)(rest:List Str):D:=.tup (.str word::rest.map .str)
abbrev Rw:=Str×Str×List Str
variable{rows:List Rw}
abbrev dN(r:Rw):D:=.tup [.str r.1,aH r.2.1 r.2.2]
def EX(zs:List Str)(word:Str)(rest:List Str):Prop:=(∀z∈zs,cr z)/\uh zs word rest
def lw(word:Str)(rest:List Str):Prop:=∃zs:List Str,EX zs word rest
structure BookL(rows:List Rw):Prop where
 nd:(rows.map (·.1)).Nodup
 ok:∀r∈rows,cr r.1/\lw r.2.1 r.2.2
 few:rows.length<=30
 pool:∃zs:List Str,zs.length<=45/\∀r∈rows,EX zs r.2.1 r.2.2
def b6(word:Str)(rest:List Str):List Str:=if word = "signs" then [] else rest
inductive bG:Ct
 |mk {word:Str} {rest:List Str} {P:Pk} (h:P (.fl ((b6 word rest).map .str)) [.fz (aH word rest)]):bG [.fz (aH word rest)] P
abbrev uk:Stmt:=top 22
abbrev EY:FS:=
  (ak (fIf (au (fOp aEq (fOp aIx (ab 0) (fC (.int 0))) (fC (.str "signs"))))
   (bc (iZ ae))
   aL)
  (bc (fCB DT (aa (fSl aSl (ab 0) (dJ (fC (.int 1))) cp) ae))))
theorem EZ:Hh bG EY [] 1:=by
 intro os P h;obtain@⟨word,rest,_,q⟩:=h;unfold b6 at q
 have nw:eM (D.str word::rest.map D.str).length (some 1) none:=λz=>by
  have b:HT.sIx (D.str word::rest.map D.str).length 0 (some (1:Int))=1:=by
   rw[show (1:Int)=((1:Nat):Int) from rfl,HT.sIx_nat,abI];nofun
  rw[b] at z;nofun
 have a:eQ (D.str word::rest.map D.str) (some 1) none=rest.map D.str:=fI _ 1;ext;refine av ?_;ext;refine bY ?_;ext;refine⟨a7,?_⟩;ext;refine aq (word = "signs") bx (λhw=>?_) (λhw=>?_)
 ·ext;refine⟨aan _,?_⟩;ext;rw[if_pos hw] at q;exact q
 ·ext;refine⟨nw,?_⟩;rw[if_neg hw] at q;rw[a];ext;exact q
inductive Leaf where
 |lack|none|any|signs (s:Str)
variable{l:Leaf}
def um:Leaf->D
 |.lack=>.non
 |.none=>aH "none" []
 |.any=>aH "any" []
 |.signs s=>aH "signs" [s]
def Ms:Option Int->D
 |none=>.non
 |some i=>.int i
def mV(l:Leaf)(z:Str)(k:Nat):Option Int:=match l with
 |.lack=>none
 |.none=>some 0
 |.any=>if k<z.length then some 1 else none
 | .signs s=>match z.cps.toList[k]? with
  |some c=>if c∈s.cps.toList then some 1 else none
  |none=>none
theorem oA{s:Str}(h:z.cps.toList[k]?=none):mV (.signs s) z k=none:=by unfold mV;simp only[h]
theorem uo{s:Str}(h:z.cps.toList[k]?=some c):mV (.signs s) z k=if c∈s.cps.toList then some 1 else none:=by unfold mV;simp only[h]
inductive bJ:Ct
 |mk {l:Leaf} {z:Str} {k:Nat} {P:Pk} (hk:k<=z.length) (hz:z.length<=sizeLine) (h:P (.fz (Ms (mV l z k))) [.fz (um l),.fz (.str z),.fz (.int k)]):bJ [.fz (um l),.fz (.str z),.fz (.int k)] P
abbrev oB:Stmt:=top 39
abbrev yT:FS:=
  (ak (fIf (au (fOp tG (ab 0) (fC .non)))
   (bc (fC .non))
   aL)
  (ak (fIf (au (fOp aEq (fOp aIx (ab 0) (fC (.int 0))) (fC (.str "none"))))
   (bc (fC (.int 0)))
   aL)
  (ak (fIf (au (fOp aEq (ab 2) (fCB eY (aa (ab 1) ae))))
   (bc (fC .non))
   aL)
  (bc (Ia (fOr (au (fOp aEq (fOp aIx (ab 0) (fC (.int 0))) (fC (.str "any")))) (au (fOp aIn (fOp aIx (ab 1) (ab 2)) (fOp aIx (ab 0) (fC (.int 1)))))) (fC (.int 1)) (fC .non))))))
theorem yU:Hh bJ yT [] 3:=by
 intro os P h;obtain@⟨l,z,k,_,g,d,q⟩:=h;have sz:=du
 cases l with
 | lack=>
  ext;refine av ?_;ext;refine cH ?_;ext;exact q
 | none=>
  ext;refine av ?_;ext;refine cJ ?_;ext;refine av ?_;ext;refine⟨a7,?_⟩;ext;refine aq _ bx (λ_=>?_) (λhw=>absurd rfl hw);ext;exact q
 | any=>
  ext;refine av ?_;ext;refine cJ ?_;ext;refine av ?_;ext;refine⟨a7,?_⟩;ext;refine aq _ bx (λhw=>absurd hw (by decide +kernel)) (λ_=>?_);ext;refine av ?_;ext;refine⟨d,?_⟩;ext;refine⟨ar,?_⟩;ext;refine aq _ aV (λhe=>?_) (λhe=>?_)
  ·ext;have b:¬k<z.length:=by nofun
   have:mV .any z k=none:=if_neg b;rw[this] at q;exact q
  ·ext;have a:k<z.length:=by nofun
   refine⟨a7,?_⟩;ext;refine aq _ bx (λ_=>?_) (λhw=>absurd rfl hw);ext;refine cH ?_;ext;have:mV .any z k=some 1:=if_pos a;rw[this] at q;exact q
 | signs s=>
  ext;refine av ?_;ext;refine cJ ?_;ext;refine av ?_;ext;refine⟨a7,?_⟩;ext;refine aq _ bx (λhw=>absurd hw (by decide +kernel)) (λ_=>?_);ext;refine av ?_;ext;refine⟨d,?_⟩;ext;refine⟨ar,?_⟩;ext;refine aq _ aV (λhe=>?_) (λhe=>?_)
  ·ext;have b:¬k<z.length:=by nofun
   have:mV (.signs s) z k=none:=oA (List.getElem?_eq_none_iff.mpr (by rw[← gG];nofun));rw[this] at q;exact q
  ·ext;have a:k<z.length:=by nofun
   refine⟨a7,?_⟩;ext;refine aq _ bx (λhw=>absurd hw (by decide +kernel)) (λ_=>?_);ext;have f:z.cps.toList[k]?=some (z.cps.toList[k]'(by rw[← gG];exact a)):=List.getElem?_eq_getElem _;generalize z.cps.toList[k]'(by rw[← gG];exact a)=c at f;rw[uo f] at q;refine⟨d,?_⟩;rw[oq f];ext;refine aq _ decide_eq_true_iff (λe=>?_) (λe=>?_)
   ·ext;rw[if_pos e] at q;exact q
   ·ext;rw[if_neg e] at q;exact q
theorem oC{a:Addr}{c name:D}{place:Int}(h:∀b:Addr,P (.fz .non) [Mr a b c name place,.fz c,.fz name,.fz (.int place)]):aM [.ob ⟨a,0,[]⟩,.fz c,.fz name,.fz (.int place)] P:=by
 unfold aM;exact⟨a,c,name,place,rfl,h⟩
theorem bZ{a:Addr}{g f p2 e c b j i:FV}(h:P (.fz .non) [.ob ⟨a,0,[g,f,p2,e,c,b,.fz (.bl true),.fz d]⟩,.fz d]):ay [.ob ⟨a,0,[g,f,p2,e,c,b,j,i]⟩,.fz d] P:=by
 unfold ay;exact⟨a,g,f,p2,e,c,b,j,i,d,rfl,h⟩
abbrev ask1(a b:Addr)(c name:D)(place:Int)(len:D):OV:=.ob ⟨a,0,[.fz c,.fz name,.fz (.int place),.fz (.int place),.fz (.int 0),.fl b [],.fz (.bl true),.fz len]⟩
@[irreducible] def dA:Ct:=λos P=>∃(ks:List Key) (ds:List D) (z n:Str) (k:Nat),os=[.fz (.dct ks ds),.fz (.str z),.fz (.str n),.fz (.int k)]/\k<=z.length/\z.length<=sizeLine /\
  ((∃l,(ie ks ds (.inr n)).getD .non=um l/\∀a b,P (ask1 a b (um l) (.str n) k (Ms (mV l z k))) os) ∨
   ∃word rest,(ie ks ds (.inr n)).getD .non=aH word rest/\word ≠ "signs" /\ rest≠[]/\rest.length<=8/\∀a b,P (Mr a b (aH word rest) (.str n) k) os)
abbrev uq:Stmt:=top 40
abbrev E1:FS:=
  (ak (bX (EA (ab 0) (ab 2)) (ac 4))
  (ak (cq 5 (Jg 0 aM (aa (fFz (ab 4)) (aa (fFz (ab 2)) (aa (fFz (ab 3)) ae)))))
  (ak (fIf (fOr (au (fOp tG (ab 4) (fC .non))) (au (fOp aEq (fCB eY (aa (ag bG (aa (fFz (ab 4)) ae)) ae)) (fC (.int 0)))))
   (bQ (dL "end" 0 5 ay (aa (fFz (ag bJ (aa (fFz (ab 4)) (aa (fFz (ab 1)) (aa (fFz (ab 3)) ae))))) ae)))
   aL)
  (bc (ab 5)))))
theorem E2:Hh dA E1 [] 6:=by
 intro os P h;unfold dA at h;obtain⟨ks,ds,z,n,k,rfl,f,d,h⟩:=h;ext;rcases h with ⟨l,e,q⟩|⟨word,rest,e,hw,g,i,q⟩
 ·rw[e];ext;intro a;refine oC λb=>?_;ext;refine av ?_
  cases l with
  | lack=>
   ext;refine cH ?_;ext;refine cH ?_;ext;refine .mk (l:=.lack) f d ?_;ext;refine bZ ?_;ext;exact q a b
  | none=>
   ext;refine cJ ?_;ext;refine .mk ?_;ext;refine⟨ar,?_⟩;ext;refine aq _ aV (λ_=>?_) (λc=>absurd (by decide +kernel) c);ext;refine .mk (l:=.none) f d ?_;ext;refine bZ ?_;ext;exact q a b
  | any=>
   ext;refine cJ ?_;ext;refine .mk ?_;ext;refine⟨ar,?_⟩;ext;refine aq _ aV (λ_=>?_) (λc=>absurd (by decide +kernel) c);ext;refine .mk (l:=.any) f d ?_;ext;refine bZ ?_;ext;exact q a b
  | signs s=>
   ext;refine cJ ?_;ext;refine .mk ?_;ext;refine⟨ar,?_⟩;ext;refine aq _ aV (λ_=>?_) (λc=>absurd (by rw[show b6 "signs" [s]=[] from if_pos rfl];rfl) c);ext;refine .mk (l:=.signs s) f d ?_;ext;refine bZ ?_;ext;exact q a b
 ·rw[e];ext;intro a;refine oC λb=>?_;ext;refine av ?_;ext;refine cJ ?_;ext;refine .mk ?_;ext;refine⟨ar,?_⟩;ext;have hp:b6 word rest=rest:=if_neg hw;refine aq _ aV (λc=>?_) (λ_=>?_)
  ·rw[hp,abz] at c;exact absurd (List.length_eq_zero_iff.mp (by nofun)) g
  ·ext;exact q a b
inductive Rl where
 |leaf (l:Leaf)|comp (w:Str) (r:List Str)
variable{fm:Rl}
def rlD:Rl->D
 |.leaf l=>um l
 |.comp w r=>aH w r
def cS(o:Option Nat):D:=match o with
 |none=>.non
 |some k=>.int k
def iR(l:Leaf)(z:Str)(k:Nat):Option Nat:=match mV l z k with
 |none=>none
 |some i=>some i.toNat
theorem E3(l:Leaf)(z:Str)(k:Nat):Ms (mV l z k)=cS (iR l z k):=by
 unfold iR
 cases e:mV l z k with
 |none=>rfl
 | some i=>
  have:0<=i:=by
   unfold mV at e;split at e
   ·cases e
   ·cases e;decide
   ·split at e
    ·cases e;decide
    ·cases e
   ·split at e
    ·split at e
     ·cases e;decide
     ·cases e
    ·cases e
  show D.int i=D.int ((i.toNat:Nat):Int);rw[Int.toNat_of_nonneg this]
abbrev Sp2:=Str×Nat
variable{root q:Sp2}{st:List Sp2}
def b8(s:Sp2):D:=.tup [.str s.1,.int s.2]
structure As where
 fm:Rl
 n:Str
 k:Nat
 t:Nat
 tn:Nat
 st:List Sp2
 dn:Bool
 ln:Option Nat
variable{s:As}
abbrev asA(a b:Addr)(s:As):Oo:=⟨a,0,[.fz (rlD s.fm),.fz (.str s.n),.fz (.int s.k),.fz (.int s.t),.fz (.int s.tn),.fl b (s.st.map b8),.fz (.bl s.dn),.fz (cS s.ln)]⟩
def lx(s:As)(x:Option Nat):As:={ s with dn:=true,ln:=x }
def yV(r:List Str)(s:As)(x:Option Nat):As:=match x with
 |none=>lx s none
 |some l=>if s.tn+1=r.length then lx { s with t:=s.t+l,tn:=s.tn+1 } (some (s.t+l - s.k)) else { s with t:=s.t+l,tn:=s.tn+1 }
def ei(r:List Str)(s:As)(x:Option Nat):As:=if x≠none∨s.tn+1=r.length then lx { s with tn:=s.tn+1 } x else { s with tn:=s.tn+1 }
def fN(s:As)(x:Option Nat):As:=if x=none∨x=some 0 then lx s (some (s.t - s.k)) else { s with t:=s.t+x.getD 0 }
def aj(r:List Str)(s:As):Sp2:=(r.getD s.tn "", s.t)
def b5(w:Str)(r:List Str)(a:As)(x:Option Nat):As:=
 let s:={ a with st:=a.st++[aj r a] }
 if w = "row" then yV r s x else if w = "first" then ei r s x else if w = "again" then fN s x else if w = "ahead" then lx s (if x=none then none else some 0) else lx s (if x=none then some 0 else none)
inductive aW:Ct
 |mk {a b:Addr} {s:As} {w:Str} {r:List Str} {P:Pk} (hf:s.fm=.comp w r) (ht:s.tn<r.length) (hr:r.length<=8) (h:P (.fz (b8 (aj r s))) [.ob (asA a b s)]):aW [.ob (asA a b s)] P
inductive aQ:Ct
 |mk {a b:Addr} {s:As} {w:Str} {r:List Str} {x:Option Nat} {P:Pk} (hf:s.fm=.comp w r) (hr:r.length<=8) (hk:s.k<=s.t) (h:P (.fz .non) [.ob (asA a b (yV r s x)),.fz (cS x)]):aQ [.ob (asA a b s),.fz (cS x)] P
inductive aJ:Ct
 |mk {a b:Addr} {s:As} {w:Str} {r:List Str} {x:Option Nat} {P:Pk} (hf:s.fm=.comp w r) (hr:r.length<=8) (h:P (.fz .non) [.ob (asA a b (ei r s x)),.fz (cS x)]):aJ [.ob (asA a b s),.fz (cS x)] P
inductive aK:Ct
 |mk {a b:Addr} {s:As} {x:Option Nat} {P:Pk} (hk:s.k<=s.t) (h:P (.fz .non) [.ob (asA a b (fN s x)),.fz (cS x)]):aK [.ob (asA a b s),.fz (cS x)] P
inductive bH:Ct
 |mk {a b:Addr} {s:As} {w:Str} {r:List Str} {x:Option Nat} {P:Pk} (hf:s.fm=.comp w r) (ht:s.tn<r.length) (hr:r.length<=8) (hk:s.k<=s.t) (hs:s.st.length<sizeLine) (h:P (.fz .non) [.ob (asA a b (b5 w r s x)),.fz (cS x)]):bH [.ob (asA a b s),.fz (cS x)] P
abbrev ly:Stmt:=mth 38 2
abbrev ur:FS:=
  (bc (fw (aa (fOp aIx (fT 0 0 0) (fOp cL (fC (.int 1)) (fT 0 0 4))) (aa (fT 0 0 3) ae))))
abbrev A6:Stmt:=mth 38 4
abbrev JE:FS:=
  (ak (fIf (au (fOp tG (ab 1) (fC .non)))
   (ak (bQ (dL "end" 0 0 ay (aa (fC .non) ae)))
  Iv)
   aL)
  (ak (qo 0 0 3 (ab 1))
  (ak (qo 0 0 4 (fC (.int 1)))
  (fIf (au (fOp aEq (fT 0 0 4) (fOp (aI0 λi j=>.int (i - j)) (fCB eY (aa (fT 0 0 0) ae)) (fC (.int 1)))))
   (bQ (dL "end" 0 0 ay (aa (fFz (fOp (aI0 λi j=>.int (i - j)) (fT 0 0 3) (fT 0 0 2))) ae)))
   aL))))
abbrev oE:Stmt:=mth 38 5
abbrev yY:FS:=
  (ak (qo 0 0 4 (fC (.int 1)))
  (fIf (fOr (au (fOp qi (ab 1) (fC .non))) (au (fOp aEq (fT 0 0 4) (fOp (aI0 λi j=>.int (i - j)) (fCB eY (aa (fT 0 0 0) ae)) (fC (.int 1))))))
   (bQ (dL "end" 0 0 ay (aa (fFz (ab 1)) ae)))
   aL))
abbrev oF:Stmt:=mth 38 6
abbrev yZ:FS:=
  (fIf (fOr (au (fOp tG (ab 1) (fC .non))) (au (fOp aEq (ab 1) (fC (.int 0)))))
   (bQ (dL "end" 0 0 ay (aa (fFz (fOp (aI0 λi j=>.int (i - j)) (fT 0 0 3) (fT 0 0 2))) ae)))
   (qo 0 0 3 (ab 1)))
abbrev uu:Stmt:=mth 38 3
abbrev E4:FS:=
  (ak (bQ (yd 0 0 5 (dL "wanted" 0 0 aW ae)))
  (ak (bX (fOp aIx (fT 0 0 0) (fC (.int 0))) (ac 2))
  (fIf (au (fOp aEq (ab 2) (fC (.str "row"))))
   (bQ (dL "take_in_row" 0 0 aQ (aa (fFz (ab 1)) ae)))
   (fIf (au (fOp aEq (ab 2) (fC (.str "first"))))
   (bQ (dL "take_in_first" 0 0 aJ (aa (fFz (ab 1)) ae)))
   (fIf (au (fOp aEq (ab 2) (fC (.str "again"))))
   (bQ (dL "take_in_again" 0 0 aK (aa (fFz (ab 1)) ae)))
   (fIf (au (fOp aEq (ab 2) (fC (.str "ahead"))))
   (bQ (dL "end" 0 0 ay (aa (fFz (Ia (au (fOp tG (ab 1) (fC .non))) (fC .non) (fC (.int 0)))) ae)))
   (bQ (dL "end" 0 0 ay (aa (fFz (Ia (au (fOp tG (ab 1) (fC .non))) (fC (.int 0)) (fC .non))) ae)))))))))
theorem uv:Hh aW ur [0] 1:=by
 intro os P h;obtain@⟨a,b,s,w,r,_,d,c,hr,q⟩:=h;obtain⟨fm,n,k,t,tn,st,dn,ln⟩:=s;simp only at d c;subst d
 have f:atI (D.str w::List.map D.str r) (1+(tn:Int))=some (.str (r.getD tn "")):=by
  rw[show (1+(tn:Int))=((tn+1:Nat):Int) by nofun];refine oq ?_;rw[List.getElem?_cons_succ,List.getElem?_map,List.getD_eq_getElem?_getD,List.getElem?_eq_getElem c];rfl
 have e:2<=sizeLine:=by rw[sizeLine_eq];decide
 ext;rw[f];ext;refine⟨e,?_⟩;ext;exact q
theorem JF:Hh aQ JE [0] 2:=by
 intro os P h;obtain@⟨a,b,s,w,r,x,_,c,hr,f,q⟩:=h;obtain⟨fm,n,k,t,tn,st,dn,ln⟩:=s;simp only at c f;subst c;have sz:=du
 cases x with
 | none=>
  ext;refine av ?_;ext;refine cH ?_;ext;refine bZ ?_;ext;exact q
 | some l=>
  ext;refine av ?_;ext;refine cJ ?_;ext;refine av ?_;ext;refine⟨ar,?_⟩;ext;refine aq (tn+1=r.length) (aV.trans (by simp only[List.length_cons,List.length_map];nofun)) (λh=>?_) (λh=>?_)
  ·ext;refine bZ ?_;ext;rw[show yV r ⟨.comp w r,n,k,t,tn,st,dn,ln⟩ (some l)=lx ⟨.comp w r,n,k,t+l,tn+1,st,dn,ln⟩ (some (t+l - k)) from if_pos h] at q;have e:((t:Int)+(l:Int)) - (k:Int)=((t+l - k:Nat):Int):=by nofun
   have d:P (.fz .non) [.ob ⟨a,0,[.fz (aH w r),.fz (.str n),.fz (.int k),.fz (.int ((t:Int)+l)),.fz (.int ((tn:Int)+1)),.fl b (st.map b8),.fz (.bl true),.fz (.int ((t:Int)+l - k))]⟩,.fz (.int l)]:=by rw[e];exact q
   exact d
  ·ext;rw[show yV r ⟨.comp w r,n,k,t,tn,st,dn,ln⟩ (some l)=⟨.comp w r,n,k,t+l,tn+1,st,dn,ln⟩ from if_neg h] at q;exact q
theorem y0:Hh aJ yY [0] 2:=by
 intro os P h;obtain@⟨a,b,s,w,r,x,_,c,hr,q⟩:=h;obtain⟨fm,n,k,t,tn,st,dn,ln⟩:=s;simp only at c;subst c;have sz:=du
 cases x with
 | none=>
  ext;refine av ?_;ext;refine cJ ?_;ext;refine⟨ar,?_⟩;ext;refine aq (tn+1=r.length) (aV.trans (by simp only[List.length_cons,List.length_map];nofun)) (λh=>?_) (λh=>?_)
  ·ext;refine bZ ?_;ext;rw[show ei r ⟨.comp w r,n,k,t,tn,st,dn,ln⟩ none=lx ⟨.comp w r,n,k,t,tn+1,st,dn,ln⟩ none from if_pos (.inr h)] at q;exact q
  ·ext;rw[show ei r ⟨.comp w r,n,k,t,tn,st,dn,ln⟩ none=⟨.comp w r,n,k,t,tn+1,st,dn,ln⟩ from if_neg (λz=>z.elim (λy=>y rfl) h)] at q;exact q
 | some l=>
  ext;refine av ?_;ext;refine cH ?_;ext;refine cH ?_;ext;refine bZ ?_;ext;rw[show ei r ⟨.comp w r,n,k,t,tn,st,dn,ln⟩ (some l)=lx ⟨.comp w r,n,k,t,tn+1,st,dn,ln⟩ (some l) from if_pos (.inl (λz=>nomatch z))] at q;exact q
theorem y4:Hh aK yZ [0] 2:=by
 intro os P h;obtain@⟨a,b,s,x,_,c,q⟩:=h;obtain⟨fm,n,k,t,tn,st,dn,ln⟩:=s;simp only at c;have e:(t:Int) - (k:Int)=((t - k:Nat):Int):=by nofun
 have fi:∀y:D,P (.fz .non) [.ob (asA a b (lx ⟨fm,n,k,t,tn,st,dn,ln⟩ (some (t - k)))),.fz y]->P (.fz .non) [.ob ⟨a,0,[.fz (rlD fm),.fz (.str n),.fz (.int k),.fz (.int t),.fz (.int tn),.fl b (st.map b8),.fz (.bl true),.fz (.int ((t:Int) - k))]⟩,.fz y]:=λy q=>by rw[e];exact q
 cases x with
 | none=>
  ext;refine av ?_;ext;refine cH ?_;ext;refine cH ?_;ext;refine bZ ?_;ext;rw[show fN ⟨fm,n,k,t,tn,st,dn,ln⟩ none=lx ⟨fm,n,k,t,tn,st,dn,ln⟩ (some (t - k)) from if_pos (.inl rfl)] at q;exact fi _ q
 | some l=>
  ext;refine av ?_;ext;refine cJ ?_;ext;refine⟨ar,?_⟩;ext;refine aq (l=0) (aV.trans (by nofun)) (λh=>?_) (λh=>?_)
  ·ext;refine bZ ?_;ext;rw[show fN ⟨fm,n,k,t,tn,st,dn,ln⟩ (some l)=lx ⟨fm,n,k,t,tn,st,dn,ln⟩ (some (t - k)) from if_pos (.inr (by rw[h]))] at q;exact fi _ q
  ·ext;rw[show fN ⟨fm,n,k,t,tn,st,dn,ln⟩ (some l)=⟨fm,n,k,t+l,tn,st,dn,ln⟩ from if_neg (λz=>z.elim (λy=>nomatch y) λy=>h (aai y))] at q;exact q
theorem E5:Hh bH E4 [0] 3:=by
 intro os P h;obtain@⟨a,b,s,w,r,x,_,g,f,hr,e,hs,q⟩:=h;obtain⟨fm,n,k,t,tn,st,dn,ln⟩:=s;simp only at g f e hs;subst g;have hl:((st++[aj r ⟨.comp w r,n,k,t,tn,st,dn,ln⟩]).map b8)=st.map b8++[b8 (aj r ⟨.comp w r,n,k,t,tn,st,dn,ln⟩)]:=by rw[aad];rfl
 ext;refine .mk (s:=⟨.comp w r,n,k,t,tn,st,dn,ln⟩) rfl f hr ?_;ext;refine⟨rfl,by rw[abz];exact hs,?_⟩;rw[← hl];ext;refine bY ?_;ext;refine av ?_;ext;refine⟨a7,?_⟩;ext;refine aq (w = "row") bx (λh=>?_) (λh=>?_)
 ·ext;refine .mk (s:=⟨.comp w r,n,k,t,tn,st++[aj r ⟨.comp w r,n,k,t,tn,st,dn,ln⟩],dn,ln⟩) rfl hr e ?_;ext;rw[show b5 w r ⟨.comp w r,n,k,t,tn,st,dn,ln⟩ x=yV r ⟨.comp w r,n,k,t,tn,st++[aj r ⟨.comp w r,n,k,t,tn,st,dn,ln⟩],dn,ln⟩ x from if_pos h] at q;exact q
 ext;refine av ?_;ext;refine⟨a7,?_⟩;ext;refine aq (w = "first") bx (λh2=>?_) (λh2=>?_)
 ·ext;refine .mk (s:=⟨.comp w r,n,k,t,tn,st++[aj r ⟨.comp w r,n,k,t,tn,st,dn,ln⟩],dn,ln⟩) rfl hr ?_;ext;rw[show b5 w r ⟨.comp w r,n,k,t,tn,st,dn,ln⟩ x=ei r ⟨.comp w r,n,k,t,tn,st++[aj r ⟨.comp w r,n,k,t,tn,st,dn,ln⟩],dn,ln⟩ x from (if_neg h).trans (if_pos h2)] at q;exact q
 ext;refine av ?_;ext;refine⟨a7,?_⟩;ext;refine aq (w = "again") bx (λc=>?_) (λc=>?_)
 ·ext;refine .mk (s:=⟨.comp w r,n,k,t,tn,st++[aj r ⟨.comp w r,n,k,t,tn,st,dn,ln⟩],dn,ln⟩) e ?_;ext;rw[show b5 w r ⟨.comp w r,n,k,t,tn,st,dn,ln⟩ x=fN ⟨.comp w r,n,k,t,tn,st++[aj r ⟨.comp w r,n,k,t,tn,st,dn,ln⟩],dn,ln⟩ x from (if_neg h).trans ((if_neg h2).trans (if_pos c))] at q;exact q
 ext;refine av ?_;ext;refine⟨a7,?_⟩;ext;refine aq (w = "ahead") bx (λd=>?_) (λd=>?_)
 ·cases x with
  | none=>
   ext;refine cH ?_;ext;refine bZ ?_;ext;rw[show b5 w r ⟨.comp w r,n,k,t,tn,st,dn,ln⟩ none=lx ⟨.comp w r,n,k,t,tn,st++[aj r ⟨.comp w r,n,k,t,tn,st,dn,ln⟩],dn,ln⟩ none from (if_neg h).trans ((if_neg h2).trans ((if_neg c).trans (if_pos d)))] at q;exact q
  | some l=>
   ext;refine cJ ?_;ext;refine bZ ?_;ext;rw[show b5 w r ⟨.comp w r,n,k,t,tn,st,dn,ln⟩ (some l)=lx ⟨.comp w r,n,k,t,tn,st++[aj r ⟨.comp w r,n,k,t,tn,st,dn,ln⟩],dn,ln⟩ (some 0) from (if_neg h).trans ((if_neg h2).trans ((if_neg c).trans (if_pos d)))] at q;exact q
 ·cases x with
  | none=>
   ext;refine cH ?_;ext;refine bZ ?_;ext;rw[show b5 w r ⟨.comp w r,n,k,t,tn,st,dn,ln⟩ none=lx ⟨.comp w r,n,k,t,tn,st++[aj r ⟨.comp w r,n,k,t,tn,st,dn,ln⟩],dn,ln⟩ (some 0) from (if_neg h).trans ((if_neg h2).trans ((if_neg c).trans (if_neg d)))] at q;exact q
  | some l=>
   ext;refine cJ ?_;ext;refine bZ ?_;ext;rw[show b5 w r ⟨.comp w r,n,k,t,tn,st,dn,ln⟩ (some l)=lx ⟨.comp w r,n,k,t,tn,st++[aj r ⟨.comp w r,n,k,t,tn,st,dn,ln⟩],dn,ln⟩ none from (if_neg h).trans ((if_neg h2).trans ((if_neg c).trans (if_neg d)))] at q;exact q
def mW:List Str->List Str->List Str
 |ls,[]=>ls
 |ls,m::ms=>mW (if m∈ls then ls else ls++[m]) ms
structure Res where
 ln:Option Nat
 far:Nat
 ls:List Str
variable{r r':Res}{e:Sp2×Res}
abbrev Rls:=Str->Rl
variable{R:Rls}
def da(R:Rls)(z:Str)(n:Str)(k:Nat):As:=match R n with
 |.leaf l=>⟨.leaf l,n,k,k,0,[],true,iR l z k⟩
 |.comp w r=>⟨.comp w r,n,k,k,0,[],false,none⟩
def goF(R:Rls)(z:Str):Nat->As->Nat->List Str->Option Res
 |0,_,_,_=>none
 | f+1,s,far,ls=>if s.dn=true then some ⟨s.ln,far,ls⟩ else match s.fm with
  |.leaf _=>none
  | .comp w r=>match goF R z f (da R z (aj r s).1 (aj r s).2) (aj r s).2 [(aj r s).1] with
   |none=>none
   |some t=>goF R z f (b5 w r s t.ln) (max far t.far) (mW ls t.ls)
abbrev rdF(R:Rls)(z:Str)(f:Nat)(n:Str)(k:Nat):Option Res:=goF R z f (da R z n k) k [n]
theorem mX(h:s.dn=true):goF R z (f+1) s far ls=some ⟨s.ln,far,ls⟩:=if_pos h
theorem mY(h:s.dn=false)(e:goF R z (f+1) s far ls=some r):∃w p t,s.fm=.comp w p/\rdF R z f (aj p s).1 (aj p s).2=some t/\goF R z f (b5 w p s t.ln) (max far t.far) (mW ls t.ls)=some r:=by
 unfold goF at e;rw[if_neg (by rw[h];decide)] at e
 cases b:s.fm with
 |leaf l=>rw[b] at e;cases e
 | comp w p=>
  rw[b] at e;simp only at e
  cases a:rdF R z f (aj p s).1 (aj p s).2 with
  |none=>rw [show goF R z f (da R z (aj p s).1 (aj p s).2) (aj p s).2 [(aj p s).1]=none from a] at e;cases e
  | some t=>
   rw[show goF R z f (da R z (aj p s).1 (aj p s).2) (aj p s).2 [(aj p s).1]=some t from a] at e;exact⟨w,p,t,rfl,a,e⟩
theorem jK{t:Res}(h:s.dn=false)(b:s.fm=.comp w p)(a:rdF R z f (aj p s).1 (aj p s).2=some t):goF R z (f+1) s far ls=goF R z f (b5 w p s t.ln) (max far t.far) (mW ls t.ls):=by
 rw[goF,if_neg (by rw[h];decide),b];simp only;rw[show goF R z f (da R z (aj p s).1 (aj p s).2) (aj p s).2 [(aj p s).1]=some t from a]
theorem j8:∀{f:Nat} {s:As} {far:Nat} {ls:List Str} {r:Res},goF R z f s far ls=some r->goF R z (f+1) s far ls=some r
 |0,_,_,_,_,e=>nomatch e
 | f+1,s,far,ls,r,e=>by
  cases h:s.dn with
  |true=>rw [mX h] at e ⊢;exact e
  | false=>
   obtain⟨w,p,t,b,a,c⟩:=mY h e;rw[jK h b (j8 a)];exact j8 c
theorem y6(h:f<=g)(e:goF R z f s far ls=some r):goF R z g s far ls=some r:=by
 induction h with
 |refl=>exact e
 |step _ a=>exact j8 a
theorem jx{t:Res}(b:goF R z f s far ls=some r)(a:goF R z g s far ls=some t):r=t:=
 aai ((y6 (Nat.le_max_left f g) b).symm.trans (y6 (Nat.le_max_right f g) a))
def io(R:Rls)(zs:List Str):Prop:=∀n w p,R n=.comp w p->w ≠ "signs" /\ 1<=p.length/\p.length<=8/\∀x∈p,x∈zs
structure AsOk(R:Rls)(z:Str)(zs:List Str)(s:As):Prop where
 fm:s.fm=R s.n
 nz:s.n∈zs
 kt:s.k<=s.t
 tz:s.t<=z.length
 tn:s.dn=false->∃w p,s.fm=.comp w p/\s.tn<p.length
 t8:s.tn<=8
 st:s.st.length<=(s.t - s.k)+s.tn+(if s.dn=true then 1 else 0)
 ln:∀l,s.dn=true->s.ln=some l->s.k+l<=z.length
theorem E6(a:k<=z.length)(e:iR l z k=some m):k+m<=z.length:=by
 unfold iR at e
 cases h:mV l z k with
 |none=>rw[h] at e;cases e
 | some i=>
  rw[h] at e;cases e;unfold mV at h;split at h
  ·cases h
  ·cases h;exact a
  ·split at h
   ·cases h;show k+1<=_;nofun
   ·cases h
  ·split at h
   ·rename_i c b;have:k<z.length:=by rw[gG];exact(List.getElem?_eq_some_iff.mp b).1
    split at h
    ·cases h;show k+1<=_;nofun
    ·cases h
   ·cases h
theorem jy(h:io R zs)(b:n∈zs)(a:k<=z.length):AsOk R z zs (da R z n k):=by
 unfold da
 cases e:R n with
 |leaf l=>exact⟨e.symm,b,aac _,a,(λz=>nomatch z),aan _,aan _,λm _ q=>E6 a q⟩
 |comp w p=>exact⟨e.symm,b,aac _,a,λ_=>⟨w,p,rfl,(h n w p e).2.1⟩,aan _,aan _,λm z=>nomatch z⟩
theorem ci :(da R z n k).n=n/\(da R z n k).k=k/\(da R z n k).st=[]:=by
 unfold da;cases R n <;> exact⟨rfl,rfl,rfl⟩
theorem gi(w:Str)(p:List Str)(s:As)(x:Option Nat):∃t tn dn ln,b5 w p s x=⟨s.fm,s.n,s.k,t,tn,s.st++[aj p s],dn,ln⟩ /\
    ((dn=true/\(t=s.t∨∃l,x=some l/\t=s.t+l)/\(tn=s.tn∨tn=s.tn+1)/\(∀m,ln=some m->m=0∨m<=t - s.k∨x=some m)) ∨
     (dn=s.dn/\((∃l,x=some l/\t=s.t+l/\tn=s.tn+1/\tn≠p.length)∨(t=s.t/\tn=s.tn+1/\tn≠p.length)∨∃l,x=some l/\0<l/\t=s.t+l/\tn=s.tn))):=by
  by_cases h1:w = "row"
  · rw[show b5 w p s x=yV p { s with st:=s.st++[aj p s] } x from if_pos h1]
    cases x with
    |none=>exact⟨_,_,_,_,rfl,.inl ⟨rfl,.inl rfl,.inl rfl,λm z=>nomatch z⟩⟩
    | some l=>
      by_cases h:s.tn+1=p.length
      · rw[show yV p { s with st:=s.st++[aj p s] } (some l)=⟨s.fm,s.n,s.k,s.t+l,s.tn+1,s.st++[aj p s],true,some (s.t+l - s.k)⟩ from if_pos h]
        exact⟨_,_,_,_,rfl,.inl ⟨rfl,.inr ⟨l,rfl,rfl⟩,.inr rfl,λm z=>.inr (.inl (by cases z;exact aac _))⟩⟩
      · rw[show yV p { s with st:=s.st++[aj p s] } (some l)=⟨s.fm,s.n,s.k,s.t+l,s.tn+1,s.st++[aj p s],s.dn,s.ln⟩ from if_neg h]
        exact⟨_,_,_,_,rfl,.inr ⟨rfl,.inl ⟨l,rfl,rfl,rfl,h⟩⟩⟩
  by_cases h2:w = "first"
  · rw[show b5 w p s x=ei p { s with st:=s.st++[aj p s] } x from (if_neg h1).trans (if_pos h2)]
    by_cases h:x≠none∨s.tn+1=p.length
    · rw[show ei p { s with st:=s.st++[aj p s] } x=⟨s.fm,s.n,s.k,s.t,s.tn+1,s.st++[aj p s],true,x⟩ from if_pos h]
      exact⟨_,_,_,_,rfl,.inl ⟨rfl,.inl rfl,.inr rfl,λm z=>.inr (.inr z)⟩⟩
    · rw[show ei p { s with st:=s.st++[aj p s] } x=⟨s.fm,s.n,s.k,s.t,s.tn+1,s.st++[aj p s],s.dn,s.ln⟩ from if_neg h]
      exact⟨_,_,_,_,rfl,.inr ⟨rfl,.inr (.inl ⟨rfl,rfl,λz=>h (.inr z)⟩)⟩⟩
  by_cases a:w = "again"
  · rw[show b5 w p s x=fN { s with st:=s.st++[aj p s] } x from (if_neg h1).trans ((if_neg h2).trans (if_pos a))]
    by_cases h:x=none∨x=some 0
    · rw[show fN { s with st:=s.st++[aj p s] } x=⟨s.fm,s.n,s.k,s.t,s.tn,s.st++[aj p s],true,some (s.t - s.k)⟩ from if_pos h]
      exact⟨_,_,_,_,rfl,.inl ⟨rfl,.inl rfl,.inl rfl,λm z=>.inr (.inl (by cases z;exact aac _))⟩⟩
    · rw[show fN { s with st:=s.st++[aj p s] } x=⟨s.fm,s.n,s.k,s.t+x.getD 0,s.tn,s.st++[aj p s],s.dn,s.ln⟩ from if_neg h]
      cases x with
      |none=>exact absurd (.inl rfl) h
      |some l=>exact⟨_,_,_,_,rfl,.inr ⟨rfl,.inr (.inr ⟨l,rfl,Nat.pos_of_ne_zero λz=>h (.inr (by rw[z])),rfl,rfl⟩)⟩⟩
  suffices fin:∃y:Option Nat,(∀m,y=some m->m=0)/\b5 w p s x=lx { s with st:=s.st++[aj p s] } y by
    obtain⟨y,c,e⟩:=fin;rw[e];exact⟨_,_,_,_,rfl,.inl ⟨rfl,.inl rfl,.inl rfl,λm z=>.inl (c m z)⟩⟩
  by_cases b:w = "ahead"
  · refine⟨if x=none then none else some 0,λm z=>?_,(if_neg h1).trans ((if_neg h2).trans ((if_neg a).trans (if_pos b)))⟩
    split at z
    · cases z
    · cases z;rfl
  · refine⟨if x=none then some 0 else none,λm z=>?_,(if_neg h1).trans ((if_neg h2).trans ((if_neg a).trans (if_neg b)))⟩
    split at z
    · cases z;rfl
    · cases z
theorem j9{x:Option Nat}(j:io R zs)(O:AsOk R z zs s)(hd:s.dn=false)(f:s.fm=.comp w p)(hx:∀l,x=some l->s.t+l<=z.length):AsOk R z zs (b5 w p s x):=by
 have hp:=(j s.n w p (O.fm.symm.trans f)).2.2.1;obtain⟨o,r,b,u⟩:=O.tn hd;rw[f] at b;cases b;have h1:=O.kt;have h2:=O.tz;have k:=O.st;rw[hd,if_neg (by decide)] at k;obtain⟨t,tn,dn,ln,e,c⟩:=gi w p s x;rw[e];have hl:(s.st++[aj p s]).length=s.st.length+1:=by rw[abB];rfl
 rcases c with ⟨rfl,a,i,d⟩|⟨rfl,c⟩
 ·have g1:s.t<=t/\t<=z.length:=by
   rcases a with a|⟨l,a,g⟩
   ·nofun
   ·have:=hx l a;nofun
  clear a;refine⟨O.fm,O.nz,by show s.k<=t;nofun,g1.2,(λz=>nomatch z),by show tn<=8;nofun,?_,λl _ q=>?_⟩
  ·show (s.st++[aj p s]).length<=(t - s.k)+tn+(if true=true then 1 else 0);rw[hl,if_pos rfl];nofun
  ·show s.k+l<=z.length;rcases d l q with y|y|y
   ·nofun
   ·nofun
   ·have:=hx l y;nofun
 ·have mk:s.t<=t->t<=z.length->tn<p.length->s.st.length+1<=(t - s.k)+tn->AsOk R z zs ⟨s.fm,s.n,s.k,t,tn,s.st++[aj p s],s.dn,ln⟩:=λA n m v=>by
   refine⟨O.fm,O.nz,by show s.k<=t;nofun,n,λ_=>⟨w,p,f,m⟩,by show tn<=8;nofun,?_,λl q=>?_⟩
   ·show (s.st++[aj p s]).length<=(t - s.k)+tn+(if s.dn=true then 1 else 0);rw[hl,hd,if_neg (by decide)];nofun
   ·exact absurd (hd.symm.trans q) (by decide)
  rcases c with ⟨l,a,i,d,g⟩|⟨i,d,g⟩|⟨l,a,i,d,g⟩
  ·have:=hx l a;exact mk (by nofun) (by nofun) (by nofun) (by nofun)
  ·exact mk (by nofun) (by nofun) (by nofun) (by nofun)
  ·have:=hx l a;exact mk (by nofun) (by nofun) (by nofun) (by nofun)
theorem ka:∀{ms ls:List Str},ls.Nodup->(mW ls ms).Nodup
 |[],_,h=>h
 | m::ms,ls,h=>by
  refine ka (ms:=ms) ?_;split
  ·exact h
  ·rename_i c;exact abN.mpr ⟨h,by simp,λa e b d z=>c (by rw[← List.mem_singleton.mp d,← z];exact e)⟩
theorem gI:∀{ms ls:List Str} {x:Str},x∈mW ls ms↔x∈ls∨x∈ms
 |[],ls,x=>by show x∈ls↔_;simp
 | m::ms,ls,x=>by
  show x∈mW (if m∈ls then ls else ls++[m]) ms↔_;rw[gI (ms:=ms)];split
  ·rename_i a;simp only[List.mem_cons];constructor
   ·rintro (h|h)
    ·exact .inl h
    ·exact .inr (.inr h)
   ·rintro (h|h|h)
    ·exact .inl h
    ·exact .inl (h ▸ a)
    ·exact .inr h
  ·simp only[List.mem_append,List.mem_cons,List.not_mem_nil,or_false,or_assoc]
structure ResOk(z:Str)(zs:List Str)(k:Nat)(r:Res):Prop where
 ln:∀l,r.ln=some l->k+l<=z.length
 kf:k<=r.far
 fz:r.far<=z.length
 nd:r.ls.Nodup
 sub:∀x∈r.ls,x∈zs
theorem E7(c:io R zs):∀{f:Nat} {s:As} {far:Nat} {ls:List Str} {r:Res},AsOk R z zs s->s.k<=far->far<=z.length->ls.Nodup->(∀x∈ls,x∈zs)->goF R z f s far ls=some r->ResOk z zs s.k r
 |0,_,_,_,_,_,_,_,_,_,e=>nomatch e
 | f+1,s,far,ls,r,O,h1,h2,i,g,e=>by
  cases h:s.dn with
  | true=>
   rw[mX h] at e;cases e;exact⟨λl q=>O.ln l h q,h1,h2,i,g⟩
  | false=>
   obtain⟨w,p,t,d,m,n⟩:=mY h e;obtain⟨o,u,b,a⟩:=O.tn h;rw[d] at b;cases b
   have hw:(aj p s).1∈zs:=by
    refine(c s.n w p (O.fm.symm.trans d)).2.2.2 _ ?_;show p.getD s.tn "" ∈ p;rw[List.getD_eq_getElem?_getD,List.getElem?_eq_getElem a];exact aaQ a
   have T:=E7 c (jy c hw O.tz) (by rw[ci.2.1];exact aac _) O.tz (by simp) (by exists hw) m;rw[ci.2.1] at T;have q:=gi w p s t.ln
   have j:(b5 w p s t.ln).k=s.k:=by
    obtain⟨_,_,_,_,q,_⟩:=q;rw[q]
   have:=E7 c (j9 c O h d λl q=>T.ln l q) (by rw[j];nofun) (by have:=T.fz;nofun) (ka i) (λx k=>(gI.mp k).elim (g x) (T.sub x)) n;rw[j] at this;exact this
theorem JG(c:io R zs)(a:n∈zs)(b:k<=z.length)(e:rdF R z f n k=some r):ResOk z zs k r:=by
 have:=E7 c (jy c a b) (by rw[ci.2.1];exact aac _) b (by simp) (by exists a) e
 rwa [ci.2.1] at this
def eR(R:Rls)(z:Str):Nat->As->As
 |0,s=>s
 | f+1,s=>if s.dn=true then s else match s.fm with
  |.leaf _=>s
  | .comp w p=>match rdF R z f (aj p s).1 (aj p s).2 with
   |none=>s
   |some t=>eR R z f (b5 w p s t.ln)
theorem lz(h:s.dn=true):eR R z f s=s:=by
 cases f with
 |zero=>rfl
 |succ f=>exact if_pos h
theorem lA{t:Res}(h:s.dn=false)(b:s.fm=.comp w p)(a:rdF R z f (aj p s).1 (aj p s).2=some t):eR R z (f+1) s=eR R z f (b5 w p s t.ln):=by
 rw[eR,if_neg (by rw[h];decide),b];simp only;rw[a]
theorem oG:∀{f:Nat} {s:As} {far:Nat} {ls:List Str} {r:Res},goF R z f s far ls=some r->eR R z (f+1) s=eR R z f s
 |0,_,_,_,_,e=>nomatch e
 | f+1,s,far,ls,r,e=>by
  cases h:s.dn with
  |true=>rw [lz h,lz h]
  | false=>
   obtain⟨w,p,t,b,a,c⟩:=mY h e;rw[lA h b (j8 a),lA h b a];exact oG c
theorem A7(h:f<=g)(e:goF R z f s far ls=some r):eR R z g s=eR R z f s:=by
 induction h with
 |refl=>rfl
 |step h a=>rw[oG (y6 h e),a]
theorem JH{a:Nat}{b:List Str}{t:Res}(d:goF R z f s far ls=some r)(c:goF R z g s a b=some t):eR R z f s=eR R z g s:=by
 rw[← A7 (Nat.le_max_left f g) d,← A7 (Nat.le_max_right f g) c]
theorem A8:∀{f:Nat} {s:As} {q:Sp2},q∈s.st->q∈(eR R z f s).st
 |0,_,_,h=>h
 | f+1,s,q,h=>by
  unfold eR;split
  ·exact h
  ·split
   ·exact h
   ·rename_i w p _;split
    ·exact h
    ·rename_i t _;refine A8 ?_;obtain⟨_,_,_,_,e,_⟩:=gi w p s t.ln;rw[e];exact aaw _ h
theorem E8(c:io R zs)(O:AsOk R z zs s)(b:s.fm=.comp w p)(a:s.tn<p.length):(aj p s).1∈zs:=by
 refine(c s.n w p (O.fm.symm.trans b)).2.2.2 _ ?_;show p.getD s.tn "" ∈ p;rw[List.getD_eq_getElem?_getD,List.getElem?_eq_getElem a];exact aaQ a
theorem A9(c:io R zs):∀{f:Nat} {s:As},AsOk R z zs s->AsOk R z zs (eR R z f s)
 |0,_,h=>h
 | f+1,s,O=>by
  unfold eR;split
  ·exact O
  ·rename_i hd;have b:s.dn=false:=abT.mpr hd;split
   ·exact O
   ·rename_i w p e;split
    ·exact O
    ·rename_i t g;obtain⟨i,j,a,d⟩:=O.tn b;rw[e] at a;cases a;exact A9 c (j9 c O b e λl q=>(JG c (E8 c O e d) O.tz g).ln l q)
def lB(R:Rls)(z:Str)(f:Nat)(q:Sp2):List Sp2:=(eR R z f (da R z q.1 q.2)).st
abbrev Kp:=List (Sp2×Res)
variable{K es:Kp}
def mZ(s:Sp2):List Key:=[.inr s.1,.inl s.2]
def lsD(ls:List Str):D:=.dct (ls.map .inr) (ls.map λ_=>.bl true)
def qV(k:Nat)(t:Res):D:=.tup [cS t.ln,.int ((t.far:Int) - (k:Int)+1),lsD t.ls]
abbrev ja(K:Kp):List (List Key):=K.map λe=>mZ e.1
abbrev jz(K:Kp):List D:=K.map λe=>qV e.1.2 e.2
theorem kb{s t:Sp2}(h:mZ s=mZ t):s=t:=by
 obtain⟨a,b⟩:=s;obtain⟨c,d⟩:=t;have h1:=List.cons.inj h;have h2:=List.cons.inj h1.2;have f:a=c:=aa8 h1.1;have e:(b:Int)=(d:Int):=Sum.inl.inj h2.1;rw[f,Int.ofNat.inj e]
theorem ke{s:Sp2}:tm (ja K) (mZ s)=true↔s∈K.map (·.1):=by
 unfold tm;rw[aaV];constructor
 ·rintro⟨x,a,h⟩;obtain⟨e,he,rfl⟩:=abE.mp a;exact abE.mpr ⟨e,he,kb (of_decide_eq_true h)⟩
 ·intro h;obtain⟨e,he,rfl⟩:=abE.mp h;exact⟨_,abE.mpr ⟨e,he,rfl⟩,decide_eq_true rfl⟩
theorem et:∀{K:Kp} {e:Sp2×Res},(K.map (·.1)).Nodup->e∈K->gc (ja K) (jz K) (mZ e.1)=some (qV e.1.2 e.2)
 |[],_,_,h=>nomatch h
 | x::K,e,nd,h=>by
  have a:=abJ.mp nd;unfold gc ja jz;rw[abC,abC,abZ,List.find?_cons];rcases abH.mp h with q|q
  ·rw[q];simp
  ·have:decide (mZ x.1=mZ e.1)=false:=decide_eq_false λz=>a.1 (abE.mpr ⟨e,q,(kb z).symm⟩);simp only[this];exact et a.2 q
def e8(k:Nat)(es:Kp):Nat:=es.foldl (λm e=>max m e.2.far) k
def lD(ls:List Str)(es:Kp):List Str:=es.foldl (λl e=>mW l e.2.ls) ls
theorem e9{ks:List (List Key)}{k:List Key}(h:gc ks ds k=some d)(q:Q d):match gc ks ds k with
  |some d=>Q d
  |none=>False:=by rw [h];exact q
theorem qz(h:es[i]?=some e):e8 k (es.take (i+1))=max (e8 k (es.take i)) e.2.far:=by
 unfold e8;rw[aam,h,abo];rfl
theorem uw(h:es[i]?=some e):lD ls (es.take (i+1))=mW (lD ls (es.take i)) e.2.ls:=by
 unfold lD;rw[aam,h,abo];rfl
theorem ux:∀{ms ls:List Str},EI (ls.map Sum.inr) (ls.map λ_=>D.bl true) (ms.map Sum.inr) (ms.map λ_=>D.bl true)=((mW ls ms).map Sum.inr,(mW ls ms).map λ_=>D.bl true)
 |[],ls=>rfl
 | m::ms,ls=>by
  have e:gq (ls.map Sum.inr) (ls.map λ_=>D.bl true) (Sum.inr m) (.bl true)=((if m∈ls then ls else ls++[m]).map Sum.inr,(if m∈ls then ls else ls++[m]).map λ_=>D.bl true):=by
   have b:((ls.map Sum.inr:List Key).any λx=>decide (x=Sum.inr m))=true↔m∈ls:=by
    rw[aaV];constructor
    ·rintro⟨x,f,h⟩;obtain⟨y,d,rfl⟩:=abE.mp f;exact aa8 (of_decide_eq_true h) ▸ d
    ·intro h;exact⟨_,abE.mpr ⟨m,h,rfl⟩,decide_eq_true rfl⟩
   unfold gq;by_cases h:m∈ls
   ·rw[if_pos (b.mpr h),if_pos h]
    congr 1
    clear b h
    induction ls with
    |nil=>rfl
    | cons a ls c=>
     simp only[List.map_cons,List.zip_cons_cons];rw[c]
     congr 1
     split <;> rfl
   ·rw[if_neg (λz=>h (b.mp z)),if_neg h,aad,aad];rfl
  show EI (gq (ls.map Sum.inr) (ls.map λ_=>D.bl true) (Sum.inr m) (.bl true)).1 (gq (ls.map Sum.inr) (ls.map λ_=>D.bl true) (Sum.inr m) (.bl true)).2 (ms.map Sum.inr) (ms.map λ_=>D.bl true)=_;rw[e];exact ux
@[irreducible] def fj:Ct:=λos P=>∃(a b:Addr) (s:As) (K es:Kp) (m:Nat),os=[.ob (asA a b s),.ft (ja K) (jz K)]/\(K.map (·.1)).Nodup/\s.st=es.map (·.1)/\(∀e∈es,e∈K/\e.1.2<=e.2.far)/\(∀i,(lD [s.n] (es.take i)).length<=m)/\(∀e∈es,e.2.ls.length<=m)/\m+m<=sizeLine /\
 P (.fz (qV s.k ⟨s.ln,e8 s.k es,lD [s.n] es⟩)) [.ob ⟨a,0,[.fz (rlD s.fm),.fz (.str s.n),.fz (.int s.k),.fz (.int s.t),.fz (.int s.tn),.fz (.lst (s.st.map b8)),.fz (.bl s.dn),.fz (cS s.ln)]⟩,.ft (ja K) (jz K)]
abbrev uy:Stmt:=top 41
abbrev E9:FS:=
  (ak (bX (fT 0 0 2) (ac 2))
  (ak (cq 3 (t7 (fT 0 0 1) (fC (.bl true))))
  (ak (p9 (cf (mR 0 0 5)) (ac 4)
   (ak (bX (fOp aIx (ab 1) (ab 4)) (i5 3 (aU (ac 5) (aU (ac 6) (aU (ac 7) i4)))))
  (ak (bX (fCB KW (aa (ab 2) (aa (fOp (aI0 λi j=>.int (i - j)) (fOp cL (fOp aIx (ab 4) (fC (.int 1))) (ab 6)) (fC (.int 1))) ae))) (ac 2))
  (bQ (M6 3 (ab 7))))))
  (bc (fw (aa (fT 0 0 7) (aa (fOp cL (fOp (aI0 λi j=>.int (i - j)) (ab 2) (fT 0 0 2)) (fC (.int 1))) (aa (ab 3) ae))))))))
theorem Fa:Hh fj E9 [0,1] 8:=by
 intro os P h;unfold fj at h;obtain⟨a,b,s,K,es,m,rfl,nd,c,r,f,p,y,q⟩:=h;obtain⟨fm,n,k,t,tn,st,dn,ln⟩:=s;simp only at c f;subst c;have sz:=du;ext;rw[aau];refine bP (λi ρ=>∃o l j g:Option OV,ρ=[some (.ob ⟨a,0,[.fz (rlD fm),.fz (.str n),.fz (.int k),.fz (.int t),.fz (.int tn),.fz (.lst (es.map (b8 ∘ λx=>x.1))),.fz (.bl dn),.fz (cS ln)]⟩),some (.ft (ja K) (jz K)),some (.fz (.int (e8 k (es.take i)))),some (.fd ((lD [n] (es.take i)).map Sum.inr) ((lD [n] (es.take i)).map λ_=>.bl true)),o,l,j,g]) ⟨none,none,none,none,?_⟩ ?_ ?_
 ·rfl
 ·rintro i d ρ R hd ⟨o,l,j,g,rfl⟩ u;rw[List.getElem?_map] at hd
  cases he:es[i]? with
  |none=>rw [he] at hd;cases hd
  | some e=>
   rw[he] at hd;cases hd;have v:=r e (List.mem_of_getElem? he);have h1:=f i;have h2:=p e (List.mem_of_getElem? he);ext;refine e9 (et nd v.1) ?_;ext;refine⟨rfl,?_⟩;ext;refine⟨rfl,?_⟩;ext;rw[abz,abz];refine⟨by nofun,?_⟩;rw[ux,← uw he]
   have w:(if ((e.1.2:Int)+((e.2.far:Int) - (e.1.2:Int)+1) - 1) > (e8 k (es.take i):Int) then ((e.1.2:Int)+((e.2.far:Int) - (e.1.2:Int)+1) - 1) else (e8 k (es.take i):Int))=((e8 k (es.take (i+1)):Nat):Int):=by
    rw[qz he];split <;> nofun
   refine u _ ⟨some (.fz (b8 e.1)),some (.fz (cS e.2.ln)),some (.fz (.int ((e.2.far:Int) - (e.1.2:Int)+1))),some (.fz (lsD e.2.ls)),?_⟩;rw[← w];rfl
 ·rintro ρ ⟨o,l,j,g,rfl⟩;rw[abz,aah (aac _)];ext;refine⟨(by rw[sizeLine_eq];exact(by decide:(3:Nat)<=16777216)),?_⟩;ext;rw[aau] at q;exact q
theorem y8{a b:Addr}(nd:(K.map (·.1)).Nodup)(h1:s.st=es.map (·.1))(h2:∀e∈es,e∈K/\e.1.2<=e.2.far)(f:∀i,(lD [s.n] (es.take i)).length<=m)(d:∀e∈es,e.2.ls.length<=m)(c:m+m<=sizeLine)
  (h:P (.fz (qV s.k ⟨s.ln,e8 s.k es,lD [s.n] es⟩)) [.ob ⟨a,0,[.fz (rlD s.fm),.fz (.str s.n),.fz (.int s.k),.fz (.int s.t),.fz (.int s.tn),.fz (.lst (s.st.map b8)),.fz (.bl s.dn),.fz (cS s.ln)]⟩,.ft (ja K) (jz K)]):fj [.ob (asA a b s),.ft (ja K) (jz K)] P:=by
 unfold fj;exact⟨a,b,s,K,es,m,rfl,nd,h1,h2,f,d,c,h⟩
def Tf:Nat->Nat
 |0=>0
 |f+1=>2*Tf f+3
theorem Fb(h:f<=g):Tf f<=Tf g:=by
 induction h with
 |refl=>exact aac _
 | @step m _ a=>
  show Tf f<=2*Tf m+3;nofun
structure Lst(R:Rls)(z:Str)(q:Sp2)(g:Nat)(r:Res):Prop where
 rd:rdF R z g q.1 q.2=some r
 lo:∀f t,rdF R z f q.1 q.2=some t->g<=f
theorem Ba:∀{f:Nat} {q:Sp2} {r:Res},rdF R z f q.1 q.2=some r->∃g,g<=f/\Lst R z q g r:=by
 intro f
 induction f with
 |zero=>intro q r e;cases e
 | succ f a=>
  intro q r e
  cases h:rdF R z f q.1 q.2 with
  | some t=>
   obtain⟨g,c,L⟩:=a h;have:t=r:=jx h e;exact⟨g,by nofun,this ▸ L⟩
  | none=>
   refine⟨f+1,aac _,e,λb t h'=>?_⟩
   cases Nat.lt_or_ge f b with
   |inl y=>exact y
   |inr y=>rw[show rdF R z f q.1 q.2=some t from y6 y h'] at h;cases h
theorem JI(L:Lst R z q g r)(a:Lst R z q g' r'):g=g':=by
 have:=L.lo _ _ a.rd;have:=a.lo _ _ L.rd;nofun
structure KpOk(R:Rls)(z:Str)(zs:List Str)(K:Kp):Prop where
 nd:(K.map (·.1)).Nodup
 ok:∀e∈K,e.1.1∈zs/\e.1.2<=z.length/\∃f,rdF R z f e.1.1 e.1.2=some e.2
 cl:∀e∈K,∀f,rdF R z f e.1.1 e.1.2=some e.2->∀q∈lB R z f e.1,q∈K.map (·.1)
theorem KpOk.res(O:KpOk R z zs K)(a:io R zs)(h:e∈K):ResOk z zs e.1.2 e.2:=by
 obtain⟨h1,h2,f,b⟩:=O.ok e h;exact JG a h1 h2 b
theorem oH(m:Nat):∀zs:List Str,(zs.flatMap λn=>(List.range m).map λk=>(n,k)).length=zs.length*m
 |[]=>by simp
 |n::zs=>by rw[List.flatMap_cons,abB,oH m zs,abz,abX,abI,Nat.succ_mul,ab3]
theorem KpOk.len(O:KpOk R z zs K):K.length<=zs.length*(z.length+1):=by
 have h:(K.map (·.1)).length<=(zs.flatMap λn=>(List.range (z.length+1)).map λk=>(n,k)).length:=by
  refine aat O.nd λq a=>?_;obtain⟨e,he,rfl⟩:=abE.mp a;obtain⟨h1,h2,_⟩:=O.ok e he;exact List.mem_flatMap.mpr ⟨e.1.1,h1,abE.mpr ⟨e.1.2,abY.mpr (by nofun),rfl⟩⟩
 rw[abz] at h;rw[oH] at h;exact h
structure Frm(R:Rls)(z:Str)(zs:List Str)(K:Kp)(s:As)(f g far:Nat)(ls:List Str)(r:Res):Prop where
 go:goF R z f s far ls=some r
 ok:AsOk R z zs s
 acc:∃es:Kp,s.st=es.map (·.1)/\(∀e∈es,e∈K)/\far=e8 s.k es/\ls=lD [s.n] es
 lst:Lst R z (s.n,s.k) g r
 fg:f<=g
 nw:(s.n,s.k)∉K.map (·.1)
 en:eR R z f s=eR R z g (da R z s.n s.k)
inductive Wait(R:Rls)(z:Str)(zs:List Str)(K:Kp)(root:Sp2)(G:Nat):Sp2->Nat->List As->Nat->Prop where
 |nil {g:Nat}:g<=G->Wait R z zs K root G root g [] 0
 |cons {s:As} {f g gs far m:Nat} {ls:List Str} {r:Res} {w:Str} {p:List Str} {rest:List As}:Frm R z zs K s (f+1) gs far ls r->s.dn=false->s.fm=.comp w p->g<=f->Wait R z zs K root G (s.n,s.k) gs rest m->Wait R z zs K root G (aj p s) g (s::rest) (Tf f+2+m)
theorem Wait.len{l:List As}(h:Wait R z zs K root G q g l m):l.length+g<=G:=by
 induction h with
 |nil h=>rw[List.length_nil];nofun
 |cons F _ _ b _ a=>have:=F.fg;rw[abI];nofun
theorem Frm.more(F:Frm R z zs K s f g far ls r)(h:e.1≠(s.n,s.k)):Frm R z zs (K++[e]) s f g far ls r:=by
 obtain⟨es,h1,h2,b⟩:=F.acc;refine⟨F.go,F.ok,⟨es,h1,λx a=>aaw _ (h2 x a),b⟩,F.lst,F.fg,λy=>?_,F.en⟩;rw[aad] at y;rcases abA.mp y with y|y
 ·exact F.nw y
 ·exact h (abG.mp y).symm
theorem Wait.more{l:List As}(L:Lst R z e.1 g' r')(h:Wait R z zs K root G q g l m):g'<=g->Wait R z zs (K++[e]) root G q g l m:=by
 induction h with
 |nil h=>exact λ_=>.nil h
 | cons F hd d c _ a=>
  intro b;have:=F.fg;refine .cons (F.more λy=>?_) hd d c (a (by nofun));have:=JI (y ▸ L) F.lst;nofun
theorem uz{zs:List Str}:∀{es:Kp} {ls:List Str},ls.Nodup->(∀x∈ls,x∈zs)->(∀e∈es,∀x∈e.2.ls,x∈zs)->(lD ls es).Nodup/\∀x∈lD ls es,x∈zs
 |[],_,h1,h2,_=>⟨h1,h2⟩
 |e::es,ls,h1,h2,a=>uz (es:=es) (ls:=mW ls e.2.ls) (ka h1) (λx b=>(gI.mp b).elim (h2 x) (a e (aab ..) x)) λc he=>a c (aae _ he)
theorem uA :e8 k (es++[e])=max (e8 k es) e.2.far:=by unfold e8;rw[abo];rfl
theorem y9 :lD ls (es++[e])=mW (lD ls es) e.2.ls:=by unfold lD;rw[abo];rfl
theorem Frm.take(k:io R zs)(m:KpOk R z zs K)(F:Frm R z zs K s (f+1) g far ls r)(hd:s.dn=false)(d:s.fm=.comp w p)(he:e∈K)(i:e.1=aj p s) :
  Frm R z zs K (b5 w p s e.2.ln) f g (max far e.2.far) (mW ls e.2.ls) r/\(b5 w p s e.2.ln).n=s.n/\(b5 w p s e.2.ln).k=s.k:=by
 obtain⟨C,D,t,b,j,a⟩:=mY hd F.go;rw[d] at b;cases b;obtain⟨_,_,E,c⟩:=m.ok e he;rw[i] at c;have A:t=e.2:=jx j c;subst A;have T:=m.res k he
 have ok:=j9 (x:=e.2.ln) k F.ok hd d λl q=>by
  have:=T.ln l q;rw[i] at this;exact this
 obtain⟨es,h1,h2,c,v⟩:=F.acc;obtain⟨t',n,B,o,q,_⟩:=gi w p s e.2.ln;have en:=F.en;rw[lA hd d j] at en;rw[q] at ok a en ⊢;exact⟨⟨a,ok,⟨es++[e],by rw[aad,h1,← i];rfl,λx u=>(abA.mp u).elim (h2 x) λy=>by rw[abG.mp y];exact he,by rw[uA,c],by rw[y9,v]⟩,F.lst,by have:=F.fg;nofun,F.nw,en⟩,rfl,rfl⟩
def Mt(R:Rls)(z:Str)(zs:List Str)(K:Kp)(root:Sp2)(G:Nat)(ss:List (Addr×Addr×As))(m:Nat):Prop:=(ss=[]/\root∈K.map (·.1)) ∨
 ∃a b s rest f g far ls r c mw,ss=(a,b,s)::rest/\Frm R z zs K s f g far ls r/\Wait R z zs K root G (s.n,s.k) g (rest.map (·.2.2)) mw/\(Tf f<=c∨∃d w p,f=d+1/\s.dn=false/\s.fm=.comp w p/\aj p s∈K.map (·.1)/\Tf d+1<=c)/\c+mw<=m
theorem Wait.stk{ss:List (Addr×Addr×As)}(h:Wait R z zs K root G q g (ss.map (·.2.2)) m)(c:q∈K.map (·.1)):Mt R z zs K root G ss m:=by
 cases ss with
 |nil=>cases h;exact .inl ⟨rfl,c⟩
 | cons t ss=>
  obtain⟨a,b,s⟩:=t
  cases h with
  |@cons _ f g gs far m ls r w p rest F hd d e W=>exact .inr ⟨a,b,s,ss,f+1,gs,far,ls,r,Tf f+2,m,rfl,F,W,.inr ⟨f,w,p,rfl,hd,d,c,by nofun⟩,aac _⟩
theorem za(h:e.1∉K.map (·.1)):t4 (ja K) (jz K) (mZ e.1) (qV e.1.2 e.2)=(ja (K++[e]),jz (K++[e])):=by
 unfold t4;rw[if_neg (λy=>h (ke.mp y))];unfold ja jz;rw[aad,aad];rfl
def eu(ks:List Key)(ds:List D)(R:Rls):Prop:=∀n,(ie ks ds (.inr n)).getD .non=rlD (R n)
structure MkOk(R:Rls)(z:Str)(zs:List Str)(n:Str)(k f:Nat):Prop where
 r:io R zs
 n:n∈zs
 k:k<=z.length
 l:z.length+20<=sizeLine
 s:zs.length*(z.length+1)<sizeLine
 m:zs.length+zs.length<=sizeLine
 f:f<sizeLine
abbrev bu(ks:List Key)(ds:List D):OV:=.fz (.dct ks ds)
abbrev m3(K:Kp):OV:=.ft (ja K) (jz K)
@[irreducible] def ip:Ct:=λos P=>∃(ks:List Key) (ds:List D) (R:Rls) (z n:Str) (zs:List Str) (k f:Nat) (K:Kp) (r:Res),os=[bu ks ds,.fz (.str z),m3 K,.fz (.str n),.fz (.int k)]/\eu ks ds R/\MkOk R z zs n k f/\KpOk R z zs K/\rdF R z f n k=some r /\
 ∀K':Kp,KpOk R z zs (K++K')->((n,k),r)∈K++K'->P (.fl (K'.map λe=>b8 e.1)) [bu ks ds,.fz (.str z),m3 (K++K'),.fz (.str n),.fz (.int k)]
theorem iq(g:eu ks ds R)(f:io R zs)(d:k<=z.length)(c:z.length<=sizeLine)
  (h:∀a b,P (.ob (asA a b (da R z n k))) [.fz (.dct ks ds),.fz (.str z),.fz (.str n),.fz (.int k)]):dA [.fz (.dct ks ds),.fz (.str z),.fz (.str n),.fz (.int k)] P:=by
 have e:=g n;unfold dA;refine⟨ks,ds,z,n,k,rfl,d,c,?_⟩;unfold da at h
 cases hr:R n with
 | leaf l=>
  rw[hr] at e h;exact .inl ⟨l,e,λa b=>by rw[E3];exact h a b⟩
 | comp w p=>
  rw[hr] at e h;obtain⟨h1,h2,i,_⟩:=f n w p hr;exact .inr ⟨w,p,e,h1,λy=>by rw[y] at h2;simp at h2,i,h⟩
abbrev Bb:Stmt:=top 42
abbrev JJ:FS:=
  (ak (cq 5 (iZ ae))
  (ak (fIf (au (fOp aIn (fw (aa (ab 3) (aa (ab 4) ae))) (ab 2)))
   (bc (ab 5))
   aL)
  (ak (cq 6 (Jh (ag dA (aa (fFz (ab 0)) (aa (fFz (ab 1)) (aa (fFz (ab 3)) (aa (fFz (ab 4)) ae)))))))
  (ak (hV (au (fOp (i6 (λi j=>decide (j<i)) λi j=>aZ j i) (ye 6) (fC (.int 0))))
   (Ji 6 7 (ak (tW 6 7 (cq 7 (oo 6)))
  (ak (fIf (Gn (fT 0 7 6))
   (ak (t6 2 (ag fj (aa (ab 7) (aa (ab 2) ae))) (fw (aa (fT 0 7 1) (aa (fT 0 7 2) ae))))
  (ak (bQ (wd 5 (fw (aa (fT 0 7 1) (aa (fT 0 7 2) ae)))))
  (ak (bQ (Eo 6))
  Iu)))
   aL)
  (ak (bX (dL "wanted" 0 7 aW ae) (ac 8))
  (fIf (au (fOp aIn (ab 8) (ab 2)))
   (bQ (dL "take" 0 7 bH (aa (fFz (fOp aIx (fOp aIx (ab 2) (ab 8)) (fC (.int 0)))) ae)))
   (tW 6 7 (bQ (yg 6 (ag dA (aa (fFz (ab 0)) (aa (fFz (ab 1)) (aa (fFz (fOp aIx (ab 8) (fC (.int 0)))) (aa (fFz (fOp aIx (ab 8) (fC (.int 1)))) ae))))))))))))))
  (bc (ab 5))))))
theorem JK:Hh ip JJ [2] 9:=by
 intro os P h;unfold ip at h;obtain⟨ks,ds,R,z,n,zs,k,f,K,r,rfl,hD,M,hK,hr,q⟩:=h;have s2:2<=sizeLine:=by rw[sizeLine_eq];decide
 have hzz:=M.l;obtain⟨G,hG,L⟩:=Ba (q:=(n,k)) hr;ext;refine⟨aan _,?_⟩;ext;refine av ?_;ext;refine⟨s2,?_⟩;ext;refine aq ((n,k)∈K.map (·.1)) (ke (s:=(n,k))) (λu=>?_) (λT=>?_)
 ·ext;obtain⟨e,he,N⟩:=abE.mp u
  have hq:=q [] (by rw[aao];exact hK) (by
   rw[aao];obtain⟨_,_,j,h'⟩:=hK.ok e he;rw[N] at h';have:e.2=r:=jx h' hr;have J:e=((n,k),r):=by rw[← N,← this]
   exact J ▸ he)
  rw[aao] at hq;exact hq
 ext;refine iq hD M.r M.k (by nofun) λa b=>?_;ext;refine ef (λm ρ=>∃(K':Kp) (ss:List (Addr×Addr×As)) (O E:Option OV),ρ=[some (bu ks ds),some (.fz (.str z)),some (m3 (K++K')),some (.fz (.str n)),some (.fz (.int k)),some (.fl (K'.map λe=>b8 e.1)),some (.obs (ss.map λt=>asA t.1 t.2.1 t.2.2)),O,E]/\KpOk R z zs (K++K')/\Mt R z zs (K++K') (n,k) G ss m) (Tf G) ?_ ?_
 ·refine⟨[],[(a,b,da R z n k)],none,none,?_,?_,.inr ⟨a,b,da R z n k,[],G,G,k,[n],r,Tf G,0,rfl,?_,?_,.inl (aac _),aac _⟩⟩
  ·rw[aao];rfl
  ·rw[aao];exact hK
  ·rw[aao];exact⟨L.rd,jy M.r M.n M.k,⟨[],ci.2.2,(λ_ y=>nomatch y),ci.2.1.symm,by rw[ci.1];rfl⟩,by rw[ci.1,ci.2.1];exact L,aac _,by rw[ci.1,ci.2.1];exact T,by rw[ci.1,ci.2.1]⟩
  ·rw[ci.1,ci.2.1];exact .nil (aac _)
 rintro m ρ Rr ⟨K',ss,O,E,rfl,d,S⟩ kk;have on:∀(K2:Kp) (ss:List (Addr×Addr×As)) (O E:Option OV) (m':Nat),m'<m->KpOk R z zs (K++K2)->Mt R z zs (K++K2) (n,k) G ss m'->Rr [some (bu ks ds),some (.fz (.str z)),some (m3 (K++K2)),some (.fz (.str n)),some (.fz (.int k)),some (.fl (K2.map λe=>b8 e.1)),some (.obs (ss.map λt=>asA t.1 t.2.1 t.2.2)),O,E]:=λK2 ss O E m' h1 h2 h3=>kk m' _ h1 ⟨K2,ss,O,E,rfl,h2,h3⟩;have hKl:=d.len;have hms:=M.s;have hmm:=M.m;rcases S with ⟨rfl,u⟩|⟨a,b,s,rest,j,g,far,ls,A,c,mw,rfl,F,W,hc,hm⟩
 ·ext;refine aq _ decide_eq_true_iff (λh=>absurd h (show ¬(0:Int)<((0:Nat):Int) by decide)) (λ_=>?_);ext;obtain⟨e,he,N⟩:=abE.mp u;refine q K' d ?_;obtain⟨_,_,j,h'⟩:=d.ok e he;rw[N] at h';have:e.2=r:=jx h' hr;have J:e=((n,k),r):=by rw[← N,← this]
  exact J ▸ he
 ·ext;refine aq _ decide_eq_true_iff (λ_=>?_) (λh=>absurd (show (0:Int)<((_+1:Nat):Int) by nofun) h);ext;refine av ?_;ext;refine aq (s.dn=true) Iff.rfl (λhd=>?_) (λhd=>?_)
  ·obtain⟨es,h1,h2,h3,h4⟩:=F.acc
   have hrr:A=⟨s.ln,far,ls⟩:=by
    have g:=F.go
    cases j with
    |zero=>cases g
    |succ j=>rw[mX hd] at g;exact(aai g).symm
   have C:∀e∈es,ResOk z zs e.1.2 e.2:=λe he=>d.res M.r (h2 e he);have sm:∀l:List Str,l.Nodup->(∀x∈l,x∈zs)->l.length<=zs.length:=λl a b=>aat a b
   have Y:KpOk R z zs (K++K'++[((s.n,s.k),A)]):=⟨by
    rw[aad];exact abN.mpr ⟨d.nd,by simp,λx H y hy e=>F.nw (by have J:x=(s.n,s.k):=e.trans (abG.mp hy);rw[← J];exact H)⟩,λe he=>by
    rcases abA.mp he with y|y
    ·exact d.ok e y
    ·rw[abG.mp y];exact⟨F.ok.nz,aas F.ok.kt F.ok.tz,g,F.lst.rd⟩,λe he f3 I x H=>by
    rw[aad];refine aaw _ ?_;rcases abA.mp he with y|y
    ·exact d.cl e y f3 I x H
    ·rw[abG.mp y] at I H;have en:=F.en;rw[lz hd] at en;unfold lB at H;rw[JH I F.lst.rd,← en,h1] at H;obtain⟨e',he',rfl⟩:=abE.mp H;exact abE.mpr ⟨e',h2 e' he',rfl⟩⟩
   have ep:t4 (ja (K++K')) (jz (K++K')) [.inr s.n,.inl (s.k:Int)] (qV s.k ⟨s.ln,e8 s.k es,lD [s.n] es⟩)=(ja (K++K'++[((s.n,s.k),A)]),jz (K++K'++[((s.n,s.k),A)])):=by
    rw[hrr,h3,h4];exact za (e:=((s.n,s.k),⟨s.ln,e8 s.k es,lD [s.n] es⟩)) F.nw
   have W2:=W.more (e:=((s.n,s.k),A)) F.lst (aac _);ext;refine y8 (s:=s) (K:=K++K') (es:=es) (m:=zs.length) d.nd h1 (λe he=>⟨h2 e he,(C e he).kf⟩) (λi=>?_) (λe he=>sm _ (C e he).nd (C e he).sub) hmm ?_
   ·have:=uz (zs:=zs) (es:=es.take i) (ls:=[s.n]) (by simp) (by simpa using F.ok.nz) λe he=>(C e (aaR he)).sub;exact sm _ this.1 this.2
   ext;refine⟨rfl,?_⟩;ext;refine⟨s2,?_⟩;ext;rw[abz];refine⟨by nofun,?_⟩;rw[ep];ext;refine⟨rfl,?_⟩;ext;refine⟨s2,?_⟩;ext;rw[abz];refine⟨by rw[abB] at hKl;nofun,?_⟩;ext;have eK:K++K'++[((s.n,s.k),A)]=K++(K'++[((s.n,s.k),A)]):=aap ..;rw[eK] at Y W2
   have o:mw<m:=by
    rcases hc with y|⟨_,_,_,_,y,_⟩
    ·have g:=F.go
     cases j with
     |zero=>cases g
     |succ j=>have:Tf (j+1)=2*Tf j+3:=rfl;nofun
    ·rw[hd] at y;cases y
   have fin:=on (K'++[((s.n,s.k),A)]) rest (some (.ob ⟨a,0,[.fz (rlD s.fm),.fz (.str s.n),.fz (.int s.k),.fz (.int s.t),.fz (.int s.tn),.fz (.lst (s.st.map b8)),.fz (.bl s.dn),.fz (cS s.ln)]⟩)) E mw o Y (W2.stk (by
    rw[← eK,aad];exact aal _ (aab ..)))
   rw[← eK,aad] at fin;exact fin
  ·have v:s.dn=false:=abT.mpr hd;obtain⟨w,p,D,B⟩:=F.ok.tn v;have Q:=(M.r s.n w p (F.ok.fm.symm.trans D)).2.2.1;obtain⟨es,h1,h2,h3,h4⟩:=F.acc
   have hst:s.st.length<sizeLine:=by
    have h5:=F.ok.st;have h6:=F.ok.t8;have h7:=F.ok.tz;rw[v,if_neg (by decide)] at h5;nofun
   obtain⟨f2,J⟩:∃f2,j=f2+1:=by
    have g:=F.go
    cases j with
    |zero=>cases g
    |succ j=>exact⟨j,rfl⟩
   subst J;obtain⟨w',p',t,X,ht,hgo⟩:=mY v F.go;rw[D] at X;cases X;ext;refine .mk (s:=s) D B Q ?_;ext;refine av ?_;ext;refine aq (aj p s∈(K++K').map (·.1)) (ke (s:=aj p s)) (λu=>?_) (λU=>?_)
   ·obtain⟨e,he,N⟩:=abE.mp u;have Z:e.1=aj p s:=N;obtain⟨F2,n2,k2⟩:=F.take M.r d v D he Z
    have o:Tf f2+mw<m:=by
     have:Tf (f2+1)=2*Tf f2+3:=rfl;rcases hc with y|⟨f3,_,_,y,_,_,_,y2⟩
     ·nofun
     ·cases y;nofun
    ext;refine e9 (show gc (ja (K++K')) (jz (K++K')) [.inr (aj p s).1,.inl ((aj p s).2:Int)]=some (qV e.1.2 e.2) from Z ▸ et d.nd he) ?_;ext;refine .mk (s:=s) D B Q F.ok.kt hst ?_;ext;refine⟨rfl,?_⟩;exact on K' ((a,b,b5 w p s e.2.ln)::rest) none (some (.fz (b8 (aj p s)))) (Tf f2+mw) o d (.inr ⟨a,b,_,rest,f2,g,_,_,A,Tf f2,mw,rfl,F2,by rw[n2,k2];exact W,.inl (aac _),aac _⟩)
   ·obtain⟨g2,V,L2⟩:=Ba (q:=aj p s) ht
    have hw:(aj p s).1∈zs:=by
     refine(M.r s.n w p (F.ok.fm.symm.trans D)).2.2.2 _ ?_;show p.getD s.tn "" ∈ p;rw[List.getD_eq_getElem?_getD,List.getElem?_eq_getElem B];exact aaQ B
    have o:Tf g2+(Tf f2+2+mw)<m:=by
     have:Tf (f2+1)=2*Tf f2+3:=rfl;have:=Fb V;rcases hc with y|⟨f3,w',p',_,_,y,y2,_⟩
     ·nofun
     ·rw[D] at y;cases y;exact absurd y2 U
    have hl:=W.len;have hfg:=F.fg;have hff:=M.f;ext;refine⟨rfl,?_⟩;ext;refine iq hD M.r F.ok.tz (by nofun) λa2 b2=>?_;ext;rw[abz] at hl;refine⟨by rw[abI,abz];nofun,?_⟩;ext;exact on K' ((a2,b2,da R z (aj p s).1 (aj p s).2)::(a,b,s)::rest) none (some (.fz (b8 (aj p s)))) _ o d (.inr ⟨a2,b2,_,(a,b,s)::rest,g2,g2,_,_,t,Tf g2,Tf f2+2+mw,rfl,⟨L2.rd,jy M.r hw F.ok.tz,⟨[],ci.2.2,(λ_ y=>nomatch y),ci.2.1.symm,by rw[ci.1];rfl⟩,by rw[ci.1,ci.2.1];exact L2,aac _,by rw[ci.1,ci.2.1];exact U,by rw[ci.1,ci.2.1]⟩,by rw[ci.1,ci.2.1];exact .cons F v D V W,.inl (aac _),aac _⟩)
theorem Fc(b:eu ks ds R)(M:MkOk R z zs n k f)(a:KpOk R z zs K)(hr:rdF R z f n k=some r)
  (h:∀K':Kp,KpOk R z zs (K++K')->((n,k),r)∈K++K'->P (.fl (K'.map λe=>b8 e.1)) [bu ks ds,.fz (.str z),m3 (K++K'),.fz (.str n),.fz (.int k)]):ip [bu ks ds,.fz (.str z),m3 K,.fz (.str n),.fz (.int k)] P:=by
 unfold ip;exact⟨ks,ds,R,z,n,zs,k,f,K,r,rfl,b,M,a,hr,h⟩
abbrev dM(K:Kp):OV:=.fz (.dt (ja K) (jz K))
@[irreducible] def bi:Ct:=λos P=>∃(ks:List Key) (ds:List D) (R:Rls) (z n:Str) (zs:List Str) (k f:Nat) (K:Kp) (r:Res),os=[bu ks ds,.fz (.str z),dM K,.fz (.str n),.fz (.int k)]/\eu ks ds R/\MkOk R z zs n k f/\KpOk R z zs K/\rdF R z f n k=some r/\((n,k),r)∈K /\
 ∀a b,P (.ob (asA a b (eR R z f (da R z n k)))) os
abbrev Bc:Stmt:=top 43
abbrev JL:FS:=
  (ak (cq 5 (ag dA (aa (fFz (ab 0)) (aa (fFz (ab 1)) (aa (fFz (ab 3)) (aa (fFz (ab 4)) ae))))))
  (ak (hV (iY (Gn (fT 0 5 6)))
   (bQ (dL "take" 0 5 bH (aa (fFz (fOp aIx (fOp aIx (ab 2) (dL "wanted" 0 5 aW ae)) (fC (.int 0)))) ae))))
  (bc (ab 5))))
theorem JM:Hh bi JL [] 6:=by
 intro os P h;unfold bi at h;obtain⟨ks,ds,R,z,n,zs,k,f,K,r,rfl,J,M,A,hr,C,q⟩:=h;have I:=M.l;have E:=A.cl _ C f hr;ext;refine iq J M.r M.k (by nofun) λa b=>?_;ext;refine ef (λm ρ=>∃(s:As) (far:Nat) (ls:List Str),ρ=[some (bu ks ds),some (.fz (.str z)),some (dM K),some (.fz (.str n)),some (.fz (.int k)),some (.ob (asA a b s))]/\AsOk R z zs s/\goF R z m s far ls=some r/\eR R z m s=eR R z f (da R z n k)) f ⟨da R z n k,k,[n],rfl,jy M.r M.n M.k,hr,rfl⟩ ?_;rintro m ρ X ⟨s,far,ls,rfl,O,u,en⟩ H;ext;refine aq (s.dn=false) (by cases s.dn <;> decide) (λhd=>?_) (λhd=>?_)
 ·obtain⟨g,rfl⟩:∃g,m=g+1:=by
   cases m with
   |zero=>cases u
   |succ g=>exact⟨g,rfl⟩
  obtain⟨w,p,t,d,F,o⟩:=mY hd u;obtain⟨Q,S,v,i⟩:=O.tn hd;rw[d] at v;cases v;have j:=(M.r s.n w p (O.fm.symm.trans d)).2.2.1
  have B:s.st.length<sizeLine:=by
   have L:=O.st;have V:=O.t8;have U:=O.tz;rw[hd,if_neg (by decide)] at L;nofun
  rw[lA hd d F] at en
  have hw:aj p s∈K.map (·.1):=by
   refine E _ ?_;unfold lB;show aj p s∈(eR R z f (da R z n k)).st;rw[← en];refine A8 ?_;obtain⟨_,_,_,_,e,_⟩:=gi w p s t.ln;rw[e];exact aal _ (aab ..)
  obtain⟨e,he,N⟩:=abE.mp hw;have c:e.1=aj p s:=N;obtain⟨_,_,W,x⟩:=A.ok e he;rw[c] at x;have G:e.2=t:=jx x F;have T:=A.res M.r he;ext;refine .mk (s:=s) d i j ?_;ext;refine e9 (show gc (ja K) (jz K) [.inr (aj p s).1,.inl ((aj p s).2:Int)]=some (qV e.1.2 e.2) from c ▸ et A.nd he) ?_;ext;refine .mk (s:=s) d i j O.kt B ?_;ext;rw[G];refine H g _ (aaA _) ⟨b5 w p s t.ln,_,_,rfl,j9 M.r O hd d λl y=>?_,o,en⟩;have:=T.ln l (G ▸ y);rw[c] at this;exact this
 ·have D:s.dn=true:=by cases h:s.dn with|true=>rfl|false=>exact absurd h hd
  ext;rw[lz D] at en;rw[en];exact q a b
theorem uB(e:eu ks ds R)(M:MkOk R z zs n k f)(d:KpOk R z zs K)(hr:rdF R z f n k=some r)(c:((n,k),r)∈K)
  (h:∀a b,P (.ob (asA a b (eR R z f (da R z n k)))) [bu ks ds,.fz (.str z),dM K,.fz (.str n),.fz (.int k)]):bi [bu ks ds,.fz (.str z),dM K,.fz (.str n),.fz (.int k)] P:=by
 unfold bi;exact⟨ks,ds,R,z,n,zs,k,f,K,r,rfl,e,M,d,hr,c,h⟩
def eS:List Sp2->List Sp2->List Sp2
 |ls,[]=>ls
 |ls,m::ms=>eS (if m∈ls then ls else ls++[m]) ms
theorem qA{ls:List Sp2}(h:st[i]?=some q):eS ls (st.take (i+1))=if q∈eS ls (st.take i) then eS ls (st.take i) else eS ls (st.take i)++[q]:=by
 induction st generalizing ls i with
 |nil=>cases h
 | cons m st a=>
  cases i with
  |zero=>cases h;rfl
  |succ i=>exact a h
theorem lE:∀{ms ls:List Sp2},(eS ls ms).length<=ls.length+ms.length
 |[],ls=>by show ls.length<=_;simp
 | m::ms,ls=>by
  have h:=lE (ms:=ms) (ls:=if m∈ls then ls else ls++[m]);show (eS (if m∈ls then ls else ls++[m]) ms).length<=_;rw[abI];split at h
  ·rename_i a;rw[if_pos a];nofun
  ·rename_i a;rw[if_neg a];rw[abB,abb] at h;nofun
@[irreducible] def b9:Ct:=λos P=>∃(ks:List Key) (ds:List D) (R:Rls) (z n:Str) (zs:List Str) (k f:Nat) (K:Kp) (r:Res),os=[bu ks ds,.fz (.str z),dM K,.fz (.str n),.fz (.int k)]/\eu ks ds R/\MkOk R z zs n k f/\KpOk R z zs K/\rdF R z f n k=some r/\((n,k),r)∈K /\
 P (.fl ((eS [] (lB R z f (n,k))).map b8)) os
abbrev lF:Stmt:=top 44
abbrev uC:FS:=
  (ak (cq 5 t3)
  (ak (p9 (cf (Jk 0 5 (ag bi (aa (fFz (ab 0)) (aa (fFz (ab 1)) (aa (fFz (ab 2)) (aa (fFz (ab 3)) (aa (fFz (ab 4)) ae)))))))) (ac 6)
   (t6 5 (fC (.bl true)) (ab 6)))
  (bc (AV (ab 5)))))
theorem uD{ls:List Sp2}:t4 (ls.map mZ) (ls.map λ_=>D.bl true) (mZ q) (.bl true)=((if q∈ls then ls else ls++[q]).map mZ,(if q∈ls then ls else ls++[q]).map λ_=>D.bl true):=by
 have b:tm (ls.map mZ) (mZ q)=true↔q∈ls:=by
  unfold tm;rw[aaV];constructor
  ·rintro⟨x,e,h⟩;obtain⟨y,d,rfl⟩:=abE.mp e;exact kb (of_decide_eq_true h) ▸ d
  ·intro h;exact⟨_,abE.mpr ⟨q,h,rfl⟩,decide_eq_true rfl⟩
 unfold t4;by_cases h:q∈ls
 ·rw[if_pos (b.mpr h),if_pos h]
  congr 1
  clear b h
  induction ls with
  |nil=>rfl
  | cons a ls c=>
   simp only[List.map_cons,List.zip_cons_cons];rw[c]
   congr 1
   split <;> rfl
 ·rw[if_neg (λy=>h (b.mp y)),if_neg h,aad,aad];rfl
theorem uE:Hh b9 uC [] 7:=by
 intro os P h;unfold b9 at h;obtain⟨ks,ds,R,z,n,zs,k,f,K,r,rfl,p,M,o,hr,g,q⟩:=h;have m:=M.l;ext;refine uB p M o hr g λa b=>?_;have O:=A9 (f:=f) M.r (jy (z:=z) M.r M.n M.k)
 have c:(eR R z f (da R z n k)).st.length<sizeLine:=by
  have u:=O.st;have t:=O.t8;have s:=O.tz;have:(if (eR R z f (da R z n k)).dn=true then 1 else 0)<=1:=by split <;> nofun
  nofun
 have j:P (.fl ((eS [] (eR R z f (da R z n k)).st).map b8)) [bu ks ds,.fz (.str z),dM K,.fz (.str n),.fz (.int k)]:=q;ext;generalize (eR R z f (da R z n k)).st=st at c j ⊢;refine bP (λi ρ=>∃x:Option OV,ρ=[some (bu ks ds),some (.fz (.str z)),some (dM K),some (.fz (.str n)),some (.fz (.int k)),some (.ft ((eS [] (st.take i)).map mZ) ((eS [] (st.take i)).map λ_=>.bl true)),x]) ⟨none,rfl⟩ ?_ ?_
 ·rintro i d ρ v hd ⟨x,rfl⟩ l;rw[List.getElem?_map] at hd
  cases he:st[i]? with
  |none=>rw [he] at hd;cases hd
  | some e=>
   rw[he] at hd;cases hd;have hi:=(List.getElem?_eq_some_iff.mp he).1;have hl:=lE (ms:=st.take i) (ls:=[]);rw[abD,List.length_nil] at hl;ext;refine⟨rfl,?_⟩;ext;rw[abz];refine⟨by nofun,?_⟩;rw[show t4 ((eS [] (st.take i)).map mZ) ((eS [] (st.take i)).map λ_=>D.bl true) [.inr e.1,.inl (e.2:Int)] (.bl true)=_ from uD (q:=e),← qA he];exact l _ ⟨_,rfl⟩
 ·rintro ρ ⟨x,rfl⟩;rw[abz,aah (aac _)];ext;rw[aau];exact j
theorem qB(c:eu ks ds R)(M:MkOk R z zs n k f)(b:KpOk R z zs K)(hr:rdF R z f n k=some r)(a:((n,k),r)∈K)
  (h:P (.fl ((eS [] (lB R z f (n,k))).map b8)) [bu ks ds,.fz (.str z),dM K,.fz (.str n),.fz (.int k)]):b9 [bu ks ds,.fz (.str z),dM K,.fz (.str n),.fz (.int k)] P:=by
 unfold b9;exact⟨ks,ds,R,z,n,zs,k,f,K,r,rfl,c,M,b,hr,a,h⟩
inductive ca:Ct
 |mk {i:Int} {P:Pk} (h:P (.fz (.bl true)) [.fz (.int i)]):ca [.fz (.int i)] P
abbrev lG:Stmt:=top 46
abbrev uF:FS:=
  (bc (dR (fCB cIs (aa (ab 0) (aa (fC (.ty "int")) ae))) (H0 (fCB cIs (aa (ab 0) (aa (fC (.ty "bool")) ae))))))
theorem uG:Hh ca uF [] 1:=by
 intro os P h;obtain@⟨i,_,q⟩:=h;ext;refine⟨⟨rfl,rfl⟩,?_⟩;ext;refine cH ?_;ext;refine⟨⟨rfl,rfl⟩,?_⟩;ext;exact q
inductive cU:Ct
 |mk {z:Str} {k:Nat} {P:Pk} (hk:k<=z.length) (hz:z.length<=sizeLine) (h:P (.fz (.bl true)) [.fz (.str z),.fz (.int k)]):cU [.fz (.str z),.fz (.int k)] P
abbrev lH:Stmt:=top 47
abbrev uH:FS:=
  (bc (dR (ag ca (aa (fFz (ab 1)) ae)) (jq (i6 (λi j=>decide (i<=j)) λi j=>!aZ j i) (i6 (λi j=>decide (i<=j)) λi j=>!aZ j i) (fC (.int 0)) (ab 1) (fCB eY (aa (ab 0) ae)))))
theorem uI:Hh cU uH [] 2:=by
 intro os P h;obtain@⟨z,k,_,b,a,q⟩:=h;ext;refine .mk ?_;ext;refine cH ?_;ext;refine aq (0<=(k:Int)) decide_eq_true_iff (λ_=>?_) (λh=>absurd (Int.natCast_nonneg k) h);ext;refine⟨a,?_⟩;ext;show P (.fz (.bl (decide ((k:Int)<=(z.length:Int))))) _;rw[decide_eq_true (Int.ofNat_le.mpr b)];exact q
theorem uJ(h:(fK z)[i]?=some d):∃c,z.cps.toList[i]?=some c/\d=.str ⟨#[c]⟩:=by
 unfold fK at h;rw[List.getElem?_map,aaj] at h;obtain⟨r,h1,h2⟩:=h;exact⟨r,h1,h2.symm⟩
theorem uK(z:Str):z.length=z.cps.toList.length:=by rw[abO];rfl
abbrev kg:Str := "abcdefghijklmnopqrstuvwxyz"
theorem m6 :c∈kg.cps.toList↔97<=c/\c<=122:=by
 have e:kg.cps.toList=List.range' 97 26:=by decide +kernel
 rw[e,List.mem_range'_1];nofun
def tru(i:Nat):List D:=(List.replicate i true).map .bl
theorem dB :tru i++[.bl true]=tru (i+1):=by
 unfold tru;rw[List.replicate_succ',aad];rfl
theorem fq :(tru i).length=i:=by unfold tru;simp
theorem ir{Q:List Bool->Prop}(q:Q (List.replicate i true)):match gA (tru i) with
  |some zs=>Q zs
  |none=>False:=tw q
theorem fu :((List.replicate i true).all id)=true:=by simp
inductive bK:Ct
 |mk {z:Str} {P:Pk} (hz:cr z) (h:P (.fz (.bl true)) [.fz (.str z)]):bK [.fz (.str z)] P
abbrev oI:Stmt:=top 17
abbrev zb:FS:=
  (ak (fIf (iY (dm (fCB cIs (aa (ab 0) (aa (fC (.ty "str")) ae)))))
   (bc (fC (.bl false)))
   aL)
  (ak (fIf (iY (au (jq (i6 (λi j=>decide (i<=j)) λi j=>!aZ j i) (i6 (λi j=>decide (i<=j)) λi j=>!aZ j i) (fC (.int 1)) (fCB eY (aa (ab 0) ae)) (fC (.int 8)))))
   (bc (fC (.bl false)))
   aL)
  (bc (fCB we (aa (bI [] 1 (xx (ab 0)) (ac 0) kC (fOp aIn (ab 0) (fC (.str "abcdefghijklmnopqrstuvwxyz")))) ae)))))
theorem zc:Hh bK zb [] 1:=by
 intro os P h;obtain@⟨z,_,⟨n1,n2,n3⟩,q⟩:=h;have sz:=du;have f:=uK z;ext;refine av ?_;ext;refine⟨⟨rfl,rfl⟩,?_⟩;ext;refine cJ ?_;ext;refine av ?_;ext;refine⟨by nofun,?_⟩;ext;refine aq ((1:Int)<=z.length) decide_eq_true_iff (λh1=>?_) (λh1=>absurd (by nofun) h1);ext;refine aq (¬(z.length:Int)<=8) (by rw[aaT,decide_eq_false_iff_not]) (λh2=>absurd (by nofun) h2) (λh2=>?_);ext;refine aE (λi as ρ=>∃(x:Option OV),as=tru i/\ρ=[x,some (.fz (.str z))]) ⟨none,rfl,rfl⟩ ?_ ?_
 ·rintro i d as ρ R hd ⟨x,rfl,rfl⟩ k;obtain⟨c,a,rfl⟩:=uJ hd;have hi:=(List.getElem?_eq_some_iff.mp a).1;have e:decide (c∈kg.cps.toList)=true:=decide_eq_true (m6.mpr (n3 c (List.mem_of_getElem? a)));ext;refine cH ?_;ext;refine⟨by rw[fq];nofun,k _ _ ⟨_,?_,rfl⟩⟩;rw[← dB];exact congrArg (λb=>tru i++[D.bl b]) e
 ·rintro as ρ ⟨x,rfl,rfl⟩;ext;refine ir ?_;ext;rw[fu];exact q
theorem uL{a b:Nat}:aZ ⟨#[a]⟩ ⟨#[b]⟩=decide (a<b):=by
 unfold aZ;rw[decide_eq_decide];simp[List.cons_lt_cons_iff]
theorem e_32:Str.ofString " " = ⟨#[32]⟩:=by decide +kernel
theorem Mu:Str.ofString "~" = ⟨#[126]⟩:=by decide +kernel
theorem Mv :(!aZ ⟨#[c]⟩ (Str.ofString " "))=true↔32<=c:=by
 rw[e_32,uL,aaT,decide_eq_false_iff_not];nofun
theorem JN :(!aZ (Str.ofString "~") ⟨#[c]⟩)=true↔c<=126:=by
 rw[Mu,uL,aaT,decide_eq_false_iff_not];nofun
def kh(z:Str):Prop:=∀c∈z.cps.toList,32<=c/\c<=126/\c≠37
inductive eA:Ct
 |mk {c:Nat} {P:Pk} (hc:32<=c/\c<=126/\c≠37) (h:P (.fz (.bl true)) [.fz (.str ⟨#[c]⟩)]):eA [.fz (.str ⟨#[c]⟩)] P
abbrev oJ:Stmt:=top 18
abbrev zd:FS:=
  (bc (dR (jq (i6 (λi j=>decide (i<=j)) λi j=>!aZ j i) (i6 (λi j=>decide (i<=j)) λi j=>!aZ j i) (fC (.str " ")) (ab 0) (fC (.str "~"))) (fOp aNe (fCB Mb (aa (ab 0) ae)) (fC (.int 37)))))
theorem ze:Hh eA zd [] 1:=by
 intro os P h;obtain@⟨c,_,⟨d,b,a⟩,q⟩:=h;ext;refine aq (32<=c) Mv (λ_=>?_) (λh=>absurd d h);ext;refine aq (c<=126) JN (λ_=>?_) (λh=>absurd b h);ext;refine⟨ar,?_⟩;ext;rw[show dEq (.int (c:Int)) (.int 37)=false from abT.mpr λe=>a (Int.ofNat.inj (aV.mp e))];exact q
inductive cA:Ct
 |mk {z:Str} {P:Pk} (hz:z.length<sizeLine) (ht:kh z) (h:P (.fz (.bl true)) [.fz (.str z)]):cA [.fz (.str z)] P
abbrev oK:Stmt:=top 19
abbrev zf:FS:=
  (bc (dR (fCB cIs (aa (ab 0) (aa (fC (.ty "str")) ae))) (fCB we (aa (bI [] 1 (xx (ab 0)) (ac 0) kC (ag eA (aa (fFz (ab 0)) ae))) ae))))
theorem zg:Hh cA zf [] 1:=by
 intro os P h;obtain@⟨z,_,f,b,q⟩:=h;have e:=uK z;ext;refine⟨⟨rfl,rfl⟩,?_⟩;ext;refine cH ?_;ext;refine aE (λi as ρ=>∃(x:Option OV),as=tru i/\ρ=[x,some (.fz (.str z))]) ⟨none,rfl,rfl⟩ ?_ ?_
 ·rintro i d as ρ R hd ⟨x,rfl,rfl⟩ k;obtain⟨c,a,rfl⟩:=uJ hd;have hi:=(List.getElem?_eq_some_iff.mp a).1;ext;refine cH ?_;ext;refine .mk (b c (List.mem_of_getElem? a)) ?_;ext;exact⟨by rw[fq];nofun,k _ _ ⟨_,dB,rfl⟩⟩
 ·rintro as ρ ⟨x,rfl,rfl⟩;ext;refine ir ?_;ext;rw[fu];exact q
inductive a8:Ct
 |mk {z:Str} {P:Pk} (hz:im z) (h:P (.fz (.bl true)) [.fz (.str z)]):a8 [.fz (.str z)] P
abbrev oM:Stmt:=top 20
abbrev zi:FS:=
  (ak (fIf (iY (dm (ag cA (aa (fFz (ab 0)) ae))))
   (bc (fC (.bl false)))
   aL)
  (ak (fIf (iY (au (jq (i6 (λi j=>decide (i<=j)) λi j=>!aZ j i) (i6 (λi j=>decide (i<=j)) λi j=>!aZ j i) (fC (.int 1)) (fCB eY (aa (ab 0) ae)) (fC (.int 40)))))
   (bc (fC (.bl false)))
   aL)
  (bc (fCB we (aa (bI [0] 1 (sR (aa (fC (.int 1)) (aa (fCB eY (aa (ab 0) ae)) ae))) (ac 0) kC (fOp (i6 (λi j=>decide (i<j)) aZ) (fOp aIx (ab 1) (fOp (aI0 λi j=>.int (i - j)) (ab 0) (fC (.int 1)))) (fOp aIx (ab 1) (ab 0)))) ae)))))
theorem zj:Hh a8 zi [] 1:=by
 intro os P h;obtain@⟨z,_,⟨n1,n2,n3,n4⟩,q⟩:=h;have sz:=du;have b:=uK z;ext;refine av ?_;ext;refine .mk (by nofun) n4 ?_;ext;refine cJ ?_;ext;refine av ?_;ext;refine⟨by nofun,?_⟩;ext;refine aq ((1:Int)<=z.length) decide_eq_true_iff (λh1=>?_) (λh1=>absurd (by nofun) h1);ext;refine aq (¬(z.length:Int)<=40) (by rw[aaT,decide_eq_false_iff_not]) (λh2=>absurd (by nofun) h2) (λh2=>?_);ext;refine⟨by nofun,?_⟩;ext;refine⟨⟨by nofun,by nofun,by nofun,by nofun⟩,?_⟩;ext;refine aE (λi as ρ=>∃(x:Option OV),as=tru i/\ρ=[x,some (.fz (.str z))]) ⟨none,rfl,rfl⟩ ?_ ?_
 ·rintro i d as ρ R hd ⟨x,rfl,rfl⟩ k;obtain⟨hi,rfl⟩:=bo hd;have a:i+1<z.cps.toList.length:=by nofun
  have g1:z.cps.toList[i]?=some (z.cps.toList[i]'(by nofun)):=List.getElem?_eq_getElem _;have g2:z.cps.toList[i+1]?=some (z.cps.toList[i+1]'a):=List.getElem?_eq_getElem _
  have e:atI z.cps.toList ((1:Int)+i - 1)=some (z.cps.toList[i]'(by nofun)):=by
   rw[show (1:Int)+i - 1=((i:Nat):Int) by nofun];exact cn g1
  have c:atI z.cps.toList ((1:Int)+i)=some (z.cps.toList[i+1]'a):=by
   rw[show (1:Int)+i=((i+1:Nat):Int) by nofun];exact cn g2
  ext;refine cH ?_;ext;refine⟨by nofun,?_⟩;rw[e];ext;refine⟨by nofun,?_⟩;rw[c];ext;refine⟨by rw[fq];nofun,k _ _ ⟨_,?_,rfl⟩⟩;rw[uL,decide_eq_true (abW.mp n3 i (i+1) (by nofun) a (aaA i))];exact dB
 ·rintro as ρ ⟨x,rfl,rfl⟩;ext;refine ir ?_;ext;rw[fu];exact q
inductive cV:Ct
 |mk {word:Str} {rest:List Str} {P:Pk} (hf:lw word rest) (h:P (.fz (.bl true)) [.fz (aH word rest)]):cV [.fz (aH word rest)] P
theorem uM{x:α}{r:List α}:eQ (x::r) (some 1) none=r:=by
 unfold eQ;rw[show HT.sIx (x::r).length 0 (some 1)=1 from by show min 1 (r.length+1)=1;nofun,HT.sIx_none];simp
abbrev oN:Stmt:=top 21
abbrev zk:FS:=
  (ak (fIf (fOr (iY (dm (fCB cIs (aa (ab 0) (aa (fC (.ty "tuple")) ae))))) (au (fOp aEq (fCB eY (aa (ab 0) ae)) (fC (.int 0)))))
   (bc (fC (.bl false)))
   aL)
  (ak (bX (fOp aIx (ab 0) (fC (.int 0))) (ac 1))
  (ak (fIf (iY (dm (fCB cIs (aa (ab 1) (aa (fC (.ty "str")) ae)))))
   (bc (fC (.bl false)))
   aL)
  (ak (fIf (au (fOp aIn (ab 1) (fC (.gt [.str "none", .str "any"]))))
   (bc (fOp aEq (fCB eY (aa (ab 0) ae)) (fC (.int 1))))
   aL)
  (ak (fIf (au (fOp aEq (ab 1) (fC (.str "signs"))))
   (bc (dR (fOp aEq (fCB eY (aa (ab 0) ae)) (fC (.int 2))) (ag a8 (aa (fFz (fOp aIx (ab 0) (fC (.int 1)))) ae))))
   aL)
  (ak (fIf (au (fOp aIn (ab 1) (fC (.gt [.str "again", .str "ahead", .str "not"]))))
   (bc (dR (fOp aEq (fCB eY (aa (ab 0) ae)) (fC (.int 2))) (ag bK (aa (fFz (fOp aIx (ab 0) (fC (.int 1)))) ae))))
   aL)
  (ak (fIf (au (fOp aIn (ab 1) (fC (.gt [.str "row", .str "first"]))))
   (bc (dR (jq (i6 (λi j=>decide (i<=j)) λi j=>!aZ j i) (i6 (λi j=>decide (i<=j)) λi j=>!aZ j i) (fC (.int 1)) (fOp (aI0 λi j=>.int (i - j)) (fCB eY (aa (ab 0) ae)) (fC (.int 1))) (fC (.int 8))) (fCB we (aa (bI [] 1 (Ir (fSl Mf (ab 0) (dJ (fC (.int 1))) cp)) (ac 0) kC (ag bK (aa (fFz (ab 0)) ae))) ae))))
   aL)
  (bc (fC (.bl false))))))))))
theorem Mw{l:List α}(h:l.length=1):∃x,l=[x]:=List.length_eq_one_iff.mp h
theorem zm:Hh cV zk [] 2:=by
 intro os P h;obtain@⟨word,rest,_,⟨zs,c,b⟩,q⟩:=h;have sz:=du;ext;refine av ?_;ext;refine⟨⟨rfl,rfl⟩,?_⟩;ext;refine cJ ?_;ext;refine⟨ar,?_⟩;ext;refine aq False ⟨λh=>by have e:(((rest.map D.str).length+1:Nat):Int)=0:=aV.mp h;nofun,False.elim⟩ False.elim (λ_=>?_);ext;refine bY ?_;ext;refine av ?_;ext;refine⟨⟨rfl,rfl⟩,?_⟩;ext;refine cJ ?_;ext;refine av ?_;ext;refine⟨⟨rfl,rfl⟩,?_⟩;ext;refine aq (word = "none" ∨ word = "any") ((eN (zs:=["none", "any"])).trans (by simp)) (λhw=>?_) (λh1=>?_)
 ·have e:rest=[]:=by
   rcases b with ⟨_,h⟩|⟨h,_⟩|⟨h,_⟩|⟨h,_⟩
   ·exact h
   all_goals (rcases hw with rfl|rfl <;> exact absurd h (by decide))
  subst e;ext;refine⟨ar,?_⟩;ext;exact q
 ·ext;refine av ?_;ext;refine⟨a7,?_⟩;ext;refine aq (word = "signs") bx (λhw=>?_) (λh2=>?_)
  ·obtain⟨z,rfl,a⟩:∃z,rest=[z]/\im z:=by
    rcases b with ⟨h,_⟩|⟨_,h⟩|⟨h,_⟩|⟨h,_⟩
    ·exact absurd h h1
    ·exact h
    all_goals (rw[hw] at h;exact absurd h (by decide))
   ext;refine⟨ar,?_⟩;ext;refine cH ?_;ext;refine .mk a ?_;ext;exact q
  ·ext;refine av ?_;ext;refine⟨⟨rfl,rfl⟩,?_⟩;ext;refine aq (word = "again" ∨ word = "ahead" ∨ word = "not") ((eN (zs:=["again", "ahead", "not"])).trans (by simp)) (λhw=>?_) (λl=>?_)
   ·obtain⟨z,rfl,a⟩:∃z,rest=[z]/\cr z:=by
     rcases b with ⟨h,_⟩|⟨h,_⟩|⟨_,h,g⟩|⟨h,_⟩
     ·exact absurd h h1
     ·exact absurd h h2
     ·obtain⟨z,rfl⟩:=Mw h;exact⟨z,rfl,c z (g z (abG.mpr rfl))⟩
     ·rcases hw with rfl|rfl|rfl <;> exact absurd h (by decide)
    ext;refine⟨ar,?_⟩;ext;refine cH ?_;ext;refine .mk a ?_;ext;exact q
   ·obtain⟨hw,n,m,f⟩:(word = "row" ∨ word = "first")/\1<=rest.length/\rest.length<=8/\∀z∈rest,z∈zs:=by
     rcases b with ⟨h,_⟩|⟨h,_⟩|⟨h,_⟩|h
     ·exact absurd h h1
     ·exact absurd h h2
     ·exact absurd h l
     ·exact h
    have hl:(rest.map D.str).length=rest.length:=abz ..;ext;refine av ?_;ext;refine⟨⟨rfl,rfl⟩,?_⟩;ext;refine aq (word = "row" ∨ word = "first") ((eN (zs:=["row", "first"])).trans (by simp)) (λhw=>?_) (λj=>absurd hw j);ext;rw[List.length_cons];refine aq ((1:Int)<=(((rest.map D.str).length+1:Nat):Int) - 1) decide_eq_true_iff (λg1=>?_) (λg1=>absurd (by nofun) g1);ext;refine aq ((((rest.map D.str).length+1:Nat):Int) - 1<=8) decide_eq_true_iff (λg2=>?_) (λg2=>absurd (by nofun) g2);ext;rw[uM];ext;refine aE (λi as ρ=>∃(x y:Option OV),as=tru i/\ρ=[x,some (.fz (aH word rest)),y]) ⟨none,_,rfl,rfl⟩ ?_ ?_
    ·rintro i d as ρ R hd ⟨x,y,rfl,rfl⟩ k;rw[List.getElem?_map,aaj] at hd;obtain⟨z,a,rfl⟩:=hd;have hi:=(List.getElem?_eq_some_iff.mp a).1;ext;refine cH ?_;ext;refine .mk (c z (f z (List.mem_of_getElem? a))) ?_;ext;exact⟨by rw[fq];nofun,k _ _ ⟨_,_,dB,rfl⟩⟩
    ·rintro as ρ ⟨x,y,rfl,rfl⟩;ext;refine ir ?_;ext;rw[fu];exact q
def zn(r:Rw):Prop:=cr r.1/\lw r.2.1 r.2.2
inductive eB:Ct
 |mk {r:Rw} {P:Pk} (hr:zn r) (h:P (.fz (.bl true)) [.fz (dN r)]):eB [.fz (dN r)] P
abbrev oO:Stmt:=top 25
abbrev zo:FS:=
  (ak (fIf (fOr (iY (dm (fCB cIs (aa (ab 0) (aa (fC (.ty "tuple")) ae))))) (au (fOp aNe (fCB eY (aa (ab 0) ae)) (fC (.int 2)))))
   (bc (fC (.bl false)))
   aL)
  (bc (dR (ag bK (aa (fFz (fOp aIx (ab 0) (fC (.int 0)))) ae)) (ag cV (aa (fFz (fOp aIx (ab 0) (fC (.int 1)))) ae)))))
theorem zp:Hh eB zo [] 1:=by
 intro os P h;obtain@⟨⟨n,word,rest⟩,_,⟨a,b⟩,q⟩:=h;ext;refine av ?_;ext;refine⟨⟨rfl,rfl⟩,?_⟩;ext;refine cJ ?_;ext;refine⟨ar,?_⟩;ext;refine cJ ?_;ext;refine .mk a ?_;ext;refine cH ?_;ext;refine .mk b ?_;ext;exact q
abbrev cR(rows:List Rw):D:=.lst (rows.map dN)
def K1(rows:List Rw):Prop:=∀i r s,rows[i]?=some r->rows[i+1]?=some s->aZ r.1 s.1=true
inductive bT:Ct
 |mk {rows:List Rw} {P:Pk} (hl:rows.length<=1000) (hr:K1 rows) (h:P (.fz (.bl true)) [.fz (cR rows)]):bT [.fz (cR rows)] P
abbrev uN:Stmt:=top 26
abbrev Fd:FS:=
  (bc (fCB we (aa (bI [0] 1 (sR (aa (fC (.int 1)) (aa (fCB eY (aa (ab 0) ae)) ae))) (ac 0) kC (fOp (i6 (λi j=>decide (i<j)) aZ) (fOp aIx (fOp aIx (ab 1) (fOp (aI0 λi j=>.int (i - j)) (ab 0) (fC (.int 1)))) (fC (.int 0))) (fOp aIx (fOp aIx (ab 1) (ab 0)) (fC (.int 0))))) ae)))
theorem Fe:Hh bT Fd [] 1:=by
 intro os P h;obtain@⟨rows,_,hl,hr,q⟩:=h;have sz:=du;have b:(rows.map dN).length=rows.length:=abz ..;ext;refine⟨⟨by nofun,by nofun,by nofun,by nofun⟩,?_⟩;ext;refine aE (λi as ρ=>∃(x:Option OV),as=tru i/\ρ=[x,some (.fz (cR rows))]) ⟨none,rfl,rfl⟩ ?_ ?_
 ·rintro i d as ρ R hd ⟨x,rfl,rfl⟩ k;obtain⟨hi,rfl⟩:=bo hd;have a:i+1<rows.length:=by nofun
  have g1:rows[i]?=some (rows[i]'(by nofun)):=List.getElem?_eq_getElem _;have g2:rows[i+1]?=some (rows[i+1]'a):=List.getElem?_eq_getElem _
  have e:atI (rows.map dN) ((1:Int)+i - 1)=some (dN (rows[i]'(by nofun))):=by
   rw[show (1:Int)+i - 1=((i:Nat):Int) by nofun];exact cn (by rw[List.getElem?_map,g1];rfl)
  have c:atI (rows.map dN) ((1:Int)+i)=some (dN (rows[i+1]'a)):=by
   rw[show (1:Int)+i=((i+1:Nat):Int) by nofun];exact cn (by rw[List.getElem?_map,g2];rfl)
  ext;refine cH ?_;ext;rw[e];ext;rw[c];ext;refine⟨by rw[fq];nofun,k _ _ ⟨_,?_,rfl⟩⟩;rw[hr i _ _ g1 g2];exact dB
 ·rintro as ρ ⟨x,rfl,rfl⟩;ext;refine ir ?_;ext;rw[fu];exact q
inductive eC:Ct
 |mk {rows:List Rw} {P:Pk} (hl:rows.length<=1000) (ho:∀r∈rows,zn r) (hr:K1 rows) (h:P (.fz (.bl true)) [.fz (cR rows)]):eC [.fz (cR rows)] P
abbrev oP:Stmt:=top 27
abbrev zq:FS:=
  (ak (fIf (iY (dm (fCB cIs (aa (ab 0) (aa (fC (.ty "list")) ae)))))
   (bc (fC (.bl false)))
   aL)
  (bc (dR (fCB we (aa (bI [] 1 (cf (ab 0)) (ac 0) kC (ag eB (aa (fFz (ab 0)) ae))) ae)) (ag bT (aa (fFz (ab 0)) ae)))))
theorem zr:Hh eC zq [] 1:=by
 intro os P h;obtain@⟨rows,_,hl,ho,hr,q⟩:=h;have sz:=du;ext;refine av ?_;ext;refine⟨⟨rfl,rfl⟩,?_⟩;ext;refine cJ ?_;ext;refine aE (λi as ρ=>∃(x:Option OV),as=tru i/\ρ=[x,some (.fz (cR rows))]) ⟨none,rfl,rfl⟩ ?_ ?_
 ·rintro i d as ρ R hd ⟨x,rfl,rfl⟩ k;rw[List.getElem?_map,aaj] at hd;obtain⟨r,a,rfl⟩:=hd;have hi:=(List.getElem?_eq_some_iff.mp a).1;ext;refine cH ?_;ext;refine .mk (ho r (List.mem_of_getElem? a)) ?_;ext;exact⟨by rw[fq];nofun,k _ _ ⟨_,dB,rfl⟩⟩
 ·rintro as ρ ⟨x,rfl,rfl⟩;ext;refine ir ?_;ext;rw[fu];refine cH ?_;ext;refine .mk hl hr ?_;ext;exact q
def JO(word:Str):Prop:=word = "none" ∨ word = "again" ∨ word = "ahead" ∨ word = "not"
def Ff(zs:List Str)(word:Str)(rest:List Str):Prop:=(word = "row" /\ ∀z∈rest,z∈zs)∨(word = "first" /\ ∃z∈rest,z∈zs)∨JO word
inductive Emp(rows:List Rw):Str->Prop where
 |base {r:Rw}:r∈rows->JO r.2.1->Emp rows r.1
 |row {r:Rw}:r∈rows->r.2.1 = "row" -> (∀z∈r.2.2,Emp rows z)->Emp rows r.1
 |first {r:Rw} {z:Str}:r∈rows->r.2.1 = "first" -> z∈r.2.2->Emp rows z->Emp rows r.1
def uO(rows:List Rw)(zs:List Str):Prop:=∀r∈rows,Ff zs r.2.1 r.2.2->r.1∈zs
theorem Emp.mem(c:uO rows zs)(h:Emp rows z):z∈zs:=by
 induction h with
 |base h e=>exact c _ h (.inr (.inr e))
 |row h e _ a=>exact c _ h (.inl ⟨e,a⟩)
 |first h e m _ a=>exact c _ h (.inr (.inl ⟨e,_,m,a⟩))
theorem Emp.of(h:∀z∈zs,Emp rows z){r:Rw}(hr:r∈rows)(m:Ff zs r.2.1 r.2.2):Emp rows r.1:=by
 rcases m with ⟨e,a⟩|⟨e,z,b,a⟩|e
 ·exact .row hr e λz b=>h z (a z b)
 ·exact .first hr e b (h z a)
 ·exact .base hr e
structure Walk1(rows:List Rw)(zs0 zs:List Str)(i:Nat):Prop where
 nd:zs.Nodup
 emp:∀z∈zs,Emp rows z
 sub:∀z∈zs,z∈rows.map (·.1)
 grow:(zs=zs0/\∀r∈rows.take i,Ff zs0 r.2.1 r.2.2->r.1∈zs0)∨zs0.length<zs.length
theorem Walk1.start(nd:zs.Nodup)(emp:∀z∈zs,Emp rows z)(sub:∀z∈zs,z∈rows.map (·.1)):Walk1 rows zs zs 0:=⟨nd,emp,sub,.inl ⟨rfl,λr h=>by simp at h⟩⟩
theorem oQ{l:List α}{r a:α}(h:l[i]?=some a)(hr:r∈l.take (i+1)):r∈l.take i∨r=a:=by
 rw[aam,h] at hr;simpa using hr
theorem Walk1.add{r:Rw}(W:Walk1 rows zs0 zs i)(hr:rows[i]?=some r)(c:r.1∉zs)(m:Ff zs r.2.1 r.2.2):Walk1 rows zs0 (zs++[r.1]) (i+1):=by
 have a:=List.mem_of_getElem? hr;refine⟨KS.nodup_snoc W.nd c,λz b=>?_,λz b=>?_,.inr ?_⟩
 ·rcases abA.mp b with h|h
  ·exact W.emp z h
  ·have:z=r.1:=(by exists h);rw[this];exact Emp.of W.emp a m
 ·rcases abA.mp b with h|h
  ·exact W.sub z h
  ·have:z=r.1:=(by exists h);rw[this];exact abE.mpr ⟨r,a,rfl⟩
 ·rw[abB,abb];rcases W.grow with ⟨e,_⟩|h
  ·rw[e];nofun
  ·nofun
theorem Walk1.skip{r:Rw}(W:Walk1 rows zs0 zs i)(hr:rows[i]?=some r)(h:Ff zs r.2.1 r.2.2->r.1∈zs):Walk1 rows zs0 zs (i+1):=by
 refine⟨W.nd,W.emp,W.sub,?_⟩;rcases W.grow with ⟨e,g⟩|g
 ·refine .inl ⟨e,λr' a m=>?_⟩;rcases oQ hr a with z|z
  ·exact g r' z m
  ·subst z;subst e;exact h m
 ·exact .inr g
theorem Walk1.len(W:Walk1 rows zs0 zs i):zs.length<=rows.length:=by
 have:=aat W.nd W.sub
 rwa [abz] at this
inductive bL:Ct
 |mk {word:Str} {rest zs:List Str} {ds:List D} {P:Pk} (hf:lw word rest) (h:∀b:Bool,(b=true↔Ff zs word rest)->P (.fz (.bl b)) [.fz (aH word rest),.fd (zs.map Sum.inr) ds]):bL [.fz (aH word rest),.fd (zs.map Sum.inr) ds] P
@[irreducible] def bm:Ct:=λos P=>∃rows:List Rw,os=[.fz (.lst (rows.map dN))]/\BookL rows/\∀(zs:List Str) (ds:List D),zs.Nodup->(∀z,z∈zs↔Emp rows z)->zs.length<=30->P (.fd (zs.map Sum.inr) ds) os
section
variable {P:Program} {w:World} {K:Frag}  
abbrev JP:Stmt:=top 28
abbrev Mx:FS:=
  (ak (fIf (au (fOp aEq (fOp aIx (ab 0) (fC (.int 0))) (fC (.str "row"))))
   (bc (fCB we (aa (bI [1] 1 (cf (ag bG (aa (fFz (ab 0)) ae))) (ac 0) kC (fOp aIn (ab 0) (ab 2))) ae)))
   aL)
  (ak (fIf (au (fOp aEq (fOp aIx (ab 0) (fC (.int 0))) (fC (.str "first"))))
   (bc (fCB Ma (aa (bI [1] 1 (cf (ag bG (aa (fFz (ab 0)) ae))) (ac 0) kC (fOp aIn (ab 0) (ab 2))) ae)))
   aL)
  (bc (fOp aIn (fOp aIx (ab 0) (fC (.int 0))) (fC (.gt [.str "none", .str "again", .str "ahead", .str "not"]))))))
theorem iu{rest:List Str}(h:lw word rest):rest.length<=8:=by
 obtain⟨zs,_,h⟩:=h;rcases h with ⟨_,rfl⟩|⟨_,z,rfl,_⟩|⟨_,h,_⟩|⟨_,_,h,_⟩
 ·simp
 ·simp
 ·nofun
 ·exact h
theorem My:Hh bL Mx [1] 2:=by
 intro os P h;obtain@⟨word,rest,zs,ds,_,g,q⟩:=h;have sz:=du;have j:=iu g
 have f:(b6 word rest).length<=8:=by
  unfold b6;split
  ·simp
  ·exact j
 ext;refine av ?_;ext;refine bY ?_;ext;refine⟨a7,?_⟩;ext;refine aq (word = "row") bx (λhw=>?_) (λhw=>?_)
 ·have c:b6 word rest=rest:=by unfold b6;rw[if_neg (by rw[hw];decide)]
  ext;refine .mk ?_;rw[c];ext;refine aE (λi as ρ=>∃x:Option OV,as=(rest.take i).map (λz=>D.bl (qf (zs.map Sum.inr) (.inr z)))/\ρ=[x,some (.fz (aH word rest)),some (.fd (zs.map Sum.inr) ds)]) ⟨none,by simp,rfl⟩ ?_ ?_
  ·rintro i d as ρ R hd ⟨x,rfl,rfl⟩ k
   obtain⟨z,a,rfl⟩:∃z,rest[i]?=some z/\d=.str z:=by
    rw[List.getElem?_map,aaj] at hd;obtain⟨z,h1,h2⟩:=hd;exact⟨z,h1,h2.symm⟩
   ext;refine cH ?_;ext;refine⟨by rw[abz,abD];nofun,k _ _ ⟨some (.fz (.str z)),by rw[aam,a,aad];rfl,rfl⟩⟩
  ·rintro as ρ ⟨x,rfl,rfl⟩;rw[abz,aah (aac _)];have e:rest.map (λz=>D.bl (qf (zs.map Sum.inr) (.inr z)))=(rest.map λz=>qf (zs.map Sum.inr) (.inr z)).map D.bl:=by rw[aau];rfl
   rw[e];ext;refine tw ?_;ext;refine q _ ?_;rw[List.all_map,abV];constructor
   ·intro h;exact .inl ⟨hw,λz a=>bz.mp (h z a)⟩
   ·rintro (⟨_,h⟩|⟨e,_⟩|e) z a
    ·exact bz.mpr (h z a)
    ·rw[hw] at e;exact absurd e (by decide)
    ·rw[hw] at e;exact absurd e (by unfold JO;decide)
 ·ext;refine av ?_;ext;refine bY ?_;ext;refine⟨a7,?_⟩;ext;refine aq (word = "first") bx (λb=>?_) (λb=>?_)
  ·have c:b6 word rest=rest:=by unfold b6;rw[if_neg (by rw[b];decide)]
   ext;refine .mk ?_;rw[c];ext;refine aE (λi as ρ=>∃x:Option OV,as=(rest.take i).map (λz=>D.bl (qf (zs.map Sum.inr) (.inr z)))/\ρ=[x,some (.fz (aH word rest)),some (.fd (zs.map Sum.inr) ds)]) ⟨none,by simp,rfl⟩ ?_ ?_
   ·rintro i d as ρ R hd ⟨x,rfl,rfl⟩ k
    obtain⟨z,a,rfl⟩:∃z,rest[i]?=some z/\d=.str z:=by
     rw[List.getElem?_map,aaj] at hd;obtain⟨z,h1,h2⟩:=hd;exact⟨z,h1,h2.symm⟩
    ext;refine cH ?_;ext;refine⟨by rw[abz,abD];nofun,k _ _ ⟨some (.fz (.str z)),by rw[aam,a,aad];rfl,rfl⟩⟩
   ·rintro as ρ ⟨x,rfl,rfl⟩;rw[abz,aah (aac _)];have e:rest.map (λz=>D.bl (qf (zs.map Sum.inr) (.inr z)))=(rest.map λz=>qf (zs.map Sum.inr) (.inr z)).map D.bl:=by rw[aau];rfl
    rw[e];ext;refine tw ?_;ext;refine q _ ?_;rw[ab5,aaV];constructor
    ·rintro⟨z,a,h⟩;exact .inr (.inl ⟨b,z,a,bz.mp h⟩)
    ·rintro (⟨e,_⟩|⟨_,z,a,h⟩|e)
     ·exact absurd e hw
     ·exact⟨z,a,bz.mpr h⟩
     ·rw[b] at e;exact absurd e (by unfold JO;decide)
  ·ext;refine bY ?_;ext;refine⟨⟨rfl,rfl⟩,?_⟩;ext;refine q _ ?_;rw[show [D.str (Str.ofString "none"),D.str (Str.ofString "again"),D.str (Str.ofString "ahead"),D.str (Str.ofString "not")]=([("none" : Str), "again", "ahead", "not"]).map D.str from rfl,eN];simp only[List.mem_cons,List.not_mem_nil,or_false];constructor
   ·intro h;exact .inr (.inr h)
   ·rintro (⟨e,_⟩|⟨e,_⟩|e)
    ·exact absurd e hw
    ·exact absurd e b
    ·exact e
end
section
variable {P:Program} {w:World} {K:Frag}  
theorem Bd(h:(rows.map dN)[i]?=some d):∃r,rows[i]?=some r/\d=dN r:=by
 rw[List.getElem?_map,aaj] at h;obtain⟨r,h1,h2⟩:=h;exact⟨r,h1,h2.symm⟩
abbrev oR:Stmt:=top 29
abbrev zt:FS:=
  (ak (cq 1 Dn)
  (ak (bX (fC (.bl true)) (ac 2))
  (ak (hV (Gn (ab 2))
   (ak (bX (fC (.bl false)) (ac 2))
  (p9 (cf (ab 0)) (i5 2 (aU (ac 3) (aU (ac 4) i4)))
   (fIf (LU (au (fOp lh (ab 3) (ab 1))) (dm (ag bL (aa (fFz (ab 4)) (aa (ab 1) ae)))))
   (ak (qd 1 (fC (.bl true)) (ab 3))
  (bX (fC (.bl true)) (ac 2)))
   aL))))
  (bc (ab 1)))))
theorem zu:Hh bm zt [] 5:=by
 intro os P h;unfold bm at h;obtain⟨rows,rfl,v,q⟩:=h;have sz:=du;have few:=v.few;ext
 refine ef (λm ρ=>∃(zs:List Str) (ds:List D) (g:Bool) (n l:Option OV),ρ=[some (.fz (.lst (rows.map dN))),some (.fd (zs.map Sum.inr) ds),some (.fz (.bl g)),n,l]/\Walk1 rows zs zs 0/\(g=true∨uO rows zs)/\m=2*(rows.length - zs.length)+(if g=true then 1 else 0))
  _ ⟨[],[],true,none,none,rfl,Walk1.start abQ (λ_ h=>by cases h) (λ_ h=>by cases h),.inl rfl,rfl⟩ ?_
 rintro m ρ R ⟨zs,ds,g,n,l,rfl,W,A,rfl⟩ x;ext
 cases g with
 | false=>
  have u:uO rows zs:=by
   rcases A with z|z
   ·cases z
   ·exact z
  refine cJ ?_;ext;exact q zs ds W.nd (λz=>⟨W.emp z,λh=>h.mem u⟩) (aas W.len few)
 | true=>
  refine cH ?_;ext
  refine bP (λi ρ=>∃(a:List Str) (c:List D) (g:Bool) (n l:Option OV),ρ=[some (.fz (.lst (rows.map dN))),some (.fd (a.map Sum.inr) c),some (.fz (.bl g)),n,l]/\Walk1 rows zs a i/\(g=false->a=zs)/\(g=true->zs.length<a.length))
   ⟨zs,ds,false,n,l,rfl,W,λ_=>rfl,λz=>nomatch z⟩ ?_ ?_
  ·rintro i d ρ C hd ⟨a,c,g,n,l,rfl,f,j,k⟩ o;obtain⟨r,hr,rfl⟩:=Bd hd;have s:=List.mem_of_getElem? hr;ext;refine⟨rfl,?_⟩;ext;refine av ?_;ext;refine aq (r.1∉a) (by rw[aaT,abT,Ne,bz]) (λp=>?_) (λp=>?_)
   ·ext;refine .mk (v.ok r s).2 λb B=>?_;ext;refine aq (Ff a r.2.1 r.2.2) B (λt=>?_) (λt=>?_)
    ·ext;refine⟨rfl,?_⟩;ext;have w:=f.add hr p t;refine⟨by rw[abz];have:=f.len;nofun,?_⟩;ext;refine o _ ⟨a++[r.1],(gq (a.map Sum.inr) c (.inr r.1) (.bl true)).2,true,some (.fz (.str r.1)),some (.fz (aH r.2.1 r.2.2)),?_,w,(λz=>nomatch z),λ_=>?_⟩
     ·have e:=tD (zs:=a) (ds:=c) (z:=r.1) (d:=.bl true);unfold KS.dedup1 at e;rw[if_neg p] at e;rw[← e];rfl
     ·rcases w.grow with ⟨z,_⟩|z
      ·have:=congrArg List.length z;rw[abB,abb] at this;rcases f.grow with ⟨y,_⟩|y
       ·rw[y] at this;nofun
       ·nofun
      ·exact z
    ·exact o _ ⟨a,c,g,some (.fz (.str r.1)),some (.fz (aH r.2.1 r.2.2)),rfl,f.skip hr λz=>absurd z t,j,k⟩
   ·ext;refine cJ ?_;exact o _ ⟨a,c,g,some (.fz (.str r.1)),some (.fz (aH r.2.1 r.2.2)),rfl,f.skip hr λ_=>Classical.not_not.mp p,j,k⟩
  ·rintro ρ ⟨a,c,g,n,l,rfl,f,j,k⟩;rw[abz] at f;have hl:=f.len;refine x _ _ ?_ ⟨a,c,g,n,l,rfl,Walk1.start f.nd f.emp f.sub,?_,rfl⟩
   ·cases g with
    |false=>rw[j rfl,if_neg (by decide),if_pos rfl];nofun
    |true=>have:=k rfl;rw[if_pos rfl];nofun
   ·cases g with
    |true=>exact .inl rfl
    | false=>
     refine .inr ?_;have e:=j rfl;rcases f.grow with ⟨_,z⟩|z
     ·rw[aah (aac _)] at z;rw[e];exact λr hr m=>z r hr m
     ·rw[e] at z;exact absurd z (aaX _)
theorem uP{P:Pk}(a:BookL rows)(h:∀(zs:List Str) (ds:List D),zs.Nodup->(∀z,z∈zs↔Emp rows z)->zs.length<=30->P (.fd (zs.map Sum.inr) ds) [.fz (.lst (rows.map dN))]):bm [.fz (.lst (rows.map dN))] P:=by
 unfold bm;exact⟨rows,rfl,a,h⟩
theorem lI(h:(zs.map D.str)[i]?=some d):∃z,zs[i]?=some z/\d=.str z:=by
 rw[List.getElem?_map,aaj] at h;obtain⟨r,h1,h2⟩:=h;exact⟨r,h1,h2.symm⟩
end
def ki(zs:List Str):List Str->List Str
 |[]=>[]
 |p::r=>if p∈zs then p::ki zs r else [p]
theorem qC{zs a:List Str}(h:∀z,z∈zs↔z∈a):∀ps,ki zs ps=ki a ps
 |[]=>rfl
 | p::r=>by
  unfold ki;rw[qC h r];by_cases hp:p∈zs
  ·rw[if_pos hp,if_pos ((h p).mp hp)]
  ·rw[if_neg hp,if_neg λz=>hp ((h p).mpr z)]
theorem oS{zs:List Str}:∀ps,(ki zs ps).length<=ps.length
 |[]=>aac _
 | p::r=>by
  unfold ki;have:=oS (zs:=zs) r;split <;> simp <;> nofun
theorem uQ{p:Str}(hp:ps[i]?=some p)(h:∀z∈ps.take i,z∈zs):ki zs ps=ps.take i++ki zs (ps.drop i):=by
 induction ps generalizing i with
 |nil=>simp at hp
 | cons a r b=>
  cases i with
  |zero=>rfl
  | succ i=>
   rw[List.take_succ_cons] at h;have d:=h a (aab ..);rw[List.getElem?_cons_succ] at hp;have:=b hp λz c=>h z (aae _ c);rw[List.take_succ_cons,List.drop_succ_cons,List.cons_append,← this];rw[ki,if_pos d]
theorem Fg{p:Str}(hp:ps[i]?=some p):ps.drop i=p::ps.drop (i+1):=by
 obtain⟨h,e⟩:=List.getElem?_eq_some_iff.mp hp;rw[aaN h,e]
theorem zv{p:Str}(hp:ps[i]?=some p)(h:∀z∈ps.take i,z∈zs)(a:p∉zs):ki zs ps=ps.take (i+1):=by
 rw[uQ hp h,Fg hp,ki,if_neg a,aam,hp];rfl
theorem oT{zs:List Str}:∀{ps:List Str},(∀z∈ps,z∈zs)->ki zs ps=ps
 |[],_=>rfl
 | p::r,h=>by
  rw[ki,if_pos (h p (aab ..)),oT λz a=>h z (aae _ a)]
def bR(zs:List Str)(word:Str)(rest:List Str):List Str:=if word = "row" then ki zs rest else b6 word rest
def dH(zs:List Str)(r:Rw):D:=.lst ((bR zs r.2.1 r.2.2).map .str)
inductive bA:Ct
 |mk {ps zs:List Str} {ds:List D} {P:Pk} (h8:ps.length<=8) (h:P (.fl ((ki zs ps).map .str)) [.fz (.lst (ps.map .str)),.fd (zs.map Sum.inr) ds]):bA [.fz (.lst (ps.map .str)),.fd (zs.map Sum.inr) ds] P
inductive bp:Ct
 |mk {word:Str} {rest zs:List Str} {ds:List D} {P:Pk} (hf:lw word rest) (h:P (.fl ((bR zs word rest).map .str)) [.fz (aH word rest),.fd (zs.map Sum.inr) ds]):bp [.fz (aH word rest),.fd (zs.map Sum.inr) ds] P
inductive cW:Ct
 |mk {rows:List Rw} {P:Pk} (hB:BookL rows) (h:∀zs:List Str,(∀z,z∈zs↔Emp rows z)->P (.fd ((rows.map (·.1)).map Sum.inr) (rows.map (dH zs))) [.fz (.lst (rows.map dN))]):cW [.fz (.lst (rows.map dN))] P
section
variable {P:Program} {w:World} {K:Frag}  
abbrev Be:Stmt:=top 30
abbrev JQ:FS:=
  (ak (cq 2 (iZ ae))
  (ak (p9 (cf (ab 0)) (ac 3)
   (ak (bQ (wd 2 (ab 3)))
  (fIf (au (fOp lh (ab 3) (ab 1)))
   AO
   aL)))
  (bc (ab 2))))
theorem JR:Hh bA JQ [1] 4:=by
 intro os P h;obtain@⟨ps,zs,ds,_,g,q⟩:=h;have sz:=du;ext;refine⟨aan _,?_⟩;ext;refine bP (λi ρ=>∃x:Option OV,ρ=[some (.fz (.lst (ps.map .str))),some (.fd (zs.map Sum.inr) ds),some (.fl ((ps.take i).map .str)),x]/\∀z∈ps.take i,z∈zs) ⟨none,by simp,λz b=>by simp at b⟩ ?_ ?_
 ·rintro i d ρ R hd ⟨x,rfl,a⟩ f;obtain⟨p,hp,rfl⟩:=lI hd;ext;refine⟨rfl,?_⟩;ext;refine⟨by rw[abz,abD];nofun,?_⟩;ext;refine av ?_;ext;refine aq (p∉zs) (by rw[aaT,abT,Ne,bz]) (λc=>?_) (λc=>?_)
  ·ext;have e:=zv hp a c;rw[e,aam,hp,aad] at q;exact q
  ·refine f _ ⟨some (.fz (.str p)),?_,?_⟩
   ·rw[aam,hp,aad];rfl
   ·intro z b;rcases oQ hp b with h|h
    ·exact a z h
    ·rw[h];exact Classical.not_not.mp c
 ·rintro ρ ⟨x,rfl,a⟩;rw[abz,aah (aac _)] at *;ext;rw[oT a] at q;exact q
abbrev uR:Stmt:=top 31
abbrev Fh:FS:=
  (ak (fIf (au (fOp aEq (fOp aIx (ab 0) (fC (.int 0))) (fC (.str "row"))))
   (bc (ag bA (aa (fFz (ag bG (aa (fFz (ab 0)) ae))) (aa (ab 1) ae))))
   aL)
  (bc (ag bG (aa (fFz (ab 0)) ae))))
theorem Fi:Hh bp Fh [1] 2:=by
 intro os P h;obtain@⟨word,rest,zs,ds,_,b,q⟩:=h;have c:=iu b;unfold bR at q;ext;refine av ?_;ext;refine bY ?_;ext;refine⟨a7,?_⟩;ext;refine aq (word = "row") bx (λhw=>?_) (λhw=>?_)
 ·have a:b6 word rest=rest:=by unfold b6;rw[if_neg (by rw[hw];decide)]
  rw[if_pos hw] at q;ext;refine .mk ?_;rw[a];ext;refine .mk c ?_;ext;exact q
 ·rw[if_neg hw] at q;ext;refine .mk ?_;ext;exact q
theorem oU{f:α->β}{l:List α}{a:α}(h:l[i]?=some a):(l.take (i+1)).map f=(l.take i).map f++[f a]:=by
 rw[aam,h,aad];rfl
theorem Fj{r:Rw}(nd:(rows.map (·.1)).Nodup)(h:rows[i]?=some r):r.1∉(rows.take i).map (·.1):=by
 intro z;obtain⟨hi,e⟩:=List.getElem?_eq_some_iff.mp h;obtain⟨r',a,f⟩:=abE.mp z;obtain⟨j,d,b⟩:=aby a;rw[List.getElem_take] at b;have c:j<i:=by rw[abD] at d;nofun
 have:=(List.getElem_inj (i:=j) (j:=i) (h₀:=by rw[abz];nofun) (h₁:=by rw[abz];nofun) nd).mp (by rw[List.getElem_map,List.getElem_map,b,e,f]);nofun
theorem zw(h:z∉zs):gq (zs.map Sum.inr) ds (.inr z) d=(zs.map Sum.inr++[.inr z],ds++[d]):=by
 unfold gq;have e:¬((zs.map Sum.inr).any λx=>decide (x=(Sum.inr z:Key)))=true:=λq=>h (bz.mp q);rw[if_neg e]
abbrev uS:Stmt:=top 32
abbrev Fk:FS:=
  (ak (cq 1 (ag bm (aa (fFz (ab 0)) ae)))
  (ak (cq 2 Dn)
  (ak (p9 (cf (ab 0)) (i5 2 (aU (ac 3) (aU (ac 4) i4)))
   (qd 2 (ag bp (aa (fFz (ab 4)) (aa (ab 1) ae))) (ab 3)))
  (bc (ab 2)))))
theorem Fl:Hh cW Fk [] 5:=by
 intro os P h;obtain@⟨rows,_,b,q⟩:=h;have sz:=du;have few:=b.few;ext;refine uP b λzs ds k he hl=>?_;ext;refine bP (λi ρ=>∃f c:Option OV,ρ=[some (.fz (.lst (rows.map dN))),some (.fd (zs.map Sum.inr) ds),some (.fd (((rows.take i).map (·.1)).map Sum.inr) ((rows.take i).map (dH zs))),f,c]) ⟨none,none,by simp⟩ ?_ ?_
 ·rintro i d ρ R hd ⟨f,c,rfl⟩ j;obtain⟨r,hr,rfl⟩:=Bd hd;have g:=List.mem_of_getElem? hr;ext;refine⟨rfl,?_⟩;ext;refine .mk (b.ok r g).2 ?_;ext;refine⟨rfl,?_⟩;ext;refine⟨by rw[abz,abz,abD];nofun,?_⟩;refine j _ ⟨some (.fz (.str r.1)),some (.fz (aH r.2.1 r.2.2)),?_⟩;have a:=Fj b.nd hr;have e:=zw (ds:=(rows.take i).map (dH zs)) (d:=dH zs r) a;rw[oU hr,oU hr,aad];show [_,_,some (OV.fd (gq (((rows.take i).map (·.1)).map Sum.inr) ((rows.take i).map (dH zs)) (.inr r.1) (dH zs r)).1 (gq (((rows.take i).map (·.1)).map Sum.inr) ((rows.take i).map (dH zs)) (.inr r.1) (dH zs r)).2),_,_]=_;rw[e];rfl
 ·rintro ρ ⟨f,c,rfl⟩;rw[abz,aah (aac _)];ext;exact q zs he
end
abbrev dI(zs:List Str)(rows:List Rw):D:=.dct ((rows.map (·.1)).map Sum.inr) (rows.map (dH zs))
def oV(zs ls:List Str)(r:Rw):List Str:=(bR zs r.2.1 r.2.2).filter λz=>decide (z∈ls)
def JS(zs:List Str)(rows:List Rw)(S:List Str):Prop:=∀n∈S,∃r∈rows,r.1=n/\∃p∈bR zs r.2.1 r.2.2,p∈S
def Bf(zs:List Str)(rows:List Rw):Prop:=∀S,JS zs rows S->S=[]
def xN(zs:List Str)(rows:List Rw)(ls:List Str)(n:Str):Prop:=∀r∈rows,r.1=n->∀p∈bR zs r.2.1 r.2.2,p∉ls
def m7(zs:List Str)(rows:List Rw)(ls:List Str)(n:Str):Bool:=@decide (xN zs rows ls n) (Classical.propDecidable _)
theorem fO :m7 zs rows ls n=true↔xN zs rows ls n:=by
 unfold m7;exact @decide_eq_true_iff _ (Classical.propDecidable _)
theorem Fm(sub:∀n∈ls,n∈rows.map (·.1))(h:∀n∈ls,¬xN zs rows ls n):JS zs rows ls:=by
 intro n b;obtain⟨r,hr,e⟩:=abE.mp (sub n b);have g:=h n b;unfold xN at g;simp only[Classical.not_forall,Classical.not_not] at g;obtain⟨r',a,c,p,hp,hl⟩:=g;exact⟨r',a,c,p,hp,hl⟩
@[irreducible] def aS:Ct:=λos P=>∃(rows:List Rw) (zs ls:List Str) (ds:List D) (r:Rw),(os=[.fz (dI zs rows),.fz (.str r.1),.fd (ls.map Sum.inr) ds]∨os=[.fz (dI zs rows),.fz (.str r.1),.fz (.dct (ls.map Sum.inr) ds)])/\BookL rows/\r∈rows/\P (.fl ((oV zs ls r).map .str)) os
section
variable {P:Program} {w:World} {K:Frag}  
theorem fzzd{e:D}:[OV.fz d,OV.fz e,OV.fd ks ds].length=3/\∀(j:Nat) (o:OV),[OV.fz d,OV.fz e,OV.fd ks ds][j]?=some o->j∉([2]:List Nat)->sV o=true:=⟨rfl,λj o e a=>by
 match j,e with
 |0,e=>cases e;rfl
 |1,e=>cases e;rfl
 |2,e=>exact absurd (by simp) a⟩
theorem kj{f:Rw->D}:∀{rows:List Rw} {r:Rw},(rows.map (·.1)).Nodup->r∈rows->ie ((rows.map (·.1)).map Sum.inr) (rows.map f) (.inr r.1)=some (f r)
 |[],_,_,h=>nomatch h
 | a::rows,r,b,h=>by
  unfold ie;rw[abC,abC,abC,abZ,List.find?_cons];rw[abC,abJ] at b;by_cases e:a.1=r.1
  ·have:r=a:=by
    rcases abH.mp h with h|h
    ·exact h
    ·exact absurd (abE.mpr ⟨r,h,e.symm⟩) b.1
   subst this;simp
  ·have h':r∈rows:=by
    rcases abH.mp h with h|h
    ·exact absurd (by rw[h]) e
    ·exact h
   rw[show decide ((Sum.inr a.1:Key)=Sum.inr r.1)=false from decide_eq_false λz=>e (aa8 z)];exact kj b.2 h'
theorem uT{k:Key}(h:ie ks ds k=some d)(q:Q d):match ie ks ds k with
  |some d=>Q d
  |none=>False:=by rw [h];exact q
theorem qD{rest:List Str}(b:lw word rest):(bR zs word rest).length<=8:=by
 have a:=iu b;unfold bR b6;split
 ·exact aas (oS rest) a
 ·split
  ·simp
  ·exact a
abbrev oW:Stmt:=top 33
abbrev zy:FS:=
  (bc (bI [2] 1 (cf (fOp aIx (ab 0) (ab 1))) (ac 0) (au (fOp aIn (ab 0) (ab 3))) (ab 0)))
theorem fzzf{e f:D}:[OV.fz d,OV.fz e,OV.fz f].length=3/\∀(j:Nat) (o:OV),[OV.fz d,OV.fz e,OV.fz f][j]?=some o->j∉([2]:List Nat)->sV o=true:=⟨rfl,λj o e a=>by
 match j,e with
 |0,e=>cases e;rfl
 |1,e=>cases e;rfl
 |2,e=>exact absurd (by simp) a⟩
theorem zz:Lh aS 3 [2]:=λos P h=>by
 unfold aS at h;obtain⟨rows,zs,ls,ds,r,rfl|rfl,_⟩:=h
 ·exact fzzd
 ·exact fzzf
theorem zB:Hh aS zy [2] 3:=by
 intro os P h;unfold aS at h;obtain⟨rows,zs,ls,ds,r,ho,b,hr,q⟩:=h;have sz:=du;have c:=qD (zs:=zs) (b.ok r hr).2;rcases ho with rfl|rfl
 ·ext;refine uT (kj (f:=dH zs) b.nd hr) ?_;ext;refine aE (λi as ρ=>∃x:Option OV,as=(((bR zs r.2.1 r.2.2).take i).filter λz=>decide (z∈ls)).map .str/\ρ=[x,some (.fz (dI zs rows)),some (.fz (.str r.1)),some (.fd (ls.map Sum.inr) ds)]) ⟨none,by simp,rfl⟩ ?_ ?_
  ·rintro i d as ρ R hd ⟨x,rfl,rfl⟩ k;obtain⟨z,a,rfl⟩:=lI hd;ext;refine aq (z∈ls) bz (λhp=>?_) (λhp=>?_)
   ·ext;refine⟨?_,k _ _ ⟨some (.fz (.str z)),?_,rfl⟩⟩
    ·rw[abz];have:=aaO (λz=>decide (z∈ls)) ((bR zs r.2.1 r.2.2).take i);rw[abD] at this;nofun
    ·rw[aam,a,aaE,aad];simp[hp]
   ·refine k _ _ ⟨some (.fz (.str z)),?_,rfl⟩;rw[aam,a,aaE,aad];simp[hp]
  ·rintro as ρ ⟨x,rfl,rfl⟩;rw[abz,aah (aac _)];ext;exact q
 ·ext;refine uT (kj (f:=dH zs) b.nd hr) ?_;ext;refine aE (λi as ρ=>∃x:Option OV,as=(((bR zs r.2.1 r.2.2).take i).filter λz=>decide (z∈ls)).map .str/\ρ=[x,some (.fz (dI zs rows)),some (.fz (.str r.1)),some (.fz (.dct (ls.map Sum.inr) ds))]) ⟨none,by simp,rfl⟩ ?_ ?_
  ·rintro i d as ρ R hd ⟨x,rfl,rfl⟩ k;obtain⟨z,a,rfl⟩:=lI hd;ext;refine aq (z∈ls) bz (λhp=>?_) (λhp=>?_)
   ·ext;refine⟨?_,k _ _ ⟨some (.fz (.str z)),?_,rfl⟩⟩
    ·rw[abz];have:=aaO (λz=>decide (z∈ls)) ((bR zs r.2.1 r.2.2).take i);rw[abD] at this;nofun
    ·rw[aam,a,aaE,aad];simp[hp]
   ·refine k _ _ ⟨some (.fz (.str z)),?_,rfl⟩;rw[aam,a,aaE,aad];simp[hp]
  ·rintro as ρ ⟨x,rfl,rfl⟩;rw[abz,aah (aac _)];ext;exact q
theorem qE{r:Rw}{P:Pk}(a:BookL rows)(hr:r∈rows)(h:P (.fl ((oV zs ls r).map .str)) [.fz (dI zs rows),.fz (.str r.1),.fz (.dct (ls.map Sum.inr) ds)]):aS [.fz (dI zs rows),.fz (.str r.1),.fz (.dct (ls.map Sum.inr) ds)] P:=by
 unfold aS;exact⟨rows,zs,ls,ds,r,.inr rfl,a,hr,h⟩
end
structure Left(zs:List Str)(rows:List Rw)(ls:List Str):Prop where
 nd:ls.Nodup
 sub:∀n∈ls,n∈rows.map (·.1)
 ring:JS zs rows ls
 all:∀S,JS zs rows S->∀n∈S,n∈ls
@[irreducible] def aX:Ct:=λos P=>∃(rows:List Rw) (zs:List Str),os=[.fz (dI zs rows)]/\BookL rows/\∀(ls:List Str) (ds:List D),Left zs rows ls->P (.fd (ls.map Sum.inr) ds) os
section
variable {P:Program} {w:World} {K:Frag}  
theorem qF{P:Pk}(a:BookL rows)(h:∀(ls:List Str) (ds:List D),Left zs rows ls->P (.fd (ls.map Sum.inr) ds) [.fz (dI zs rows)]):aX [.fz (dI zs rows)] P:=by
 unfold aX;exact⟨rows,zs,rfl,a,h⟩
inductive jA:Ct
 |mk {rows:List Rw} {P:Pk} (hB:BookL rows) (hN:∀zs:List Str,(∀z,z∈zs↔Emp rows z)->Bf zs rows) (h:P (.fz .non) [.fz (.lst (rows.map dN))]):jA [.fz (.lst (rows.map dN))] P
abbrev Bg:Stmt:=top 35
abbrev JT:FS:=
  (ak (bX (ag cW (aa (fFz (ab 0)) ae)) (ac 1))
  (ak (cq 2 (ag aX (aa (fFz (ab 1)) ae)))
  (ak (fIf (au (fOp aEq (fCB eY (aa (ab 2) ae)) (fC (.int 0))))
   (bc (fC .non))
   aL)
  (ak eh
  (ak eh
  (ak eh
  eh))))))
theorem JU:Hh jA JT [] 5:=by
 intro os P h;obtain@⟨rows,_,b,c,q⟩:=h;ext;refine .mk b λzs he=>?_;ext;refine qF b λls ds L=>?_;ext;refine av ?_;ext;refine⟨ar,?_⟩;ext;refine aq (ls=[]) ?_ (λe=>?_) (λa=>absurd (c zs he ls L.ring) a)
 ·rw[aV,abz];constructor
  ·intro h;exact aaz (by nofun)
  ·intro h;rw[h];rfl
 ·ext;exact q
end
theorem lJ:∀ls:List Str,(ls.map Sum.inr:List Key).map xL=ls.map D.str
 |[]=>rfl
 |z::ls=>by rw[abC,abC,abC,lJ ls];rfl
structure Away(zs:List Str)(rows:List Rw)(ls:List Str):Prop where
 nd:ls.Nodup
 sub:∀n∈ls,n∈rows.map (·.1)
 all:∀S,JS zs rows S->∀n∈S,n∈ls
theorem Away.len(O:Away zs rows ls):ls.length<=rows.length:=by
 have:=aat O.nd O.sub
 rwa [abz] at this
theorem Away.next(O:Away zs rows ls):Away zs rows (ls.filter λz=>decide (z∉ls.filter (m7 zs rows ls))):=by
 refine⟨O.nd.sublist List.filter_sublist,λn a=>O.sub n (abM.mp a).1,λS c n a=>abM.mpr ⟨O.all S c n a,decide_eq_true λz=>?_⟩⟩;have g:=fO.mp (abM.mp z).2;obtain⟨r,hr,e,p,hp,b⟩:=c n a;exact g r hr e p hp (O.all S c p b)
theorem lK(nd:(rows.map (·.1)).Nodup){r r':Rw}(hr:r∈rows)(a:r'∈rows)(e:r'.1=r.1):r'=r:=by
 obtain⟨f,h1,c⟩:=aby hr;obtain⟨d,h2,b⟩:=aby a;have:=(List.getElem_inj (i:=d) (j:=f) (h₀:=by rw[abz];nofun) (h₁:=by rw[abz];nofun) nd).mp (by rw[List.getElem_map,List.getElem_map,c,b,e]);subst this;rw[← c,← b]
theorem m8{r:Rw}(nd:(rows.map (·.1)).Nodup)(hr:r∈rows):oV zs ls r=[]↔xN zs rows ls r.1:=by
 unfold oV;rw[List.filter_eq_nil_iff];constructor
 ·intro h r' a e p hp hl;rw[lK nd hr a e] at hp;exact h p hp (decide_eq_true hl)
 ·intro h p hp hl;exact h r hr rfl p hp (of_decide_eq_true hl)
theorem lL:∀{ls:List Str} {ds:List D} {z:Str},ds.length=ls.length->z∈ls->∃d,ie (ls.map Sum.inr) ds (.inr z)=some d
 |[],_,_,_,h=>nomatch h
 |a::ls,[],_,h,_=>by simp at h
 | a::ls,d::ds,z,h,b=>by
  unfold ie;rw[abC,abZ,List.find?_cons];by_cases e:a=z
  ·subst e;exact⟨d,by simp⟩
  ·rw[show decide ((Sum.inr a:Key)=Sum.inr z)=false from decide_eq_false λy=>e (aa8 y)];exact lL (by exists h) ((abH.mp b).resolve_left λy=>e y.symm)
theorem oX:∀{ls:List Str} {ds:List D} {z:Str},ds.length=ls.length->∃b,mO (ls.map Sum.inr) ds (.inr z)=((ls.filter λx=>decide (x≠z)).map Sum.inr,b)/\b.length=(ls.filter λx=>decide (x≠z)).length
 |[],[],_,_=>⟨[],rfl,rfl⟩
 |[],d::ds,_,h=>by simp at h
 |a::ls,[],_,h=>by simp at h
 | a::ls,d::ds,z,h=>by
  obtain⟨b,e,hl⟩:=oX (ls:=ls) (ds:=ds) (z:=z) (by exists h);unfold mO at e ⊢;injection e with g f
  by_cases q:a=z
  ·refine⟨b,?_,?_⟩
   ·subst q;simp only[List.map_cons,List.zip_cons_cons,List.filter_cons,ne_eq,not_true_eq_false,decide_false,if_neg Bool.false_ne_true];exact congr (congrArg _ g) f
   ·subst q;simpa using hl
  ·have i:decide ((Sum.inr a:Key)≠Sum.inr z)=true:=decide_eq_true λy=>q (aa8 y);have c:decide (a≠z)=true:=decide_eq_true q;refine⟨d::b,?_,?_⟩
   ·simp only[List.map_cons,List.zip_cons_cons,List.filter_cons,i,c,if_pos];rw[g,f]
   ·simp only[List.filter_cons,c,if_pos,List.length_cons,hl]
theorem gj :(ls.filter λz=>decide (z∉([]:List Str)))=ls:=List.filter_eq_self.mpr λa _=>by simp
theorem qG(nd:E.Nodup)(h:E[i]?=some z):z∉E.take i:=λb=>by
 obtain⟨hi,e⟩:=List.getElem?_eq_some_iff.mp h;obtain⟨k,c,a⟩:=aby b;rw[List.getElem_take] at a;rw[abD] at c;have:=(List.getElem_inj nd).mp (a.trans e.symm);nofun
theorem iw(h:E[i]?=some z):((ls.filter λz=>decide (z∉E.take i)).filter λx=>decide (x≠z))=ls.filter λz=>decide (z∉E.take (i+1)):=by
 rw[List.filter_filter];refine List.filter_congr λx _=>?_;rw[aam,h];simp only[Option.toList,List.mem_append,List.mem_singleton];by_cases h1:x=z <;> by_cases h2:x∈E.take i <;> simp[h1,h2]
section
variable {P:Program} {w:World} {K:Frag}  
abbrev lM:Stmt:=top 34
abbrev uU:FS:=
  (ak (cq 1 (fCB D5 (aa (ab 0) ae)))
  (ak (bX (fC (.bl true)) (ac 2))
  (ak (hV (Gn (ab 2))
   (ak (bX (tP [0,1] 1 1 (ac 0) (au (fOp aEq (fCB eY (aa (ag aS (aa (fFz (ab 1)) (aa (fFz (ab 0)) (aa (ab 2) ae)))) ae)) (fC (.int 0)))) (ab 0)) (ac 3))
  (ak (p9 (cf (ab 3)) (ac 4)
   (bQ (D0 1 (ab 4))))
  (bX (fOp (i6 (λi j=>decide (j<i)) λi j=>aZ j i) (fCB eY (aa (ab 3) ae)) (fC (.int 0))) (ac 2)))))
  (bc (ab 1)))))
theorem uV:Hh aX uU [] 5:=by
 intro os P h;unfold aX at h;obtain⟨rows,zs,rfl,v,q⟩:=h;have sz:=du;have few:=v.few;ext
 refine ef (λm ρ=>∃(ls:List Str) (ds:List D) (b:Bool) (w t:Option OV),ρ=[some (.fz (dI zs rows)),some (.fd (ls.map Sum.inr) ds),some (.fz (.bl b)),w,t]/\Away zs rows ls/\ds.length=ls.length/\(b=false->∀n∈ls,¬xN zs rows ls n)/\m=if b then ls.length+1 else 0)
  _ ⟨rows.map (·.1),rows.map (dH zs),true,none,none,rfl,⟨v.nd,λ_ h=>h,λS I n j=>?_⟩,by rw[abz,abz],(λz=>nomatch z),rfl⟩ ?_
 ·obtain⟨r,hr,e,_⟩:=I n j;exact abE.mpr ⟨r,hr,e⟩
 ·rintro m ρ R ⟨ls,ds,b,w,t,rfl,O,hl,H,rfl⟩ F;have G:=O.len;ext;refine aq (b=true) Iff.rfl (λe=>?_) (λe=>?_)
  ·subst e;ext;rw[show Me (ls.map Sum.inr) ds=ls.map D.str from lJ ls];refine aE (λi as ρ=>∃x:Option OV,as=((ls.take i).filter (m7 zs rows ls)).map .str/\ρ=[x,some (.fz (dI zs rows)),some (.fz (.dct (ls.map Sum.inr) ds)),some (.fz (.bl true)),fzo w,fzo t]) ⟨none,by simp,rfl⟩ ?_ ?_
   ·rintro k d as ρ T hd ⟨x,rfl,rfl⟩ u;obtain⟨n,j,rfl⟩:=lI hd;obtain⟨r,hr,rfl⟩:=abE.mp (O.sub n (List.mem_of_getElem? j));ext;refine qE v hr ?_;ext;refine⟨ar,?_⟩;ext;refine aq (xN zs rows ls r.1) ?_ (λhp=>?_) (λhp=>?_)
    ·rw[aV,abz,← m8 v.nd hr];constructor
     ·intro h;exact aaz (by nofun)
     ·intro h;rw[h];rfl
    ·ext;refine⟨?_,u _ _ ⟨some (.fz (.str r.1)),?_,rfl⟩⟩
     ·rw[abz];have:=aaO (m7 zs rows ls) (ls.take k);rw[abD] at this;nofun
     ·rw[aam,j,aaE,aad];simp[fO.mpr hp]
    ·refine u _ _ ⟨some (.fz (.str r.1)),?_,rfl⟩;rw[aam,j,aaE,aad];have:m7 zs rows ls r.1=false:=abT.mpr λz=>hp (fO.mp z);simp[this]
   ·rintro as ρ ⟨x,rfl,rfl⟩;rw[abz,aah (aac _)];refine⟨⟨_,rfl⟩,?_⟩;ext;generalize o:ls.filter (m7 zs rows ls)=E;have a:∀z∈E,z∈ls:=λz l=>by rw[← o] at l;exact(abM.mp l).1
    have s:E.Nodup:=by rw[← o];exact O.nd.sublist List.filter_sublist
    have J:E.length<=ls.length:=by rw[← o];exact aaO ..
    refine bP (λi ρ=>∃(c:List D) (x:Option OV),ρ=[some (.fz (dI zs rows)),some (.fd ((ls.filter λz=>decide (z∉E.take i)).map Sum.inr) c),some (.fz (.bl true)),some (.fz (.lst (E.map .str))),x]/\c.length=(ls.filter λz=>decide (z∉E.take i)).length) ⟨ds,t,?_,?_⟩ ?_ ?_
    ·rw[List.take_zero,gj]
    ·rw[List.take_zero,gj,hl]
    ·rintro i d ρ T hd ⟨c,x,rfl,f⟩ u;obtain⟨z,l,rfl⟩:=lI hd;have A:z∈ls.filter λz=>decide (z∉E.take i):=abM.mpr ⟨a z (List.mem_of_getElem? l),decide_eq_true (qG s l)⟩;obtain⟨V,N⟩:=lL f A;obtain⟨C,M,B⟩:=oX (z:=z) f;ext;refine⟨rfl,?_⟩;ext;refine uT N ?_;refine u _ ⟨C,some (.fz (.str z)),?_,?_⟩
     ·rw[M,iw l];rfl
     ·rw[B,iw l]
    ·rintro ρ ⟨c,x,rfl,f⟩;rw[abz,aah (aac _)] at *;have U:Away zs rows (ls.filter λz=>decide (z∉E)):=by rw[← o];exact O.next
     ext;refine F _ _ ?_ ⟨_,c,_,_,_,rfl,U,f,?_,rfl⟩
     ·rw[if_pos rfl];split
      ·rename_i h;have p:(0:Int)<((E.map D.str).length:Nat):=of_decide_eq_true h;rw[abz] at p
       have:(ls.filter λz=>decide (z∉E)).length<ls.length:=by
        cases E with
        |nil=>simp at p
        | cons y E=>
         refine List.length_filter_lt_length_iff_exists.mpr ⟨y,a y (aab ..),?_⟩;simp
       nofun
      ·nofun
     ·intro h n j g;have K:¬(0:Int)<((E.map D.str).length:Nat):=of_decide_eq_false h;rw[abz] at K;have L:E=[]:=aaz (by nofun);subst L;rw[gj] at j g;rw[List.filter_eq_nil_iff] at o;exact o n j (fO.mpr g)
  ·have Q:b=false:=by cases b with|true=>exact absurd rfl e|false=>rfl
   subst Q;ext;exact q ls ds ⟨O.nd,O.sub,Fm O.sub (H rfl),O.all⟩
end
structure BookR(rows:List Rw):Prop where
 b:BookL rows
 rise:K1 rows
 free:∀zs:List Str,(∀z,z∈zs↔Emp rows z)->Bf zs rows
inductive aY:Ct
 |mk {rows:List Rw} {P:Pk} (B:BookR rows) (h:P (.fz .non) [.fz (cR rows)]):aY [.fz (cR rows)] P
abbrev JV:Stmt:=top 48
abbrev Mz:FS:=
  (ak (fIf (iY (dm (ag eC (aa (fFz (ab 0)) ae))))
   eh
   aL)
  (fIf (au (fOp qi (ag jA (aa (fFz (ab 0)) ae)) (fC .non)))
   eh
   aL))
theorem MA:Hh aY Mz [] 1:=by
 intro os P h;obtain@⟨rows,_,B,q⟩:=h;have few:=B.b.few;ext;refine av ?_;ext;refine .mk (by nofun) B.b.ok B.rise ?_;ext;refine cJ ?_;ext;refine av ?_;ext;refine .mk B.b B.free ?_;ext;refine cJ ?_;ext;exact q
structure AskR(rows:List Rw)(n z:Str)(k:Nat):Prop where
 b:BookR rows
 n:cr n
 t:kh z
 s:z.length<sizeLine
 k:k<=z.length
abbrev uW(rows:List Rw)(n z:Str)(k:Nat):List OV:=[.fz (cR rows),.fz (.str n),.fz (.str z),.fz (.int k)]
inductive bM:Ct
 |mk {rows:List Rw} {n z:Str} {k:Nat} {P:Pk} (A:AskR rows n z k) (h:P (.fz .non) (uW rows n z k)):bM (uW rows n z k) P
abbrev Nb:Stmt:=top 49
abbrev f_rw:FS:=
  (ak (bQ (ag aY (aa (fFz (ab 0)) ae)))
  (ak (fIf (iY (dm (ag bK (aa (fFz (ab 1)) ae))))
   eh
   aL)
  (ak (fIf (iY (dm (ag cA (aa (fFz (ab 2)) ae))))
   eh
   aL)
  (fIf (iY (dm (ag cU (aa (fFz (ab 2)) (aa (fFz (ab 3)) ae)))))
   eh
   aL))))
theorem h_rw:Hh bM f_rw [] 4:=by
 intro os P h;obtain@⟨rows,n,z,k,_,A,q⟩:=h;ext;refine .mk A.b ?_;ext;refine av ?_;ext;refine .mk A.n ?_;ext;refine cJ ?_;ext;refine av ?_;ext;refine .mk A.s A.t ?_;ext;refine cJ ?_;ext;refine av ?_;ext;refine .mk A.k (ab1 A.s) ?_;ext;refine cJ ?_;ext;exact q
abbrev rsR(rows:List Rw):List (Str×D):=rows.map λr=>(r.1,aH r.2.1 r.2.2)
abbrev ksR(rows:List Rw):List Key:=(rsR rows).map λr=>.inr r.1
abbrev dsR(rows:List Rw):List D:=(rsR rows).map (·.2)
theorem lN:∀rows:List Rw,mS (rows.map dN)=some (rsR rows)
 |[]=>rfl
 | r::rows=>by
  show (match mS (rows.map dN) with
   |some q=>some ((r.1,aH r.2.1 r.2.2)::q)
   |none=>none)=_
  rw[lN rows];rfl
theorem km{Q:List (Str×D)->Prop}(h:Q (rsR rows)):match mS (rows.map dN) with
  |some a=>Q a
  |none=>False:=by rw [lN];exact h
theorem zE(nd:(rows.map (·.1)).Nodup):((rsR rows).map (·.1)).Nodup:=by rw[aau];exact nd
def rlR(w:Str)(p:List Str):Rl:=if w = "none" then .leaf .none else if w = "any" then .leaf .any else if w = "signs" then .leaf (.signs (p.headD "")) else .comp w p
def fA(rows:List Rw):Rls:=λn=>match rows.find? λr=>decide (r.1=n) with
 |none=>.leaf .lack
 |some r=>rlR r.2.1 r.2.2
theorem JW(h:lw w p):aH w p=rlD (rlR w p):=by
 obtain⟨zs,_,h⟩:=h;unfold rlR;by_cases h1:w = "none"
 ·rw[if_pos h1];subst h1;rcases h with ⟨_,rfl⟩|⟨y,_⟩|⟨y,_⟩|⟨y,_⟩
  ·rfl
  ·exact absurd y (by decide +kernel)
  ·exact absurd y (by decide +kernel)
  ·exact absurd y (by decide +kernel)
 rw[if_neg h1];by_cases h2:w = "any"
 ·rw[if_pos h2];subst h2;rcases h with ⟨_,rfl⟩|⟨y,_⟩|⟨y,_⟩|⟨y,_⟩
  ·rfl
  ·exact absurd y (by decide +kernel)
  ·exact absurd y (by decide +kernel)
  ·exact absurd y (by decide +kernel)
 rw[if_neg h2];by_cases a:w = "signs"
 ·rw[if_pos a];subst a;rcases h with ⟨y,_⟩|⟨_,z,rfl,_⟩|⟨y,_⟩|⟨y,_⟩
  ·exact absurd y (by decide +kernel)
  ·rfl
  ·exact absurd y (by decide +kernel)
  ·exact absurd y (by decide +kernel)
 rw[if_neg a];rfl
theorem zF{f:Str}{a:List Str}(h:uh zs w p)(e:rlR w p=.comp f a):f ≠ "signs" /\ 1<=a.length/\a.length<=8/\∀x∈a,x∈zs:=by
 unfold rlR at e;split at e
 ·cases e
 ·rename_i h1;split at e
  ·cases e
  ·rename_i h2;split at e
   ·cases e
   ·rename_i c;cases e;rcases h with ⟨y|y,_⟩|⟨y,_⟩|⟨_,d,b⟩|⟨_,d,b,g⟩
    ·exact absurd y h1
    ·exact absurd y h2
    ·exact absurd y c
    ·exact⟨c,by nofun,by nofun,b⟩
    ·exact⟨c,d,b,g⟩
theorem uX(f:Rw->D)(n:Str):∀rows:List Rw,ie (rows.map λr=>(.inr r.1:Key)) (rows.map f) (.inr n)=(rows.find? λr=>decide (r.1=n)).map f
 |[]=>rfl
 | r::rows=>by
  unfold ie;rw[abC,abC,abZ,List.find?_cons,List.find?_cons];by_cases e:r.1=n
  ·rw[show decide ((Sum.inr r.1:Key)=Sum.inr n)=true from decide_eq_true (by rw[e]),show decide (r.1=n)=true from decide_eq_true e];rfl
  ·rw[show decide ((Sum.inr r.1:Key)=Sum.inr n)=false from decide_eq_false λy=>e (aa8 y),show decide (r.1=n)=false from decide_eq_false e];exact uX f n rows
theorem gJ(B:BookL rows):eu (ksR rows) (dsR rows) (fA rows):=λn=>by
 have e:ie (ksR rows) (dsR rows) (.inr n)=(rows.find? λr=>decide (r.1=n)).map λr=>aH r.2.1 r.2.2:=by
  have:=uX (λr=>aH r.2.1 r.2.2) n rows;unfold ksR dsR rsR;rw[aau,aau];exact this
 rw[e];unfold fA
 cases h:rows.find? λr=>decide (r.1=n) with
 |none=>rfl
 |some r=>exact JW (B.ok r (List.mem_of_find?_eq_some h)).2
theorem JX(h:∀r∈rows,EX zs r.2.1 r.2.2)(n:Str):io (fA rows) (n::zs):=λm w p e=>by
 unfold fA at e
 cases a:rows.find? λr=>decide (r.1=m) with
 |none=>rw[a] at e;cases e
 | some r=>
  rw[a] at e;obtain⟨h1,h2,d,c⟩:=zF (h r (List.mem_of_find?_eq_some a)).2 e;exact⟨h1,h2,d,λx b=>aae _ (c x b)⟩
theorem MB(A:AskR rows n z k)(b:z.length<=10000)(a:f<sizeLine):∃zs:List Str,zs.length<=46/\MkOk (fA rows) z zs n k f:=by
 obtain⟨zs,h1,h2⟩:=A.b.b.pool;refine⟨n::zs,by rw[abI];nofun,JX h2 n,aab ..,A.k,?_,?_,?_,a⟩
 ·rw[sizeLine_eq];nofun
 ·rw[sizeLine_eq,abI];have:(zs.length+1)*(z.length+1)<=46*10001:=Nat.mul_le_mul (by nofun) (by nofun);nofun
 ·rw[sizeLine_eq,abI];nofun
inductive bB:Ct
 |mk {rows:List Rw} {n z:Str} {k f:Nat} {r:Res} {P:Pk} (A:AskR rows n z k) (hz:z.length<=10000) (hf:f<sizeLine) (hr:rdF (fA rows) z f n k=some r) (h:∀(zs:List Str) (K:Kp),zs.length<=46->MkOk (fA rows) z zs n k f->KpOk (fA rows) z zs K->((n,k),r)∈K->P (m3 K) (uW rows n z k)):bB (uW rows n z k) P
abbrev uY:Stmt:=top 50
abbrev Fn:FS:=
  (ak (bQ (ag bM (aa (fFz (ab 0)) (aa (fFz (ab 1)) (aa (fFz (ab 2)) (aa (fFz (ab 3)) ae))))))
  (ak (cq 4 t3)
  (ak (bQ (ag ip (aa (fFz (fCB jv (aa (ab 0) ae))) (aa (fFz (ab 2)) (aa (ab 4) (aa (fFz (ab 1)) (aa (fFz (ab 3)) ae)))))))
  (bc (ab 4)))))
theorem Fo:Hh bB Fn [] 5:=by
 intro os P h;obtain@⟨rows,n,z,k,f,r,_,A,c,d,hr,q⟩:=h;obtain⟨zs,a,M⟩:=MB A c d;ext;refine .mk A ?_;ext;refine km ⟨zE A.b.b.nd,?_⟩;ext;refine Fc (K:=[]) (gJ A.b.b) M ⟨abQ,(λ_ y=>nomatch y),λ_ y=>nomatch y⟩ hr λg e b=>?_;ext;exact q zs g a M e b
inductive eD:Ct
 |mk {rows:List Rw} {n z:Str} {k f:Nat} {r:Res} {P:Pk} (A:AskR rows n z k) (hz:z.length<=10000) (hf:f<sizeLine) (hr:rdF (fA rows) z f n k=some r) (h:∀a b,P (.ot [.fz (cS r.ln),.fz (.int ((r.far:Int) - (k:Int)+1)),.fl a ((eS [] (lB (fA rows) z f (n,k))).map b8),.fl b ((bv r.ls).map .str)]) (uW rows n z k)):eD (uW rows n z k) P
abbrev lO:Stmt:=top 51
abbrev uZ:FS:=
  (ak (bX (ag bB (aa (fFz (ab 0)) (aa (fFz (ab 1)) (aa (fFz (ab 2)) (aa (fFz (ab 3)) ae))))) (ac 4))
  (ak (bX (fOp aIx (ab 4) (fw (aa (ab 1) (aa (ab 3) ae)))) (i5 3 (aU (ac 5) (aU (ac 6) (aU (ac 7) i4)))))
  (bc (Jj (aa (ab 5) (aa (ab 6) (aa (ag b9 (aa (fFz (fCB jv (aa (ab 0) ae))) (aa (fFz (ab 2)) (aa (fFz (ab 4)) (aa (fFz (ab 1)) (aa (fFz (ab 3)) ae)))))) (aa (fCB eU (aa (ab 7) ae)) ae))))))))
theorem va:Hh eD uZ [] 8:=by
 intro os P h;obtain@⟨rows,n,z,k,f,r,_,A,d,e,hr,q⟩:=h;ext;refine .mk A d e hr λzs K c M b a=>?_;have T:=b.res M.r a;have hl:r.ls.length<=zs.length:=aat T.nd T.sub;ext;refine⟨(by rw[sizeLine_eq];exact(by decide:(2:Nat)<=16777216)),?_⟩;ext;refine e9 (show gc (ja K) (jz K) [.inr n,.inl (k:Int)]=some (qV k r) from et b.nd a) ?_;ext;refine⟨rfl,?_⟩;ext;refine km ⟨zE A.b.b.nd,?_⟩;ext;refine qB (gJ A.b.b) M b hr a ?_;ext;refine ik (zs:=r.ls) (by nofun) ?_;ext;intro as;ext;refine⟨(by rw[sizeLine_eq];exact(by decide:(4:Nat)<=16777216)),?_⟩;ext;exact q _ _
abbrev cj(a b1 b2:Int):OV:=.fl [.int a,.int b1,.int b2]
def WellB(b1 b2 n:Int):Prop:=0<=b1/\b1<2 ^ 200/\0<=b2/\b2<=n
theorem WellB.mono{m n:Int}(h:WellB b1 b2 m)(e:m<=n):WellB b1 b2 n:=⟨h.1,h.2.1,h.2.2.1,Int.le_trans h.2.2.2 e⟩
@[irreducible] def bn:Ct:=λos P=>∃(ns:List Int) (k:Nat),os=[.fz (.lst (ns.map .int)),.fz (.int k)]/\∀z:Int,P (.fz (.int z)) os
abbrev Bh:Stmt:=top 61
abbrev JY:FS:=
  (ak (fIf (au (fOp (i6 (λi j=>decide (i<j)) aZ) (ab 1) (fCB eY (aa (ab 0) ae))))
   (bc (fOp aIx (ab 0) (ab 1)))
   aL)
  (bc (fC (.int 0))))
theorem JZ:Hh bn JY [] 2:=by
 intro os P h;unfold bn at h;obtain⟨ns,k,rfl,q⟩:=h;ext;refine av ?_;ext;refine aq ((k:Int)<(ns.map D.int).length) (by simp) (λb=>?_) (λ_=>?_)
 ·ext;have a:k<ns.length:=by rw[abz] at b;nofun
  have e:atI (ns.map D.int) (k:Int)=some (.int ns[k]):=cn (by simp[a])
  show match atI (ns.map D.int) (k:Int) with
   |some d=>_
   |none=>False
  rw[e];exact q _
 ·ext;exact q _
theorem Fp{ns:List Int}(h:∀z:Int,P (.fz (.int z)) [.fz (.lst (ns.map .int)),.fz (.int k)]):bn [.fz (.lst (ns.map .int)),.fz (.int k)] P:=by
 unfold bn;exact⟨ns,k,rfl,h⟩
inductive cx:Ct
 |mk {a b:Int} {P:Pk} (a0:0<=a) (a1:a<2 ^ 200) (b0:0<=b) (b1:b<2 ^ 41) (h:∀z:Int,0<=z->P (.fz (.int z)) [.fz (.int a),.fz (.int b)]):cx [.fz (.int a),.fz (.int b)] P
abbrev Bi:Stmt:=top 62
abbrev J0:FS:=
  (ak (bX (fOp cL (fOp (aIC qu λi j=>.int (i*j)) (fOp cL (ab 0) (fC (.int 1))) (fC (.int 50219736400000000000000111))) (fOp (aIC qu λi j=>.int (i*j)) (fOp cL (ab 1) (fC (.int 1))) (fC (.int 7710038100000000000000040117)))) (ac 2))
  (bc (fOp (aIC (λ_ j=>0<j) λi j=>.int (i % j)) (fOp (aIC ua λi j=>.int (i ^ j.toNat)) (ab 2) (fC (.int 5))) (fC (.int 9403300000000000000000000000000000000009043)))))
theorem kn{x:Int}(a:0<=x)(h:x<2 ^ 300):x.natAbs<2 ^ 1000:=by
 have:(2:Nat) ^ 300<2 ^ 1000:=by decide +kernel
 nofun
theorem J1:Hh cx J0 [] 3:=by
 intro os P h;obtain@⟨a,b,_,e,d,c,b1,q⟩:=h;ext;refine⟨⟨kn (x:=a+1) (by nofun) (by nofun),by decide +kernel⟩,?_⟩;ext;refine⟨⟨kn (x:=b+1) (by nofun) (by nofun),by decide +kernel⟩,?_⟩;ext;refine⟨⟨by decide,by decide,kn (x:=(a+1)*50219736400000000000000111+(b+1)*7710038100000000000000040117) (by nofun) (by nofun)⟩,?_⟩;ext;refine⟨(by decide:(0:Int)<9403300000000000000000000000000000000009043),?_⟩;ext;exact q _ (Int.emod_nonneg _ (by decide))
inductive cX:Ct
 |mk {z:Int} {k:Nat} {P:Pk} (hk:k<=100) (h:∀b0 b1 b2,0<=b0->WellB b1 b2 0->P (cj b0 b1 b2) [.fz (.int z),.fz (.int k)]):cX [.fz (.int z),.fz (.int k)] P
abbrev Bj:Stmt:=top 63
abbrev J2:FS:=
  (ak (bX (fOp cL (fOp (aIC CMul λi j=>.int (i*j)) (fOp (aIC (λ_ j=>0<j) λi j=>.int (i % j)) (ab 0) (fC (.int 9403300000000000000000000000000000000009043))) (fC (.int 128))) (ab 1)) (ac 2))
  (ak (fIf (au (fOp (i6 (λi j=>decide (j<=i)) λi j=>!aZ i j) (ab 0) (fOp (aIC Gg λi j=>.int (i ^ j.toNat)) (fC (.int 10)) (fC (.int 18)))))
   (bc (iZ (aa (fOp (aI0 λi j=>.int (i - j)) (ab 0) (fOp (aIC Gg λi j=>.int (i ^ j.toNat)) (fC (.int 10)) (fC (.int 18)))) (aa (ab 2) (aa (fC (.int 0)) ae)))))
   aL)
  (bc (iZ (aa (ag cx (aa (fFz (ab 2)) (aa (fC (.int 0)) ae))) (aa (ab 2) (aa (fC (.int 0)) ae)))))))
theorem J3:Hh cX J2 [] 3:=by
 intro os P h;obtain@⟨z,k,_,g,q⟩:=h;have f:=Int.emod_nonneg z (show (9403300000000000000000000000000000000009043:Int)≠0 by decide);have e:=Int.emod_lt_of_pos z (show (0:Int)<9403300000000000000000000000000000000009043 by decide);have b:0<=z % 9403300000000000000000000000000000000009043*128+(k:Int):=by nofun
 have a:z % 9403300000000000000000000000000000000009043*128+(k:Int)<2 ^ 200:=by nofun
 ext;refine⟨(by decide:(0:Int)<9403300000000000000000000000000000000009043),?_⟩;ext;refine⟨.inr ⟨by decide,by decide⟩,?_⟩;ext;refine av ?_;ext;refine⟨⟨by decide,by decide,by decide⟩,?_⟩;ext;refine aq ((10:Int) ^ (18:Int).toNat<=z) decide_eq_true_iff (λc=>?_) (λc=>?_)
 ·ext;refine⟨⟨by decide,by decide,by decide⟩,?_⟩;ext;refine⟨by show 3<=sizeLine;decide,?_⟩;ext;exact q _ _ _ (Int.sub_nonneg_of_le c) ⟨b,a,Int.le_refl _,Int.le_refl _⟩
 ·ext;refine .mk b a (Int.le_refl _) (by decide) λy d=>?_;ext;refine⟨by show 3<=sizeLine;decide,?_⟩;ext;exact q _ _ _ d ⟨b,a,Int.le_refl _,Int.le_refl _⟩
@[irreducible] def al:Ct:=λos P=>∃(d b1 b2 m n:Int),os=[cj d b1 b2,.fz (.int m)]/\WellB b1 b2 n/\n<2 ^ 40/\0<m/\m<1000000/\∀r c b a,0<=r->r<m->WellB b a (n+1)->P (.fz (.int r)) [cj c b a,.fz (.int m)]
abbrev Bk:Stmt:=top 64
abbrev Ka:FS:=
  (ak (fIf (au (fOp aEq (fOp aIx (ab 0) (fC (.int 0))) (fC (.int 0))))
   (ak (n6 0 (fOp cL (fOp aIx (ab 0) (fC (.int 2))) (fC (.int 1))) (fC (.int 2)))
  (n6 0 (ag cx (aa (fFz (fOp aIx (ab 0) (fC (.int 1)))) (aa (fFz (fOp aIx (ab 0) (fC (.int 2)))) ae))) (fC (.int 0))))
   aL)
  (ak (bX (fOp (aIC (λ_ j=>0<j) λi j=>.int (i % j)) (fOp aIx (ab 0) (fC (.int 0))) (ab 1)) (ac 2))
  (ak (n6 0 (fOp (aIC Gf λi j=>.int (i / j)) (fOp aIx (ab 0) (fC (.int 0))) (ab 1)) (fC (.int 0)))
  (bc (ab 2)))))
theorem Kb:Hh al Ka [0] 3:=by
 intro os P h;unfold al at h;obtain⟨f,b1,b2,m,n,rfl,⟨h1,a,h2,e⟩,i,b,c,q⟩:=h;ext;refine av ?_;ext;refine⟨ar,?_⟩;ext;refine aq (f=0) aV (λd=>?_) (λd=>?_)
 ·ext;refine⟨rfl,?_⟩;ext;refine .mk h1 a (show 0<=b2+1 by nofun) (by nofun) λy g=>?_;ext;refine⟨rfl,?_⟩;ext;refine⟨b,?_⟩;ext;refine⟨⟨b,by nofun⟩,?_⟩;ext;refine⟨rfl,?_⟩;ext;exact q _ _ _ _ (Int.emod_nonneg _ (by nofun)) (Int.emod_lt_of_pos _ b) ⟨h1,a,by nofun,by nofun⟩
 ·ext;refine⟨b,?_⟩;ext;refine⟨⟨b,by nofun⟩,?_⟩;ext;refine⟨rfl,?_⟩;ext;exact q _ _ _ _ (Int.emod_nonneg _ (by nofun)) (Int.emod_lt_of_pos _ b) ⟨h1,a,h2,by nofun⟩
theorem bC{e m:Int}(n:Int)(i:WellB b1 b2 n)(f:n<2 ^ 40)(g:0<m)(c:m<1000000)(h:∀r d b a,0<=r->r<m->WellB b a (n+1)->P (.fz (.int r)) [cj d b a,.fz (.int m)]) :
  al [cj e b1 b2,.fz (.int m)] P:=by
 unfold al;exact⟨e,b1,b2,m,n,rfl,i,f,g,c,h⟩
theorem lez(n:Nat)(h:autoParam (n<=16777216) L2.aD._auto_1):n<=sizeLine:=by rw[sizeLine_eq];exact h
def wf(fm:Rl)(st:List Sp2):List Sp2:=match fm with
 |.leaf _=>[]
 |.comp w _=>if w = "row" then st else if w = "first" then st.drop (st.length - 1) else if w = "again" then st.dropLast else []
theorem zG(h:q∈wf fm st):q∈st:=by
 unfold wf at h;split at h
 ·exact nomatch h
 ·split at h
  ·exact h
  ·split at h
   ·exact abe h
   ·split at h
    ·exact(List.dropLast_sublist _).mem h
    ·exact nomatch h
theorem zH{xs:List α}:eQ xs (some (-1)) none=xs.drop (xs.length - 1):=by
 unfold eQ;rw[show HT.sIx xs.length 0 (some (-1))=xs.length - 1 by show ((-1:Int)+(xs.length:Int)).toNat=_;nofun];exact aah (by rw[abU];exact aac _)
theorem zI{xs:List α}:eQ xs none (some (-1))=xs.dropLast:=by
 unfold eQ;rw[show HT.sIx xs.length xs.length (some (-1))=xs.length - 1 by show ((-1:Int)+(xs.length:Int)).toNat=_;nofun,List.dropLast_eq_take];rfl
theorem zJ(h:∀l,fm=.leaf l->l≠.lack):∃(w:Str) (r:List Str),rlD fm=aH w r/\wf fm st=if w = "row" then st else if w = "first" then st.drop (st.length - 1) else if w = "again" then st.dropLast else []:=by
 cases fm with
 |comp w r=>exact⟨w,r,rfl,rfl⟩
 | leaf l=>
  cases l with
  |lack=>exact absurd rfl (h _ rfl)
  |none=>exact ⟨"none", [],rfl,by rw[if_neg (by decide +kernel),if_neg (by decide +kernel),if_neg (by decide +kernel)];rfl⟩
  |any=>exact ⟨"any", [],rfl,by rw[if_neg (by decide +kernel),if_neg (by decide +kernel),if_neg (by decide +kernel)];rfl⟩
  |signs s=>exact ⟨"signs", [s],rfl,by rw[if_neg (by decide +kernel),if_neg (by decide +kernel),if_neg (by decide +kernel)];rfl⟩
inductive bq:Ct
 |mk {a b:Addr} {s:As} {P:Pk} (hl:∀l,s.fm=.leaf l->l≠.lack) (h:∀o,P (.fl ((wf s.fm s.st).map b8)) [.ob o]):bq [.ob (asA a b s)] P
abbrev Bl:Stmt:=mth 38 7
abbrev Kc:FS:=
  (ak (fIf (au (fOp aEq (fOp aIx (fT 0 0 0) (fC (.int 0))) (fC (.str "row"))))
   (bc (fCB DT (aa (mR 0 0 5) ae)))
   aL)
  (ak (fIf (au (fOp aEq (fOp aIx (fT 0 0 0) (fC (.int 0))) (fC (.str "first"))))
   (bc (fSl aSl (mR 0 0 5) (dJ (KY (fC (.int 1)))) cp))
   aL)
  (ak (fIf (au (fOp aEq (fOp aIx (fT 0 0 0) (fC (.int 0))) (fC (.str "again"))))
   (bc (fSl aSl (mR 0 0 5) cp (dJ (KY (fC (.int 1))))))
   aL)
  (bc (iZ ae)))))
theorem Kd:Hh bq Kc [0] 1:=by
 intro os P h;obtain@⟨a,b,s,_,hl,q⟩:=h;obtain⟨fm,n,k,t,tn,st,dn,ln⟩:=s;obtain⟨w,r,d,c⟩:=zJ (st:=st) hl;simp only[c] at q;rw[show asA a b ⟨fm,n,k,t,tn,st,dn,ln⟩=⟨a,0,[.fz (aH w r),.fz (.str n),.fz (.int k),.fz (.int t),.fz (.int tn),.fl b (st.map b8),.fz (.bl dn),.fz (cS ln)]⟩ by show (⟨a,0,[.fz (rlD fm),_,_,_,_,_,_,_]⟩:Oo)=_;rw[d]];ext;refine av ?_;ext;refine bY ?_;ext;refine⟨a7,?_⟩;ext;refine aq (w = "row") bx (λh=>?_) (λh=>?_)
 ·ext;rw[if_pos h] at q;exact q _
 rw[if_neg h] at q;ext;refine av ?_;ext;refine bY ?_;ext;refine⟨a7,?_⟩;ext;refine aq (w = "first") bx (λh=>?_) (λh=>?_)
 ·ext;rw[if_pos h] at q
  erw [zH]
  rw[abz,← List.map_drop];exact q _
 rw[if_neg h] at q;ext;refine av ?_;ext;refine bY ?_;ext;refine⟨a7,?_⟩;ext;refine aq (w = "again") bx (λh=>?_) (λh=>?_)
 ·ext;rw[if_pos h] at q
  erw [zI]
  rw[← List.map_dropLast];exact q _
 rw[if_neg h] at q;ext;refine⟨aan _,?_⟩;ext;exact q _
def vb(R:Rls)(z:Str)(c:Nat)(x:Str)(k l:Nat)(ms:List Sp2):Prop:=(∃r,rdF R z c x k=some r/\r.ln=some l)/\wf (R x) (lB R z c (x,k))=ms
abbrev Lv:=Nat×Sp2
variable{tr:List (Lv×Nat)}
inductive TrW(R:Rls)(z:Str)(c:Nat):List Lv->List (Lv×Nat)->Prop
 |nil:TrW R z c [] []
 |cons {v:Lv} {l:Nat} {ms:List Sp2} {rest:List Lv} {rows:List (Lv×Nat)}:vb R z c v.2.1 v.2.2 l ms->TrW R z c ((ms.map λq=>(v.1+1,q))++rest) rows->TrW R z c (v::rest) ((v,l)::rows)
abbrev lvD(v:Lv):D:=.tup [.int v.1,.str v.2.1,.int v.2.2]
abbrev cB(v:Lv×Nat):D:=.tup [.int v.1.1,.str v.1.2.1,.int v.1.2.2,.int v.2]
@[irreducible] def cD:Ct:=λos P=>∃(ks:List Key) (ds:List D) (R:Rls) (z n:Str) (zs:List Str) (k f:Nat) (K:Kp) (r:Res),os=[bu ks ds,.fz (.str z),dM K,.fz (.str n),.fz (.int k)]/\eu ks ds R/\MkOk R z zs n k f/\KpOk R z zs K/\rdF R z f n k=some r/\((n,k),r)∈K /\
 (r.ln=none->P (.fz .non) os)/\(r.ln≠none->∃rows,TrW R z f [(0,n,k)] rows/\rows.length<=2000/\P (.fl (rows.map cB)) os)
abbrev oY:Stmt:=top 45
abbrev zK:FS:=
  (ak (fIf (au (fOp tG (fOp aIx (fOp aIx (ab 2) (fw (aa (ab 3) (aa (ab 4) ae)))) (fC (.int 0))) (fC .non)))
   (bc (fC .non))
   aL)
  (ak (cq 5 (iZ ae))
  (ak (cq 6 (iZ (aa (fw (aa (fC (.int 0)) (aa (ab 3) (aa (ab 4) ae)))) ae)))
  (ak (hV (au (fOp (i6 (λi j=>decide (j<i)) λi j=>aZ j i) (fCB eY (aa (ab 6) ae)) (fC (.int 0))))
   (ak (fIf (au (fOp aEq (fCB eY (aa (ab 5) ae)) (fC (.int 2000))))
   eh
   aL)
  (ak (bX (yM 6) (i5 3 (aU (ac 7) (aU (ac 8) (aU (ac 9) i4)))))
  (ak (bQ (wd 5 (fw (aa (ab 7) (aa (ab 8) (aa (ab 9) (aa (fOp aIx (fOp aIx (ab 2) (fw (aa (ab 8) (aa (ab 9) ae)))) (fC (.int 0))) ae)))))))
  (p9 (Jv (AW "members" 0 bq (ag bi (aa (fFz (ab 0)) (aa (fFz (ab 1)) (aa (fFz (ab 2)) (aa (fFz (ab 8)) (aa (fFz (ab 9)) ae)))))))) (i5 2 (aU (ac 10) (aU (ac 11) i4)))
   (bQ (wd 6 (fw (aa (fOp cL (ab 7) (fC (.int 1))) (aa (ab 10) (aa (ab 11) ae)))))))))))
  (bc (ab 5))))))
theorem Bm{R:Rls}{z:Str}:∀(f:Nat) (s:As),(eR R z f s).fm=s.fm
 |0,s=>rfl
 | f+1,s=>by
  unfold eR;split
  ·rfl
  ·split
   ·rfl
   ·split
    ·rfl
    ·rw[Bm f];obtain⟨_,_,_,_,e,_⟩:=gi _ _ s _;rw[e]
theorem TrW.le{stk:List Lv}{rows:List (Lv×Nat)}(h:TrW R z c stk rows):stk.length<=rows.length:=by
 induction h with
 |nil=>exact aac _
 |cons _ _ a=>rw[abB] at a;rw[abI,abI];nofun
theorem zL:Hh cD zK [] 12:=by
 intro os P h;unfold cD at h;obtain⟨ks,ds,R,z,n,zs,k,f,K,r,rfl,hD,M,J,hr,s,q0,q⟩:=h;have sz:=sizeLine_eq;ext;refine av ?_;ext;refine⟨lez 2,?_⟩;ext;refine e9 (show gc (ja K) (jz K) [.inr n,.inl (k:Int)]=some (qV k r) from et J.nd s) ?_;ext;refine aq (r.ln=none) (by cases r.ln with|none=>exact⟨λ_=>rfl,λ_=>rfl⟩|some _=>exact⟨(λy=>nomatch y),λy=>nomatch y⟩) (λX=>?_) (λX=>?_)
 ·ext;exact q0 X
 obtain⟨rows,E,hl,q⟩:=q X;ext;refine⟨aan _,?_⟩;ext;refine⟨lez 3,?_⟩;ext;refine⟨lez 1,?_⟩;ext
 refine ef (λm ρ=>∃(acc rest:List (Lv×Nat)) (stk:List Lv) (x7 x8 x9 C B:Option OV),m=rest.length/\acc++rest=rows/\TrW R z f stk rest/\(∀v∈stk,v.2∈K.map (·.1)) /\
  ρ=[some (bu ks ds),some (.fz (.str z)),some (dM K),some (.fz (.str n)),some (.fz (.int k)),some (.fl (acc.map cB)),some (.fl (stk.reverse.map lvD)),x7,x8,x9,C,B]) rows.length ⟨[],rows,[(0,n,k)],none,none,none,none,none,rfl,rfl,E,λv A=>by rw[abG.mp A];exact abE.mpr ⟨_,s,rfl⟩,rfl⟩ ?_
 rintro m ρ Q ⟨acc,rest,stk,x7,x8,x9,C,B,hm,g,E,s,rfl⟩ kk;have hl2:=E.le;have W:acc.length+rest.length<=2000:=by rw[← abB,g];exact hl
 have V:(stk.reverse.map lvD).length=stk.length:=by rw[abz,aax]
 ext
 cases E with
 | nil=>
  refine cJ ?_;ext;rw[aao] at g;rw[g];exact q
 | @cons v l ms stk rest A E=>
 obtain⟨c,x,j⟩:=v;refine aq (0<((((c,x,j)::stk).reverse.map lvD).length:Int)) decide_eq_true_iff (λ_=>?_) (λh=>absurd (by rw[V,abI];nofun) h);ext;rw[abI] at W;have T:(acc.map cB).length=acc.length:=abz ..;refine av ?_;ext;refine⟨ar,?_⟩;ext;refine aq False ⟨λy=>by have:((acc.map cB).length:Int)=2000:=aV.mp y;nofun,False.elim⟩ False.elim (λ_=>?_);ext;refine EN (ds:=stk.reverse.map lvD) (d:=lvD (c,x,j)) (by rw[aaM,aad];rfl) ?_;obtain⟨e,he,e1⟩:=abE.mp (s (c,x,j) (aab ..));have Z:e.1=(x,j):=e1;obtain⟨N,Y⟩:=e;have O:N=(x,j):=Z;subst O;obtain⟨g1,g2,f3,g3⟩:=J.ok _ he;obtain⟨⟨r',p,D⟩,G⟩:=A;have e2:Y=r':=jx g3 p;subst e2;ext;refine⟨rfl,?_⟩;ext;refine⟨rfl,?_⟩;ext;refine⟨lez 2,?_⟩;ext;refine e9 (show gc (ja K) (jz K) [.inr x,.inl (j:Int)]=some (qV j Y) from et J.nd he) ?_;ext;refine⟨lez 4,?_⟩;ext;rw[D];refine⟨by rw[T];nofun,?_⟩;ext;refine uB hD (show MkOk R z zs x j f from ⟨M.r,g1,g2,M.l,M.s,M.m,M.f⟩) J p he λa b=>?_;ext
 have I:(eR R z f (da R z x j)).fm=R x:=by
  rw[Bm];unfold da;cases R x <;> rfl
 refine .mk (λl' H=>?_) λo=>?_
 ·rintro rfl;rw[I] at H;have hb:da R z x j=⟨.leaf .lack,x,j,j,0,[],true,none⟩:=by unfold da;rw[H];rfl
  obtain⟨L,rfl⟩:∃L,f=L+1:=by
   cases f with
   |zero=>cases p
   |succ L=>exact⟨L,rfl⟩
  have F:goF R z (L+1) (da R z x j) j [x]=some Y:=p;rw[mX (by rw[hb])] at F;cases F;rw[hb] at D;cases D
 rw[I,show (eR R z f (da R z x j)).st=lB R z f (x,j) from rfl,G];ext;rw[show (ms.map b8).reverse=ms.reverse.map b8 from (List.map_reverse ..).symm];have U:=E.le;rw[abB,abz] at U;refine bP (λi ρ=>∃u t:Option OV,ρ=[some (bu ks ds),some (.fz (.str z)),some (dM K),some (.fz (.str n)),some (.fz (.int k)),some (.fl ((acc++[((c,x,j),l)]).map cB)),some (.fl ((stk.reverse++(ms.reverse.take i).map λq=>(c+1,q)).map lvD)),some (.fz (.int c)),some (.fz (.str x)),some (.fz (.int j)),u,t]) ⟨C,B,?_⟩ ?_ ?_
 ·rw[show ((acc++[((c,x,j),l)]).map cB)=acc.map cB++[cB ((c,x,j),l)] from aad,List.take_zero,ab4,aao];rfl
 ·rintro i d ρ Q' hd ⟨u,t,rfl⟩ S;rw[List.getElem?_map,aaj] at hd;obtain⟨⟨y,jj⟩,hq,rfl⟩:=hd;have hi:=(List.getElem?_eq_some_iff.mp hq).1;rw[aax] at hi;ext;refine⟨rfl,?_⟩;ext;refine⟨rfl,?_⟩;ext;refine⟨lez 3,?_⟩;ext;refine⟨by rw[abz,abB,aax,abz,abD];nofun,?_⟩;refine S _ ⟨some (.fz (.str y)),some (.fz (.int jj)),?_⟩;rw[show ((stk.reverse++(ms.reverse.take (i+1)).map λq=>(c+1,q)).map lvD)=(stk.reverse++(ms.reverse.take i).map λq=>(c+1,q)).map lvD++[lvD (c+1,y,jj)] by rw[aam,hq];simp];rfl
 ·rintro ρ ⟨u,t,rfl⟩;rw[abz,aah (aac _)];rw[abI] at hm;refine kk rest.length _ (by nofun) ⟨acc++[((c,x,j),l)],rest,ms.map (λq=>(c+1,q))++stk,some (.fz (.int c)),some (.fz (.str x)),some (.fz (.int j)),u,t,rfl,by rw[aap];exact g,E,λv A=>?_,?_⟩
  ·rcases abA.mp A with A|A
   ·obtain⟨w,hw,rfl⟩:=abE.mp A;rw[← G] at hw;exact J.cl _ he f p w (zG hw)
   ·exact s v (aae _ A)
  ·rw[List.reverse_append,← List.map_reverse]
theorem vc(c:eu ks ds R)(M:MkOk R z zs n k f)(b:KpOk R z zs K)(hr:rdF R z f n k=some r)(a:((n,k),r)∈K)(d:r.ln=none->P (.fz .non) [bu ks ds,.fz (.str z),dM K,.fz (.str n),.fz (.int k)])
  (h:r.ln≠none->∃rows,TrW R z f [(0,n,k)] rows/\rows.length<=2000/\P (.fl (rows.map cB)) [bu ks ds,.fz (.str z),dM K,.fz (.str n),.fz (.int k)]):cD [bu ks ds,.fz (.str z),dM K,.fz (.str n),.fz (.int k)] P:=by
 unfold cD;exact⟨ks,ds,R,z,n,zs,k,f,K,r,rfl,c,M,b,hr,a,d,h⟩
inductive lP:Ct
 |mk {rows:List Rw} {n z:Str} {k f:Nat} {r:Res} {P:Pk} (A:AskR rows n z k) (hz:z.length<=10000) (hf:f<sizeLine) (hr:rdF (fA rows) z f n k=some r) (h0:r.ln=none->P (.fz .non) (uW rows n z k)) (h:r.ln≠none->∃tr,TrW (fA rows) z f [(0,n,k)] tr/\tr.length<=2000/\P (.fl (tr.map cB)) (uW rows n z k)):lP (uW rows n z k) P
abbrev Bn:Stmt:=top 52
abbrev Ke:FS:=
  (ak (bX (ag bB (aa (fFz (ab 0)) (aa (fFz (ab 1)) (aa (fFz (ab 2)) (aa (fFz (ab 3)) ae))))) (ac 4))
  (bc (ag cD (aa (fFz (fCB jv (aa (ab 0) ae))) (aa (fFz (ab 2)) (aa (fFz (ab 4)) (aa (fFz (ab 1)) (aa (fFz (ab 3)) ae))))))))
theorem Kf:Hh lP Ke [] 5:=by
 intro os P h;obtain@⟨rows,n,z,k,f,r,_,A,e,g,hr,c,q⟩:=h;ext;refine .mk A e g hr λzs K d M i a=>?_;ext;refine km ⟨zE A.b.b.nd,?_⟩;ext;refine vc (gJ A.b.b) M i hr a (λb=>?_) λb=>?_
 ·ext;exact c b
 ·obtain⟨tr,h1,h2,j⟩:=q b;refine⟨tr,h1,h2,?_⟩;ext;exact j
def Kg(o:OV)(ns:List Str):Prop:=o=.fl (ns.map .str)
inductive bN:Ct
 |mk {b0 b1 b2:Int} (n:Int) {ns:List Str} {o:OV} {P:Pk} (ho:Kg o ns) (hb:WellB b1 b2 n) (hn:n<2 ^ 38) (hns:∀z∈ns,cr z) (hl:ns.length<=45) (h:∀(z:Str) (b0' b1' b2':Int),cr z->z∉ns->WellB b1' b2' (n+13)->P (.fz (.str z)) [cj b0' b1' b2',o]):bN [cj b0 b1 b2,o] P
abbrev lQ:Stmt:=top 65
abbrev vd:FS:=
  (ak (bX (fC (.str "abcdefghijklmnopqrstuvwxyz")) (ac 2))
  (ak (bX (ag al (aa (ab 0) (aa (fC (.int 3)) ae))) (ac 3))
  (ak (bX (fOp aIx (ab 2) (ag al (aa (ab 0) (aa (fC (.int 26)) ae)))) (ac 4))
  (ak (bX (xQ (fC (.str "")) (bI [2,0] 1 (dS (aa (fOp cL (fC (.int 1)) (ag al (aa (ab 0) (aa (fC (.int 8)) ae)))) ae)) (ac 0) kC (fOp aIx (ab 3) (ag al (aa (ab 1) (aa (fC (.int 26)) ae)))))) (ac 5))
  (ak (fIf (LU (au (fOp (i6 (λi j=>decide (j<i)) λi j=>aZ j i) (ab 3) (fC (.int 0)))) (au (fOp aNe (ab 1) (iZ ae))))
   (ak (bX (fOp aIx (ab 1) (ag al (aa (ab 0) (aa (fFz (fCB eY (aa (ab 1) ae))) ae)))) (ac 6))
  (ak (bX (ag al (aa (ab 0) (aa (fFz (fOp cL (fCB eY (aa (ab 6) ae)) (fC (.int 1)))) ae))) (ac 7))
  (bX (fSl aSl (fOp cL (fOp cL (fSl aSl (ab 6) cp (dJ (ab 7))) (ab 4)) (fSl aSl (ab 6) (dJ (fOp (aI0 λi j=>.int (i - j)) (fOp cL (ab 7) (ab 3)) (fC (.int 1)))) cp)) cp (dJ (fC (.int 8)))) (ac 5))))
   aL)
  (ak (bX (fOp cL (fOp cL (iZ (aa (ab 5) ae)) (bI [2] 1 (dS (aa (fC (.int 26)) ae)) (ac 0) kC (fOp aIx (ab 3) (ab 0)))) (bI [2] 1 (dS (aa (fC (.int 26)) ae)) (ac 0) kC (fOp cL (fOp aIx (ab 3) (ab 0)) (fOp aIx (ab 3) (ab 0))))) (ac 8))
  (bc (fOp aIx (bI [1] 1 (cf (ab 8)) (ac 0) (au (fOp lh (ab 0) (ab 2))) (ab 0)) (fC (.int 0))))))))))
theorem fP(zs:List Str):okDs (zs.map D.str)=true:=by
 induction zs with
 |nil=>rfl
 |cons z zs a=>exact a
theorem iy(zs:List Str):deps (toDVs (zs.map D.str))=0:=by
 induction zs with
 |nil=>rfl
 |cons z zs a=>exact(Nat.zero_max _).trans a
theorem oZ(zs:List Str):dep (v9 (.lst (zs.map D.str)))<=40:=aas (Nat.succ_le_succ (Nat.le_of_eq (iy zs))) (by decide)
theorem zM :tj (.lst (zs.map D.str)) (.lst []):=⟨fP zs,rfl,oZ zs⟩
theorem Fq :(!dEq (.lst (zs.map D.str)) (.lst []))=true↔zs≠[]:=by
 cases zs with
 |nil=>exact⟨λh=>Bool.noConfusion (show false=true from h),λh=>absurd rfl h⟩
 |cons z zs=>exact⟨λ_=>List.cons_ne_nil z zs,λ_=>rfl⟩
abbrev m9:List Str:=abc.cps.toList.map λc=>⟨#[c]⟩
theorem ko:m9.length=26:=by decide +kernel
theorem iz(h:c∈abc.cps.toList):AZ [c]:=λd hd=>by
 have:d=c:=(by exists hd);rw[this];exact EW c h
theorem ve(h:z∈m9):cr z:=by
 obtain⟨c,a,rfl⟩:=abE.mp h;exact⟨aac 1,(by decide:(1:Nat)<=8),iz a⟩
abbrev o0:List Str:=abc.cps.toList.map λc=>⟨#[c]⟩++⟨#[c]⟩
theorem o4:o0.length=26:=by decide +kernel
theorem vf(h:z∈o0):cr z:=by
 obtain⟨c,a,rfl⟩:=abE.mp h;exact⟨(by decide:(1:Nat)<=2),(by decide:(2:Nat)<=8),j5 (iz a) (iz a)⟩
theorem Fs:(m9++o0).Nodup:=by decide +kernel
theorem zN(h:ns.length<=45):∃z∈m9++o0,z∉ns:=by
 refine Classical.byContradiction λh'=>?_;have hs:∀z∈m9++o0,z∈ns:=λz a=>Classical.byContradiction λe=>h' ⟨z,a,e⟩;have:=aat Fs hs;rw[abB,ko,o4] at this;nofun
theorem Bo(h:i<26):∃c,abc.cps.toList[i]?=some c/\c∈abc.cps.toList:=by
 have hi:i<abc.cps.toList.length:=by rw[mU];exact h
 exact⟨_,List.getElem?_eq_getElem hi,aaQ hi⟩
theorem vg:Hh bN vd [0,1] 9:=by
 intro os P h;obtain@⟨a,b1,b2,n,ns,o,_,ho,E,H,Q,S,q⟩:=h;have sz:=du;have hn0:0<=n:=Int.le_trans E.2.2.1 E.2.2.2;ext;refine bC n E (by nofun) (by decide) (by decide) λway a b1 b2 w0 w1 hb1=>?_;ext;refine bC (n+1) hb1 (by nofun) (by decide) (by decide) λr a b1 b2 r0 r1 hb2=>?_;ext;refine⟨by decide +kernel,?_⟩;refine tu r0 (by rw[show (Str.ofString "abcdefghijklmnopqrstuvwxyz").cps.toList.length=26 from mU];exact r1) λc X=>?_;have cl1:=iz X;ext;refine bC (n+1+1) hb2 (by nofun) (by decide) (by decide) λr3 a b1 b2 r30 r31 hb3=>?_;ext;refine⟨⟨by nofun,by nofun⟩,?_⟩;ext
 refine aE (λi as ρ=>∃(zs:List Str) (x:Option OV) (a b1 b2:Int),as=zs.map .str/\zs.length=i/\(∀z∈zs,z.cps.toList.length=1/\AZ z.cps.toList)/\WellB b1 b2 (n+3+i) /\
   ρ=[x,some (cj a b1 b2),some o,some (.fz (.str abc)),some (.fz (.int way)),some (.fz (.str ⟨#[c]⟩)),none,none,none,none])
  ⟨[],none,a,b1,b2,rfl,rfl,(λ_ h=>by cases h),hb3.mono (by nofun),rfl⟩ ?_ ?_
 ·rintro i d as ρ R hd ⟨zs,x,a,b1,b2,rfl,hl,m,g,rfl⟩ k;obtain⟨hi,rfl⟩:=bo hd;ext;refine cH ?_;ext;refine bC _ g (by nofun) (by decide) (by decide) λr5 a b1 b2 M K hb5=>?_;ext;refine⟨by decide +kernel,?_⟩;refine tu M (by rw[show (Str.ofString "abcdefghijklmnopqrstuvwxyz").cps.toList.length=26 from mU];exact K) λe p=>?_;ext;refine⟨by rw[abz];nofun,k _ _ ⟨zs++[⟨#[e]⟩],some (.fz (.int (0+i))),a,b1,b2,by rw[aad];rfl,by simp[hl],λz f=>?_,hb5.mono (by nofun),rfl⟩⟩;rcases abA.mp f with h|h
  ·exact m z h
  ·have:z=⟨#[e]⟩:=(by exists h);rw[this];exact⟨rfl,iz p⟩
 ·rintro as ρ ⟨zs,x,a,b1,b2,rfl,hl,m,g,rfl⟩;rw[bF] at hl g
  have C:(zs.map λz=>z.cps.toList).flatten.length=zs.length:=by
   rw[List.length_flatten,aau];have:zs.map ((λl:List Nat=>l.length) ∘ λz:Str=>z.cps.toList)=zs.map λ_=>1:=aa3 λz f=>(m z f).1;rw[show (List.map (List.length ∘ λz:Str=>z.cps.toList) zs)=zs.map λ_=>1 from this];exact fJ zs
  have T:(zs.map (·.length)).sum=zs.length:=by
   have:zs.map (·.length)=zs.map λ_=>1:=aa3 λz f=>by rw[aO];exact(m z f).1
   rw[this];exact fJ zs
  have V:(Builtin.Str.glued (Str.ofString "") zs).cps.toList=(zs.map λz=>z.cps.toList).flatten:=gY zs
  have hN:cr (Builtin.Str.glued (Str.ofString "") zs):=by
   refine⟨by rw[V,C];nofun,by rw[V,C];nofun,?_⟩;rw[V];intro y b;obtain⟨l,U,N⟩:=List.mem_flatten.mp b;obtain⟨z,f,rfl⟩:=abE.mp U;exact(m z f).2 y N
  ext;refine mN ⟨by rw[T];show zs.length+zs.length*0<=_;nofun,?_⟩;generalize Builtin.Str.glued (Str.ofString "") zs=nm at hN ⊢;ext;refine mP (λρ=>∃(z:Str) (a b1 b2:Int) (t s:Option OV),cr z/\WellB b1 b2 (n+13)/\ρ=[some (cj a b1 b2),some o,some (.fz (.str abc)),some (.fz (.int way)),some (.fz (.str ⟨#[c]⟩)),some (.fz (.str z)),t,s,none]) ?_ ?_
  ·rintro ρ ⟨z,a,b1,b2,t,s,m,E,rfl⟩;ext;refine⟨lez 1,?_⟩;ext;refine⟨⟨by decide,by decide⟩,?_⟩;ext;refine aE (λi as ρ=>∃(x:Option OV),as=(m9.take i).map .str/\ρ=[x,some (cj a b1 b2),some o,some (.fz (.str abc)),some (.fz (.int way)),some (.fz (.str ⟨#[c]⟩)),some (.fz (.str z)),t,s,none]) ⟨none,rfl,rfl⟩ ?_ ?_
   ·rintro i d as ρ R hd ⟨x,rfl,rfl⟩ k;obtain⟨hi,rfl⟩:=bo hd;obtain⟨e,he,p⟩:=Bo (i:=i) (by nofun);have I:atI abc.cps.toList ((0:Int)+i)=some e:=by rw[ab6];exact cn he
    ext;refine cH ?_;ext;refine⟨by decide +kernel,?_⟩;rw[I];ext;refine⟨by rw[abz,abD];nofun,k _ _ ⟨_,?_,rfl⟩⟩;rw[aam,List.getElem?_map,he,aad];rfl
   ·rintro as ρ ⟨x,rfl,rfl⟩;rw[bF,show m9.take (26:Int).toNat=m9 from by decide +kernel];ext;refine⟨by show 1+(m9.map D.str).length<=sizeLine;rw[abz,ko];nofun,?_⟩;ext;refine⟨⟨by decide,by decide⟩,?_⟩;ext;refine aE (λi as ρ=>∃(x:Option OV),as=(o0.take i).map .str/\ρ=[x,some (cj a b1 b2),some o,some (.fz (.str abc)),some (.fz (.int way)),some (.fz (.str ⟨#[c]⟩)),some (.fz (.str z)),t,s,none]) ⟨none,rfl,rfl⟩ ?_ ?_
    ·rintro i d as ρ R hd ⟨x,rfl,rfl⟩ k;obtain⟨hi,rfl⟩:=bo hd;obtain⟨e,he,p⟩:=Bo (i:=i) (by nofun);have I:atI abc.cps.toList ((0:Int)+i)=some e:=by rw[ab6];exact cn he
     ext;refine cH ?_;ext;refine⟨by decide +kernel,?_⟩;rw[I];ext;refine⟨by decide +kernel,?_⟩;rw[I];ext;refine⟨by show 1+1<=sizeLine;nofun,?_⟩;ext;refine⟨by rw[abz,abD];nofun,k _ _ ⟨_,?_,rfl⟩⟩;rw[aam,List.getElem?_map,he,aad];rfl
    ·rintro as ρ ⟨x,rfl,rfl⟩;rw[bF,show o0.take (26:Int).toNat=o0 from by decide +kernel];have eL:[D.str z]++m9.map D.str++o0.map D.str=(z::(m9++o0)).map D.str:=by rw[abC,aad];rfl
     have G:∀y∈z::(m9++o0),cr y:=λy b=>by
      rcases abH.mp b with rfl|b
      ·exact m
      ·rcases abA.mp b with b|b
       ·exact ve b
       ·exact vf b
     have F:∃y∈z::(m9++o0),y∉ns:=by
      obtain⟨y,b,H⟩:=zN S;exact⟨y,aae _ b,H⟩
     have hL3:(z::(m9++o0)).length<=60:=by rw[abI,abB,ko,o4];nofun
     ext;refine⟨by rw[← abB,eL,abz];nofun,?_⟩;rw[eL];generalize z::(m9++o0)=L at G F hL3;ext;refine aE (λi as ρ=>∃(x:Option OV),as=((L.take i).filter λy=>decide (y∉ns)).map .str/\ρ=[x,some (cj a b1 b2),some o,some (.fz (.str abc)),some (.fz (.int way)),some (.fz (.str ⟨#[c]⟩)),some (.fz (.str z)),t,s,some (.fz (.lst (L.map .str)))]) ⟨none,rfl,rfl⟩ ?_ ?_
     ·rintro i d as ρ R hd ⟨x,rfl,rfl⟩ k
      obtain⟨y,b,rfl⟩:∃y,L[i]?=some y/\d=.str y:=by
       rw[List.getElem?_map,aaj] at hd;obtain⟨r,h1,h2⟩:=hd;exact⟨r,h1,h2.symm⟩
      have W:=aaO (λy=>decide (y∉ns)) (L.take i);rw[abD] at W;subst ho
      all_goals
       ext;refine⟨⟨rfl,oh ns⟩,?_⟩;ext;refine aq (y∉ns) (by rw[aaT,abT,Ne,eN]) (λhp=>?_) (λhp=>?_)
       ·ext;refine⟨by rw[abz];nofun,k _ _ ⟨_,?_,rfl⟩⟩;rw[aam,b,aaE,aad];simp[hp]
       ·refine k _ _ ⟨_,?_,rfl⟩;rw[aam,b,aaE,aad];have O:=Classical.not_not.mp hp;simp[O]
     ·rintro as ρ ⟨x,rfl,rfl⟩;rw[abz,aah (aac _)]
      obtain⟨y,r,e⟩:∃y r,L.filter (λy=>decide (y∉ns))=y::r:=by
       cases h:L.filter (λy=>decide (y∉ns)) with
       | nil=>
        obtain⟨y,b,H⟩:=F;have:y∈L.filter (λy=>decide (y∉ns)):=abM.mpr ⟨b,decide_eq_true H⟩;rw[h] at this;cases this
       |cons y r=>exact⟨y,r,rfl⟩
      have hm:y∈L.filter (λy=>decide (y∉ns)):=by rw[e];exact aab ..
      obtain⟨m1,m2⟩:=abM.mp hm;rw[e,abC];ext;refine bY ?_;ext;exact q _ _ _ _ (G y m1) (of_decide_eq_true m2) E
  ·intro rest;ext;refine aq (0<way) decide_eq_true_iff (λhw=>?_) (λhw=>?_)
   ·subst ho
    all_goals
     ext;refine⟨aan _,?_⟩;ext;refine⟨zM,?_⟩;ext;refine aq (ns≠[]) Fq (λB=>?_) (λB=>rest _ ⟨nm,a,b1,b2,_,_,hN,g.mono (by nofun),rfl⟩);have hlp:0<ns.length:=List.length_pos_iff.mpr B;have hlm:(ns.map D.str).length=ns.length:=abz ..;ext;refine bC _ g (by nofun) (by nofun) (by nofun) λr6 a b1 b2 J r61 Z=>?_;ext;refine j4 J (by nofun) λd hd=>?_;obtain⟨old,ho,rfl⟩:=abE.mp hd;obtain⟨o1,o2,o3⟩:=Q old ho;have hol:old.length=old.cps.toList.length:=aO old;ext;refine⟨by nofun,?_⟩;ext;refine bC _ Z (by nofun) (by nofun) (by nofun) λat' a b1 b2 a0 a1 Y=>?_;obtain⟨k,rfl⟩:=aaK a0;ext;refine⟨by nofun,?_⟩;have A:=(j6 old none (some (k:Int))).trans (jR old.cps.toList k);have l1:(c9 old none (some (k:Int))).length=k:=by rw[so A,abD];nofun
     ext;refine⟨by rw[l1];show k+1<=sizeLine;nofun,?_⟩;ext;refine⟨by nofun,?_⟩;obtain⟨j,ej⟩:∃j:Nat,(k:Int)+way - 1=j:=⟨((k:Int)+way - 1).toNat,by nofun⟩;have w:(c9 old (some ((k:Int)+way - 1)) none).cps.toList=old.cps.toList.drop j:=(j6 ..).trans (by rw[ej];exact fI ..);have l2:(c9 old (some ((k:Int)+way - 1)) none).length=old.cps.toList.length - j:=by rw[so w,abU]
     have u:(c9 old none (some (k:Int))++(⟨#[c]⟩:Str)).length=k+1:=by rw[aO,dP,abB,← aO,l1];rfl
     ext;refine⟨by rw[u,l2];nofun,?_⟩;have l3:(c9 old none (some (k:Int))++(⟨#[c]⟩:Str)++c9 old (some ((k:Int)+way - 1)) none).length=k+1+(old.cps.toList.length - j):=by rw[aO,dP,abB,← aO,← aO,u,l2]
     have h3:AZ (c9 old none (some (k:Int))++(⟨#[c]⟩:Str)++c9 old (some ((k:Int)+way - 1)) none).cps.toList:=by
      rw[dP,dP,A,w];exact j5 (j5 (λd hd=>o3 d (aaR hd)) cl1) λd hd=>o3 d (abe hd)
     generalize c9 old none (some (k:Int))++(⟨#[c]⟩:Str)++c9 old (some ((k:Int)+way - 1)) none=y at l3 h3 ⊢;ext;refine⟨by nofun,?_⟩;have v:=(j6 y none (some ((8:Nat):Int))).trans (jR y.cps.toList 8);have hyl:=aO y;refine rest _ ⟨c9 y none (some 8),a,b1,b2,_,_,⟨?_,?_,?_⟩,Y.mono (by nofun),rfl⟩
     ·exact(by rw[v,abD];nofun:1<=(c9 y none (some ((8:Nat):Int))).cps.toList.length)
     ·exact(by rw[v,abD];nofun:(c9 y none (some ((8:Nat):Int))).cps.toList.length<=8)
     ·exact λd hd=>h3 d (w9 (by rw[← j6];exact hd))
   ·ext;exact cJ (rest _ ⟨nm,a,b1,b2,_,_,hN,g.mono (by nofun),rfl⟩)
abbrev b7(rows:List Rw):OV:=.fd ((rows.map (·.1)).map Sum.inr) (rows.map λr=>aH r.2.1 r.2.2)
def gB(rows:List Rw)(n:Str):Option Rw:=rows.find? λr=>decide (r.1=n)
theorem cY(h:n∈rows.map (·.1)):∃r∈rows,r.1=n/\gB rows n=some r:=by
 obtain⟨r,hr,e⟩:=abE.mp h
 cases q:gB rows n with
 | none=>
  have:=List.find?_eq_none.mp q r hr;simp[e] at this
 | some r'=>
  have h1:=List.find?_some q;exact⟨r',List.mem_of_find?_eq_some q,of_decide_eq_true h1,rfl⟩
def az(rows:List Rw):List Rw:=(bv (rows.map (·.1))).filterMap (gB rows)
inductive bj:Ct
 |mk {rows:List Rw} {P:Pk} (nd:(rows.map (·.1)).Nodup) (hl:rows.length<=30) (h:P (.fl ((az rows).map dN)) [b7 rows]):bj [b7 rows] P
abbrev o5:Stmt:=top 66
abbrev zO:FS:=
  (bc (bI [0] 1 (cf (fCB eU (aa (ab 0) ae))) (ac 0) kC (fw (aa (ab 0) (aa (fOp aIx (ab 1) (ab 0)) ae)))))
theorem qH{r:Rw}(h:gB rows n=some r):ie ((rows.map (·.1)).map Sum.inr) (rows.map λr=>aH r.2.1 r.2.2) (.inr n)=some (aH r.2.1 r.2.2):=by
 unfold gB at h
 induction rows with
 |nil=>cases h
 | cons a rows b=>
  unfold ie at b ⊢;rw[abC,abC,abC,abZ,List.find?_cons];rw[List.find?_cons] at h;by_cases e:a.1=n
  ·rw[decide_eq_true e] at h;cases h;rw[decide_eq_true (congrArg Sum.inr e)];rfl
  ·rw[decide_eq_false e] at h;rw[show decide ((Sum.inr a.1:Key)=Sum.inr n)=false from decide_eq_false λz=>e (aa8 z)];exact b h
theorem Ft{f:α->Option β}{l:List α}{a:α}{b:β}(h:l[i]?=some a)(c:f a=some b):(l.take (i+1)).filterMap f=(l.take i).filterMap f++[b]:=by
 rw[aam,h,List.filterMap_append];simp[c]
theorem zP:Hh bj zO [0] 1:=by
 intro os P h;obtain@⟨rows,_,nd,hl,q⟩:=h;have sz:=du;ext;refine ik (by rw[abz];nofun) ?_;have c:(bv (rows.map (·.1))).length=rows.length:=by rw[(aG _).length_eq,abz]
 have a:∀z∈bv (rows.map (·.1)),z∈rows.map (·.1):=λz b=>(aG _).mem_iff.mp b;unfold az at q;generalize bv (rows.map (·.1))=ss at c a q ⊢;ext;refine aE (λi as ρ=>∃(x:Option OV),as=((ss.take i).filterMap (gB rows)).map dN/\ρ=[x,some (b7 rows)]) ⟨none,rfl,rfl⟩ ?_ ?_
 ·rintro i d as ρ R hd ⟨x,rfl,rfl⟩ k
  obtain⟨z,b,rfl⟩:∃y,ss[i]?=some y/\d=.str y:=by
   rw[List.getElem?_map,aaj] at hd;obtain⟨r,h1,h2⟩:=hd;exact⟨r,h1,h2.symm⟩
  obtain⟨r,hr,rfl,e⟩:=cY (a z (List.mem_of_getElem? b));have f:=List.length_filterMap_le (gB rows) (ss.take i);rw[abD] at f;ext;refine cH ?_;ext;rw[qH e];ext;refine⟨lez 2,?_⟩;ext;refine⟨by rw[abz];nofun,k _ _ ⟨_,?_,rfl⟩⟩;rw[Ft b e,aad];rfl
 ·rintro as ρ ⟨x,rfl,rfl⟩;rw[abz,aah (aac _)];ext;exact q
theorem cO :(az rows).map (·.1)=bv (rows.map (·.1)):=by
 unfold az;have a:∀z∈bv (rows.map (·.1)),z∈rows.map (·.1):=λz c=>(aG _).mem_iff.mp c;generalize bv (rows.map (·.1))=ss at a ⊢
 induction ss with
 |nil=>rfl
 | cons z ss b=>
  obtain⟨r,hr,f,e⟩:=cY (a z (aab ..));rw[abi,e];show r.1::_=_;rw[b λy d=>a y (aae _ d),f]
theorem cy{r:Rw}(h:r∈az rows):r∈rows:=by
 unfold az at h;obtain⟨n,_,e⟩:=List.mem_filterMap.mp h;exact List.mem_of_find?_eq_some e
theorem zQ{a b:Str}(h:cQ a b=true)(ne:a≠b):aZ a b=true:=by
 cases e:aZ a b with
 |true=>rfl
 |false=>exact absurd (fZ h (by show (!aZ a b)=true;rw[e];rfl)) ne
structure RulesG(rows:List Rw)(pool:List Str)(rank:Str->Nat):Prop where
 nd:(rows.map (·.1)).Nodup
 ok:∀r∈rows,cr r.1/\uh pool r.2.1 r.2.2
 few:rows.length<=30
 pn:∀z∈pool,cr z
 pl:pool.length<=45
 dw:∀r∈rows,∀p∈b6 r.2.1 r.2.2,rank p<rank r.1
theorem o6:∀{ps zs:List Str} {x:Str},x∈ki zs ps->x∈ps
 |[],_,_,h=>nomatch h
 | p::ps,zs,x,h=>by
  unfold ki at h;split at h
  ·rcases abH.mp h with y|y
   ·rw[y];exact aab ..
   ·exact aae _ (o6 y)
  ·rw[abG.mp h];exact aab ..
theorem cZ{rest:List Str}(h:x∈bR zs w rest):x∈b6 w rest:=by
 unfold bR at h;split at h
 ·rename_i h1;unfold b6;rw[if_neg (by rw[h1];decide +kernel)];exact o6 h
 ·exact h
structure RulesB(rows:List Rw)(pool:List Str)(rank:Str->Nat):Prop where
 nd:(rows.map (·.1)).Nodup
 ok:∀r∈rows,cr r.1/\uh pool r.2.1 r.2.2
 few:rows.length<=30
 pn:∀z∈pool,cr z
 pl:pool.length<=45
 dw:∀zs:List Str,(∀z,z∈zs↔Emp (az rows) z)->∀r∈rows,∀p∈bR zs r.2.1 r.2.2,rank p<rank r.1
theorem gu(R:RulesB rows pool rank):BookR (az rows):=by
 have f:=cO (rows:=rows);have b:((az rows).map (·.1)).Nodup:=by rw[f];exact(aG _).nodup_iff.mpr R.nd
 have hl:(az rows).length=rows.length:=by
  have:=congrArg List.length f;rw[abz,(aG _).length_eq,abz] at this;exact this
 refine⟨⟨b,λr hr=>?_,by rw[hl];have:=R.few;nofun,⟨pool,R.pl,λr hr=>⟨R.pn,(R.ok r (cy hr)).2⟩⟩⟩,λi r s hr hs=>?_,λzs j S l=>?_⟩
 ·have:=R.ok r (cy hr);exact⟨this.1,pool,R.pn,this.2⟩
 ·have h1:((az rows).map (·.1))[i]?=some r.1:=by rw[List.getElem?_map,hr];rfl
  have h2:((az rows).map (·.1))[i+1]?=some s.1:=by rw[List.getElem?_map,hs];rfl
  have hs:=bS (rows.map (·.1));rw[← f] at hs;obtain⟨g1,q⟩:=List.getElem?_eq_some_iff.mp h1;obtain⟨g2,o⟩:=List.getElem?_eq_some_iff.mp h2;have c:=abW.mp hs i (i+1) g1 g2 (aaA i);have a:=abW.mp b i (i+1) g1 g2 (aaA i);rw[q,o] at c a;exact zQ c a
 ·cases S with
  |nil=>rfl
  | cons n S=>
   have go:∀(m:Nat) (x:Str),x∈n::S->rank x<m->False:=by
    intro m
    induction m with
    |zero=>intro x _ h;nofun
    | succ m g=>
     intro x k h;obtain⟨r,hr,e,p,hp,d⟩:=l x k;have:=R.dw zs j r (cy hr) p hp;rw[e] at this;exact g p d (by nofun)
   exact(go (rank n+1) n (aab ..) (aaA _)).elim
theorem nb(R:RulesG rows pool rank):BookR (az rows):=gu ⟨R.nd,R.ok,R.few,R.pn,R.pl,λ_ _ r hr p hp=>R.dw r hr p (cZ hp)⟩
theorem lR(nd:(rows.map (·.1)).Nodup):gB (az rows) n=gB rows n:=by
 by_cases h:n∈rows.map (·.1)
 ·obtain⟨r,hr,d,e⟩:=cY h;obtain⟨r',b,c,f⟩:=cY (rows:=az rows) (n:=n) (by rw[cO];exact(aG _).mem_iff.mpr h);rw[e,f,lK nd hr (cy b) (c.trans d.symm)]
 ·have g:∀a:List Rw,(∀r∈a,r∈rows)->gB a n=none:=λa hs=>List.find?_eq_none.mpr λr hr=>by
   have:r.1≠n:=λe=>h (abE.mpr ⟨r,hs r hr,e⟩);simpa using this
  rw[g _ λr hr=>cy hr,g _ λr hr=>hr]
theorem nc(nd:(rows.map (·.1)).Nodup):fA (az rows) n=match gB rows n with
  |none=>.leaf .lack
  | some r=>rlR r.2.1 r.2.2:=by
 show (match gB (az rows) n with
  |none=>Rl.leaf .lack
  |some r=>rlR r.2.1 r.2.2)=_
 rw[lR nd]
theorem Fu(h:R n=.leaf l):rdF R z (f+1) n k=some ⟨iR l z k,k,[n]⟩:=by
 show goF R z (f+1) (da R z n k) k [n]=_;rw[show da R z n k=⟨.leaf l,n,k,k,0,[],true,iR l z k⟩ by unfold da;rw[h]];exact mX rfl
theorem o7(h:y∉zs):gq (zs.map Sum.inr) ds (.inr y) d=(zs.map Sum.inr++[.inr y],ds++[d]):=by
 unfold gq;rw[if_neg];intro e;obtain⟨x,b,a⟩:=List.any_eq_true.mp e;obtain⟨v,c,rfl⟩:=abE.mp b;exact h (aa8 (of_decide_eq_true a) ▸ c)
theorem iA{rest:List Str}(h:y∉rows.map (·.1)):b7 (rows++[(y,w,rest)])=.fd (gq ((rows.map (·.1)).map Sum.inr) (rows.map λr=>aH r.2.1 r.2.2) (.inr y) (aH w rest)).1 (gq ((rows.map (·.1)).map Sum.inr) (rows.map λr=>aH r.2.1 r.2.2) (.inr y) (aH w rest)).2:=by
 rw[o7 h];unfold b7;rw[aad,aad,aad];rfl
def o8(R:Rls)(n z:Str)(k:Nat)(r:Res):D:=.tup [.str n,cS r.ln,.int ((r.far:Int) - (k:Int)+1),.str (c9 z (some (k:Int)) (some ((k:Int)+((r.far:Int) - (k:Int)+1)))),.bl (decide ((z.length:Int)<(k:Int)+((r.far:Int) - (k:Int)+1))),.lst ((bv r.ls).map λx=>.tup [.str x,rlD (R x)])]
inductive c5:Ct
 |mk {ks:List Key} {ds:List D} {R:Rls} {z n:Str} {zs:List Str} {k f:Nat} {K:Kp} {r:Res} {P:Pk} (hD:eu ks ds R) (M:MkOk R z zs n k f) (hK:KpOk R z zs K) (hzs:zs.length<=46) (hin:((n,k),r)∈K) (h:P (.fz (o8 R n z k r)) [bu ks ds,.fz (.str z),dM K,.fz (.str n),.fz (.int k)]):c5 [bu ks ds,.fz (.str z),dM K,.fz (.str n),.fz (.int k)] P
abbrev lS:Stmt:=top 54
abbrev vh:FS:=
  (ak (bX (fOp aIx (ab 2) (fw (aa (ab 3) (aa (ab 4) ae)))) (i5 3 (aU (ac 5) (aU (ac 6) (aU (ac 7) i4)))))
  (ak (bX (bI [0] 1 (cf (fCB eU (aa (ab 7) ae))) (ac 0) kC (fw (aa (ab 0) (aa (EA (ab 1) (ab 0)) ae)))) (ac 8))
  (bc (fw (aa (ab 3) (aa (ab 5) (aa (ab 6) (aa (fSl aSl (ab 1) (dJ (ab 4)) (dJ (fOp cL (ab 4) (ab 6)))) (aa (fOp (i6 (λi j=>decide (j<i)) λi j=>aZ j i) (fOp cL (ab 4) (ab 6)) (fCB eY (aa (ab 1) ae))) (aa (ab 8) ae))))))))))
theorem vi:Hh c5 vh [] 9:=by
 intro os P h;obtain@⟨ks,ds,R,z,n,zs,k,f,K,r,_,m,M,c,g,a,q⟩:=h;have T:=c.res M.r a;have hl:r.ls.length<=zs.length:=aat T.nd T.sub;have j:=M.l;have sz:=sizeLine_eq;have l:(bv r.ls).length=r.ls.length:=(aG _).length_eq;ext;refine⟨lez 2,?_⟩;ext;refine e9 (show gc (ja K) (jz K) [.inr n,.inl (k:Int)]=some (qV k r) from et c.nd a) ?_;ext;refine⟨rfl,?_⟩;ext;refine ik (zs:=r.ls) (by nofun) ?_;ext;refine aE (λi as ρ=>∃(x:Option OV),as=((bv r.ls).take i).map (λx=>.tup [.str x,rlD (R x)])/\ρ=[x,some (bu ks ds),some (.fz (.str z)),some (dM K),some (.fz (.str n)),some (.fz (.int k)),some (.fz (cS r.ln)),some (.fz (.int ((r.far:Int) - (k:Int)+1))),some (.fz (lsD r.ls)),none]) ⟨none,rfl,rfl⟩ ?_ ?_
 ·rintro i d as ρ Q hd ⟨x,rfl,rfl⟩ e;rw[List.getElem?_map,aaj] at hd;obtain⟨y,b,rfl⟩:=hd;have hi:=(List.getElem?_eq_some_iff.mp b).1;ext;refine cH ?_;ext;refine⟨lez 2,?_⟩;ext;refine⟨by rw[abz,abD];nofun,e _ _ ⟨_,?_,rfl⟩⟩;rw[m y,aam,b,aad];rfl
 ·rintro as ρ ⟨x,rfl,rfl⟩;rw[abz,aah (aac _)];ext;refine⟨by nofun,?_⟩;ext;refine⟨by nofun,?_⟩;ext;refine⟨lez 6,?_⟩;ext;exact q
inductive iB:Ct
 |mk {rows:List Rw} {n z:Str} {k f:Nat} {r:Res} {P:Pk} (A:AskR rows n z k) (hz:z.length<=10000) (hf:f<sizeLine) (hr:rdF (fA rows) z f n k=some r) (h:P (.fz (o8 (fA rows) n z k r)) (uW rows n z k)):iB (uW rows n z k) P
abbrev vj:Stmt:=top 55
abbrev Fv:FS:=
  (ak (bX (ag bB (aa (fFz (ab 0)) (aa (fFz (ab 1)) (aa (fFz (ab 2)) (aa (fFz (ab 3)) ae))))) (ac 4))
  (bc (ag c5 (aa (fFz (fCB jv (aa (ab 0) ae))) (aa (fFz (ab 2)) (aa (fFz (ab 4)) (aa (fFz (ab 1)) (aa (fFz (ab 3)) ae))))))))
theorem Fx:Hh iB Fv [] 5:=by
 intro os P h;obtain@⟨rows,n,z,k,f,r,_,A,c,d,hr,q⟩:=h;ext;refine .mk A c d hr λzs K a M e b=>?_;ext;refine km ⟨zE A.b.b.nd,?_⟩;ext;refine .mk (gJ A.b.b) M e a b ?_;ext;exact q
inductive bE:Ct
 |mk {r:Rw} {P:Pk} (hr:zn r) (h:P (.fz (.bl true)) [.fz (dN r)]):bE [.fz (dN r)] P
abbrev lT:Stmt:=top 56
abbrev vk:FS:=
  (ak (fIf (fOr (iY (dm (fCB cIs (aa (ab 0) (aa (fC (.ty "tuple")) ae))))) (au (fOp aNe (fCB eY (aa (ab 0) ae)) (fC (.int 2)))))
   (bc (fC (.bl false)))
   aL)
  (bc (dR (ag bK (aa (fFz (fOp aIx (ab 0) (fC (.int 0)))) ae)) (MY (fOp tG (fOp aIx (ab 0) (fC (.int 1))) (fC .non)) (ag cV (aa (fFz (fOp aIx (ab 0) (fC (.int 1)))) ae))))))
theorem vm:Hh bE vk [] 1:=by
 intro os P h;obtain@⟨⟨n,word,rest⟩,_,⟨a,b⟩,q⟩:=h;ext;refine av ?_;ext;refine⟨⟨rfl,rfl⟩,?_⟩;ext;refine cJ ?_;ext;refine⟨ar,?_⟩;ext;refine cJ ?_;ext;refine .mk a ?_;ext;refine cH ?_;ext;refine cJ ?_;ext;refine .mk b ?_;ext;exact q
inductive bf:Ct
 |mk {rows:List Rw} {P:Pk} (hl:rows.length<=1000) (ho:∀r∈rows,zn r) (hr:K1 rows) (h:P (.fz (.bl true)) [.fz (cR rows)]):bf [.fz (cR rows)] P
abbrev iC:Stmt:=top 57
abbrev ng:FS:=
  (ak (fIf (iY (dm (fCB cIs (aa (ab 0) (aa (fC (.ty "list")) ae)))))
   (bc (fC (.bl false)))
   aL)
  (bc (dR (fCB we (aa (bI [] 1 (cf (ab 0)) (ac 0) kC (ag bE (aa (fFz (ab 0)) ae))) ae)) (ag bT (aa (fFz (ab 0)) ae)))))
theorem nh:Hh bf ng [] 1:=by
 intro os P h;obtain@⟨rows,_,hl,ho,hr,q⟩:=h;have sz:=sizeLine_eq;ext;refine av ?_;ext;refine⟨⟨rfl,rfl⟩,?_⟩;ext;refine cJ ?_;ext;refine aE (λi as ρ=>∃(x:Option OV),as=tru i/\ρ=[x,some (.fz (cR rows))]) ⟨none,rfl,rfl⟩ ?_ ?_
 ·rintro i d as ρ R hd ⟨x,rfl,rfl⟩ k;rw[List.getElem?_map,aaj] at hd;obtain⟨r,a,rfl⟩:=hd;have hi:=(List.getElem?_eq_some_iff.mp a).1;ext;refine cH ?_;ext;refine .mk (ho r (List.mem_of_getElem? a)) ?_;ext;exact⟨by rw[fq];nofun,k _ _ ⟨_,dB,rfl⟩⟩
 ·rintro as ρ ⟨x,rfl,rfl⟩;ext;refine ir ?_;ext;rw[fu];refine cH ?_;ext;refine .mk hl hr ?_;ext;exact q
theorem vn{a:List Str}:tj (.lst (zs.map D.str)) (.lst (a.map D.str)):=⟨fP zs,fP a,oZ zs⟩
theorem gK(d:D):dEq d d=true:=nO _
theorem iD(rows:List Rw):okDs (rows.map dN)=true:=by
 induction rows with
 |nil=>rfl
 |cons r rows a=>exact abL.mpr ⟨abL.mpr ⟨fP r.2.2,rfl⟩,a⟩
theorem zR(r:Rw):dep (v9 (dN r))<=2:=by
 have h:=iy r.2.2;show max 0 (max (max 0 (deps (toDVs (r.2.2.map D.str)))+1) 0)+1<=2;rw[h];decide
theorem lU(rows:List Rw):deps (toDVs (rows.map dN))<=2:=by
 induction rows with
 |nil=>exact aan _
 |cons r rows a=>exact Nat.max_le.mpr ⟨zR r,a⟩
theorem vo{a:List Rw}:tj (.lst (rows.map dN)) (.lst (a.map dN)):=⟨iD rows,iD a,aas (Nat.succ_le_succ (lU rows)) (by decide)⟩
abbrev mf(n:Str)(ln:Option Nat)(m:Int)(u:Str)(e:Bool)(rows:List Rw):D:=.tup [.str n,cS ln,.int m,.str u,.bl e,cR rows]
inductive bg:Ct
 |mk {n:Str} {ln:Option Nat} {m:Int} {u:Str} {e:Bool} {rows:List Rw} {P:Pk} (A:AskR rows n u 0) (h:P (.fz (.bl true)) [.fz (mf n ln m u e rows)]):bg [.fz (mf n ln m u e rows)] P
abbrev jB:Stmt:=top 58
abbrev qI:FS:=
  (ak (fIf (fOr (iY (dm (fCB cIs (aa (ab 0) (aa (fC (.ty "tuple")) ae))))) (au (fOp aNe (fCB eY (aa (ab 0) ae)) (fC (.int 6)))))
   (bc (fC (.bl false)))
   aL)
  (ak (bX (ab 0) (i5 6 (aU (ac 1) (aU (ac 2) (aU (ac 3) (aU (ac 4) (aU (ac 5) (aU (ac 6) i4))))))))
  (ak (fIf (fOr (iY (dm (ag bK (aa (fFz (ab 1)) ae)))) (iY (fOr (au (fOp tG (ab 2) (fC .non))) (dm (ag ca (aa (fFz (ab 2)) ae))))))
   (bc (fC (.bl false)))
   aL)
  (bc (dR (ag ca (aa (fFz (ab 3)) ae)) (dR (ag cA (aa (fFz (ab 4)) ae)) (dR (fCB cIs (aa (ab 5) (aa (fC (.ty "bool")) ae))) (ag bf (aa (fFz (ab 6)) ae)))))))))
theorem qJ:Hh bg qI [] 7:=by
 intro os P h;obtain@⟨n,ln,m,u,e,rows,_,A,q⟩:=h;have few:=A.b.b.few;ext;refine av ?_;ext;refine⟨⟨rfl,rfl⟩,?_⟩;ext;refine cJ ?_;ext;refine⟨ar,?_⟩;ext;refine cJ ?_;ext;refine⟨rfl,?_⟩;ext;refine nY True (λ_=>?_) (λrest=>?_)
 ·ext;refine .mk ?_;ext;refine cH ?_;ext;refine .mk A.s A.t ?_;ext;refine cH ?_;ext;refine⟨⟨rfl,rfl⟩,?_⟩;ext;refine cH ?_;ext;refine .mk (by nofun) A.b.b.ok A.b.rise ?_;ext;exact q
 ext;refine .mk A.n ?_;ext;refine cJ ?_
 cases ln with
 | none=>
  ext;refine cH ?_;ext;refine cJ ?_;exact rest trivial
 | some l=>
  ext;refine cJ ?_;ext;refine .mk ?_;ext;refine cJ ?_;exact rest trivial
@[irreducible] def bU:Ct:=λos P=>∃(n:Str) (ln:Option Nat) (m:Int) (u:Str) (e:Bool) (rows:List Rw) (f:Nat) (r:Res),os=[.fz (mf n ln m u e rows)]/\AskR rows n u 0/\u.length<=10000/\f<sizeLine/\rdF (fA rows) u f n 0=some r/\m=u.length+(if e=true then 1 else 0) /\
 (r.ln=ln->(r.far:Int)+1=m/\bv r.ls=rows.map (·.1)/\P (.fz (.bl true)) os)/\(r.ln≠ln->P (.fz (.bl false)) os)
abbrev lV:Stmt:=top 59
abbrev vp:FS:=
  (ak (fIf (iY (dm (ag bg (aa (fFz (ab 0)) ae))))
   (bc (fC (.bl false)))
   aL)
  (ak (bX (ab 0) (i5 6 (aU (ac 1) (aU (ac 2) (aU (ac 3) (aU (ac 4) (aU (ac 5) (aU (ac 6) i4))))))))
  (ak (fIf (au (fOp aNe (ab 3) (fOp cL (fCB eY (aa (ab 4) ae)) (Ia (Gn (ab 5)) (fC (.int 1)) (fC (.int 0))))))
   (bc (fC (.bl false)))
   aL)
  (ak (bX (bI [] 1 (cf (ab 6)) (ac 0) (au (fOp qi (fOp aIx (ab 0) (fC (.int 1))) (fC .non))) (ab 0)) (ac 7))
  (ak (fIf (au (fOp qi (ag jA (aa (fFz (ab 7)) ae)) (fC .non)))
   (bc (fC (.bl false)))
   aL)
  (ak (bX (ag eD (aa (fFz (ab 7)) (aa (fFz (ab 1)) (aa (fFz (ab 4)) (aa (fC (.int 0)) ae))))) (ac 8))
  (bc (dR (fOp aEq (fOp aIx (ab 8) (fC (.int 0))) (ab 2)) (dR (fOp aEq (fOp aIx (ab 8) (fC (.int 1))) (ab 3)) (fOp aEq (fOp aIx (ab 8) (fC (.int 3))) (bI [] 1 (cf (ab 6)) (ac 0) kC (fOp aIx (ab 0) (fC (.int 0))))))))))))))
theorem zS :tj (cS a) (cS b):=by
 cases a <;> cases b <;> exact⟨rfl,rfl,aan _⟩
theorem Fy :dEq (cS a) (cS b)=true↔a=b:=by
 cases a with
 | none=>cases b with
  |none=>exact ⟨fun _=>rfl,fun _=>rfl⟩
  |some b=>exact ⟨(fun h=>by cases h),fun h=>by cases h⟩
 | some a=>cases b with
  |none=>exact ⟨(fun h=>by cases h),fun h=>by cases h⟩
  |some b=>exact aV.trans ⟨fun h=>congrArg some (Int.ofNat_inj.mp h),fun h=>congrArg _ (aai h)⟩
theorem vq:Hh bU vp [] 9:=by
 intro os P h;unfold bU at h;obtain⟨n,ln,m,u,e,rows,f,r,rfl,A,hu,o,hr,j,k,l⟩:=h;have few:=A.b.b.few;have sz:=sizeLine_eq;ext;refine av ?_;ext;refine .mk A ?_;ext;refine cJ ?_;ext;refine⟨rfl,?_⟩;ext;refine nY True (λ_=>?_) (λrest=>?_)
 ·ext;refine aE (λi as ρ=>∃(x:Option OV),as=(rows.take i).map dN/\ρ=[x,some (.fz (mf n ln m u e rows)),some (.fz (.str n)),some (.fz (cS ln)),some (.fz (.int m)),some (.fz (.str u)),some (.fz (.bl e)),some (.fz (cR rows)),none,none]) ⟨none,rfl,rfl⟩ ?_ ?_
  ·rintro i d as ρ Q hd ⟨x,rfl,rfl⟩ g;rw[List.getElem?_map,aaj] at hd;obtain⟨y,c,rfl⟩:=hd;have hi:=(List.getElem?_eq_some_iff.mp c).1;ext;refine cH ?_;ext;refine⟨by rw[abz,abD];nofun,g _ _ ⟨_,?_,rfl⟩⟩;rw[aam,c,aad];rfl
  ·rintro as ρ ⟨x,rfl,rfl⟩;rw[abz,aah (aac _)];ext;refine av ?_;ext;refine .mk A.b.b A.b.free ?_;ext;refine cJ ?_;ext;refine .mk A hu o hr λa b=>?_;ext;refine⟨zS,?_⟩;ext;refine aq (r.ln=ln) Fy (λh=>?_) (λh=>?_)
   ·obtain⟨h1,h2,q⟩:=k h;ext;refine⟨ar,?_⟩;ext;refine aq True ⟨λ_=>trivial,λ_=>aV.mpr (by rw[Int.natCast_zero,Int.sub_zero];exact h1)⟩ (λ_=>?_) (λh=>absurd trivial h);ext;refine aE (λi as ρ=>∃(x:Option OV),as=((rows.take i).map (·.1)).map .str/\ρ=[x,some (.fz (mf n ln m u e rows)),some (.fz (.str n)),some (.fz (cS ln)),some (.fz (.int m)),some (.fz (.str u)),some (.fz (.bl e)),some (.fz (cR rows)),some (.fz (cR rows)),some (.fz (.tup [cS r.ln,.int ((r.far:Int) - ((0:Nat):Int)+1),.lst ((eS [] (lB (fA rows) u f (n,0))).map b8),.lst ((bv r.ls).map .str)]))]) ⟨none,rfl,rfl⟩ ?_ ?_
    ·rintro i d as ρ Q hd ⟨x,rfl,rfl⟩ g;rw[List.getElem?_map,aaj] at hd;obtain⟨y,c,rfl⟩:=hd;have hi:=(List.getElem?_eq_some_iff.mp c).1;ext;refine cH ?_;ext;refine⟨by rw[abz,abz,abD];nofun,g _ _ ⟨_,?_,rfl⟩⟩;rw[aam,c,aad,aad];rfl
    ·rintro as ρ ⟨x,rfl,rfl⟩;rw[abz,aah (aac _),← h2];ext;refine⟨vn,?_⟩;ext
     erw [gK (.lst ((bv r.ls).map .str))]
     exact q
   ·ext;exact l h
 ext;refine⟨by nofun,?_⟩;ext
 cases e with
 | true=>
  ext;refine cH ?_;ext;refine⟨ar,?_⟩;ext;refine aq False ⟨λy=>?_,False.elim⟩ False.elim (λ_=>rest trivial);rw[aV.mpr (show m=(u.length:Int)+1 from j)] at y;cases y
 | false=>
  ext;refine cJ ?_;ext;refine⟨ar,?_⟩;ext;refine aq False ⟨λy=>?_,False.elim⟩ False.elim (λ_=>rest trivial);rw[aV.mpr (show m=(u.length:Int)+0 from j)] at y;cases y
theorem jC{m:Int}{e:Bool}(A:AskR rows n u 0)(hu:u.length<=10000)(b:f<sizeLine)(hr:rdF (fA rows) u f n 0=some r)(a:m=u.length+(if e=true then 1 else 0))
  (h1:r.ln=ln->(r.far:Int)+1=m/\bv r.ls=rows.map (·.1)/\P (.fz (.bl true)) [.fz (mf n ln m u e rows)]) (c:r.ln≠ln->P (.fz (.bl false)) [.fz (mf n ln m u e rows)]):bU [.fz (mf n ln m u e rows)] P:=by
 unfold bU;exact⟨n,ln,m,u,e,rows,f,r,rfl,A,hu,b,hr,a,h1,c⟩
inductive cE:Ct
 |mk {b0 b1 b2:Int} (n:Int) {m:Nat} {P:Pk} (hb:WellB b1 b2 n) (hn:n<2 ^ 37) (hm:m<=30) (h:∀(ns:List Str) (b0' b1' b2':Int),ns.length=m->ns.Nodup->(∀z∈ns,cr z)->WellB b1' b2' (n+13*m)->P (.fl (ns.map .str)) [cj b0' b1' b2',.fz (.int m)]):cE [cj b0 b1 b2,.fz (.int m)] P
abbrev vt:Stmt:=top 72
abbrev Fz:FS:=
  (ak (cq 2 (iZ ae))
  (ak (p9 (dS (aa (ab 1) ae)) (ac 3)
   (bQ (wd 2 (ag bN (aa (ab 0) (aa (ab 2) ae))))))
  (bc (ab 2))))
theorem FB:Hh cE Fz [0] 4:=by
 intro os P h;obtain@⟨c,b1,b2,n,m,_,r,s,t,q⟩:=h;have sz:=du;ext;refine⟨aan _,?_⟩;ext;refine⟨⟨by nofun,by nofun⟩,?_⟩;ext
 refine bP (λi ρ=>∃(ns:List Str) (f:Option OV) (c b1 b2:Int),ns.length=i/\i<=m/\ns.Nodup/\(∀z∈ns,cr z)/\WellB b1 b2 (n+13*i)/\ρ=[some (cj c b1 b2),some (.fz (.int m)),some (.fl (ns.map .str)),f])
  ⟨[],none,c,b1,b2,rfl,aan _,abQ,(λ_ h=>nomatch h),r.mono (by nofun),rfl⟩ ?_ ?_
 ·rintro i d ρ R hd ⟨ns,f,c,b1,b2,hl,j,e,a,b,rfl⟩ l;obtain⟨hi,rfl⟩:=bo hd;ext;refine⟨rfl,?_⟩;ext;refine .mk _ rfl b (by nofun) a (by nofun) λy c b1 b2 o g k=>?_;ext;refine⟨by rw[abz];nofun,?_⟩;refine l _ ⟨ns++[y],some (.fz (.int (0+(i:Int)))),c,b1,b2,by rw[abB,hl];rfl,by nofun,KS.nodup_snoc e g,λv p=>?_,k.mono (by nofun),by rw[show (ns++[y]).map D.str=ns.map D.str++[D.str y] from aad];rfl⟩;rcases abA.mp p with h|h
  ·exact a v h
  ·rw[abG.mp h];exact o
 ·rintro ρ ⟨ns,f,c,b1,b2,hl,j,e,a,b,rfl⟩;rw[bF] at hl b;ext;exact q ns c b1 b2 (by nofun) e a (b.mono (by nofun))
theorem qK{xs ys:List Str}(hx:xs.Nodup)(a:ys.Nodup)(h:∀v,v∈xs↔v∈ys):bv xs=bv ys:=
 (ij (zs:=ys) ((aG _).nodup_iff.mpr hx) (λv=>by rw[(aG _).mem_iff,h]) (bS _)).trans (ij ((aG _).nodup_iff.mpr a) (λv=>(aG _).mem_iff) (bS _)).symm
theorem Kh{R:Rls}{z:Str}:∀(f:Nat) (s:As) (far:Nat) (ls:List Str) (r:Res),goF R z f s far ls=some r->ls.Nodup->r.ls.Nodup
 |0,s,far,ls,r,h,_=>by cases h
 | f+1,s,far,ls,r,h,nd=>by
  cases hd:s.dn with
  |true=>rw [mX hd] at h;cases h;exact nd
  | false=>
   obtain⟨w,p,t,_,_,h2⟩:=mY hd h;exact Kh f _ _ _ r h2 (ka nd)
abbrev Rt:=Option Nat×Nat×List Str
def Run(R:Rls)(t:Str)(c:Nat)(s:As)(far:Nat)(r:Rt)(st:List Sp2):Prop:=∀f ls,∃a,goF R t (c+f) s far ls=some ⟨r.1,r.2.1,a⟩/\(eR R t (c+f) s).st=st/\∀v,v∈a↔v∈ls∨v∈r.2.2
def PtAt(R:Rls)(t:Str)(c:Nat)(x:Str)(k:Nat)(r:Rt):Prop:=∀f,∃a,rdF R t (c+f) x k=some ⟨r.1,r.2.1,a⟩/\∀v,v∈a↔v=x∨v∈r.2.2
def PtG(R:Rls)(t:Str)(c:Nat)(g:Nat->Rt)(pt:Str):Prop:=∀b,b<=t.length->PtAt R t c pt b (g b)
abbrev bgA(w:Str)(ps:List Str)(y:Str)(k:Nat):As:=⟨.comp w ps,y,k,k,0,[],false,none⟩
section
variable   {l p:Nat} {a b pt root:Str}  {r ra rb q:Rt} {s':As}   {g ga gb:Nat->Rt}
theorem Run.fin(i:1<=c)(h:s.dn=true)(e:s.ln=ra.1)(g:far=ra.2.1)(b:ra.2.2=[])(a:s.st=st):Run R t c s far ra st:=λf ls=>by
 obtain⟨d,hd⟩:∃d,c+f=d+1:=⟨c+f - 1,by nofun⟩;exact⟨ls,by rw[hd,mX h,e,g],by rw[lz h,a],λv=>by rw[b];simp⟩
theorem Run.go(d:s.dn=false)(h1:s.fm=.comp w ps)(h2:aj ps s=(x,k))(hx:PtAt R t c x k r)(e:b5 w ps s r.1=s')(H:Run R t c s' (max far r.2.1) q st):Run R t (c+1) s far (q.1,q.2.1,x::r.2.2++q.2.2) st:=λf ls=>by
 obtain⟨a,g1,g2⟩:=hx f;obtain⟨g,l,j,i⟩:=H f (mW ls a);have b:rdF R t (c+f) (aj ps s).1 (aj ps s).2=some ⟨r.1,r.2.1,a⟩:=by rw[h2];exact g1
 refine⟨g,?_,?_,λv=>?_⟩
 ·rw[ab2,jK d h1 b,e];exact l
 ·rw[ab2,lA d h1 b,e];exact j
 ·rw[i,gI,g2,abA,abH,or_assoc]
theorem jD(b:R y=.comp w ps)(H:Run R t c (bgA w ps y k) k r st):PtAt R t c y k r/\∀f,lB R t (c+f) (y,k)=st:=by
 have a:da R t y k=bgA w ps y k:=by unfold da;rw[b]
 refine⟨λf=>?_,λf=>?_⟩
 ·obtain⟨l,h1,_,d⟩:=H f [y];exact⟨l,by show goF R t (c+f) (da R t y k) k [y]=_;rw[a];exact h1,λv=>by rw[d,abG]⟩
 ·obtain⟨l,_,h2,_⟩:=H f [];show (eR R t (c+f) (da R t y k)).st=_;rw[a,h2]
theorem PtAt.mono{c':Nat}(h:PtAt R t c a k ra)(b:c<=c'):PtAt R t c' a k ra:=λf=>by
 obtain⟨ls,h1,h2⟩:=h (c' - c+f);exact⟨ls,by rw[show c'+f=c+(c' - c+f) by nofun];exact h1,h2⟩
theorem PtAt.same{L:List Str}(h:PtAt R t c a k r)(b:∀v,(v=a∨v∈r.2.2)↔(v=a∨v∈L)):PtAt R t c a k (r.1,r.2.1,L):=λf=>by
 obtain⟨ls,h1,h2⟩:=h f;exact⟨ls,h1,λv=>by rw[h2,b]⟩
theorem fQ(h:w = "row"){x:Option Nat}:b5 w ps s x=yV ps { s with st:=s.st++[aj ps s] } x:=if_pos h
theorem dC(h:w = "first"){x:Option Nat}:b5 w ps s x=ei ps { s with st:=s.st++[aj ps s] } x:=(if_neg (by rw[h];decide +kernel)).trans (if_pos h)
theorem iE{l:Leaf}(h:R a=.leaf l):PtAt R t 1 a k (iR l t k,k,[]):=λf=>⟨[a],by rw[ab3];exact Fu h,λv=>by simp⟩
theorem zT{l:Leaf}(h:R a=.leaf l):PtG R t 1 (λb=>(iR l t b,b,[])) a:=λ_ _=>iE h
theorem vv(b:R y=.comp "row" [a])(d:PtAt R t c a k ra):PtAt R t (c+2) y k (ra.1,max k ra.2.1,a::ra.2.2)/\∀f,lB R t (c+2+f) (y,k)=[(a,k)]:=by
 have:=jD b (.go rfl rfl rfl (d.mono (aaU c)) (fQ rfl) (.fin (ra:=(ra.1,max k ra.2.1,[])) (st:=[(a,k)]) (by nofun) (by cases ra.1 <;> rfl) (by cases ra.1 with
  |none=>rfl
  |some l=>exact congrArg some (Nat.add_sub_cancel_left k l)) rfl rfl (by cases ra.1 <;> rfl)))
 rwa [aao] at this
theorem zU(d:R y=.comp "row" [a,b])(g:PtAt R t c a k ra)(e:ra.1=none):PtAt R t (c+2) y k (none,max k ra.2.1,a::ra.2.2)/\∀f,lB R t (c+2+f) (y,k)=[(a,k)]:=by
 have:=jD d (.go rfl rfl rfl (g.mono (aaU c)) ((fQ rfl).trans (by rw[e])) (.fin (ra:=(none,max k ra.2.1,[])) (st:=[(a,k)]) (by nofun) rfl rfl rfl rfl rfl))
 rwa [aao] at this
theorem zV(d:R y=.comp "row" [a,b])(i:PtAt R t c a k ra)(e:ra.1=some l)(g:PtAt R t c b (k+l) rb):PtAt R t (c+3) y k (rb.1.map (l+·),max (max k ra.2.1) rb.2.1,a::ra.2.2++b::rb.2.2)/\∀f,lB R t (c+3+f) (y,k)=[(a,k),(b,k+l)]:=by
 have:=jD d (.go rfl rfl rfl (i.mono (c':=c+2) (by nofun)) ((fQ rfl).trans (by rw[e];rfl)) (.go (s:=⟨.comp "row" [a,b],y,k,k+l,1,[(a,k)],false,none⟩) rfl rfl rfl (g.mono (aaU c)) (fQ rfl) (.fin (ra:=(rb.1.map (l+·),max (max k ra.2.1) rb.2.1,[])) (st:=[(a,k),(b,k+l)]) (by nofun) (by cases rb.1 <;> rfl) (by cases rb.1 with
  |none=>rfl
  |some l2=>exact congrArg some (by show k+l+l2 - k=l+l2;nofun)) rfl rfl (by cases rb.1 <;> rfl))))
 rwa [aao] at this
theorem o9(b:R y=.comp "first" [a])(d:PtAt R t c a k ra):PtAt R t (c+2) y k (ra.1,max k ra.2.1,a::ra.2.2)/\∀f,lB R t (c+2+f) (y,k)=[(a,k)]:=by
 have:=jD b (.go rfl rfl rfl (d.mono (aaU c)) ((dC rfl).trans (if_pos (.inr rfl))) (.fin (ra:=(ra.1,max k ra.2.1,[])) (st:=[(a,k)]) (by nofun) rfl rfl rfl rfl rfl))
 rwa [aao] at this
theorem zW(d:R y=.comp "first" [a,b])(g:PtAt R t c a k ra)(e:ra.1=some l):PtAt R t (c+2) y k (some l,max k ra.2.1,a::ra.2.2)/\∀f,lB R t (c+2+f) (y,k)=[(a,k)]:=by
 have:=jD d (.go rfl rfl rfl (g.mono (aaU c)) ((dC rfl).trans ((congrArg (ei [a,b] _) e).trans (if_pos (.inl λz=>nomatch z)))) (.fin (ra:=(some l,max k ra.2.1,[])) (st:=[(a,k)]) (by nofun) rfl rfl rfl rfl rfl))
 rwa [aao] at this
theorem zX(d:R y=.comp "first" [a,b])(i:PtAt R t c a k ra)(e:ra.1=none)(g:PtAt R t c b k rb):PtAt R t (c+3) y k (rb.1,max (max k ra.2.1) rb.2.1,a::ra.2.2++b::rb.2.2)/\∀f,lB R t (c+3+f) (y,k)=[(a,k),(b,k)]:=by
 have:=jD d (.go rfl rfl rfl (i.mono (c':=c+2) (by nofun)) ((dC rfl).trans (by rw[e];exact if_neg λz=>z.elim (λh=>h rfl) λh=>nomatch h)) (.go (s:=⟨.comp "first" [a,b],y,k,k,1,[(a,k)],false,none⟩) rfl rfl rfl (g.mono (aaU c)) ((dC rfl).trans (if_pos (.inr rfl))) (.fin (ra:=(rb.1,max (max k ra.2.1) rb.2.1,[])) (st:=[(a,k),(b,k)]) (by nofun) rfl rfl rfl rfl rfl)))
 rwa [aao] at this
end
theorem vx{s:Str}(h:z.cps.toList[k]?=some c):iR (.signs s) z k=if c∈s.cps.toList then some 1 else none:=by
 unfold iR;rw[uo h];by_cases a:c∈s.cps.toList
 ·rw[if_pos a,if_pos a];rfl
 ·rw[if_neg a,if_neg a]
theorem zY{s:Str}(h:z.length<=k):iR (.signs s) z k=none:=by
 unfold iR;rw[oA (List.getElem?_eq_none (by have:=aO z;nofun))]
abbrev cF(c:Nat):Str:=⟨#[c]⟩
inductive cb:Ct
 |mk {b0 b1 b2:Int} (n:Int) {ws:List Nat} {P:Pk} (h1:ws.Nodup) (h2:∀c∈ws,c∈fM.cps.toList) (h3:ws.length<=30) (hb:WellB b1 b2 n) (hn:n<2 ^ 37) (h:∀(c:Nat) (b0' b1' b2':Int),c∈fM.cps.toList->c∉ws->WellB b1' b2' (n+1)->P (.fz (.str (cF c))) [cj b0' b1' b2',.fl ((ws.map cF).map .str)]):cb [cj b0 b1 b2,.fl ((ws.map cF).map .str)] P
abbrev vy:Stmt:=top 67
abbrev FC:FS:=
  (ak (bX (fC (.str " !\"#$&'()*+,-./0123456789:;<=>?\x40ABCDEFGHIJKLMNOPQRSTUVWXYZ[\\]^_`abcdefghijklmnopqrstuvwxyz{|}~")) (ac 2))
  (bc (fOp aIx (bI [1] 1 (xx (ab 2)) (ac 0) (au (fOp lh (ab 0) (ab 2))) (ab 0)) (ag al (aa (ab 0) (aa (fFz (fOp (aI0 λi j=>.int (i - j)) (fC (.int 94)) (fCB eY (aa (ab 1) ae)))) ae))))))
theorem zZ:fM.cps.toList.Nodup:=by decide +kernel
theorem qL{a L:List Nat}(hw:a.Nodup)(d:L.Nodup)(hs:∀c∈a,c∈L):(L.filter λc=>decide (c∉a)).length=L.length - a.length:=by
 have h1:(L.filter λc=>decide (c∈a)).length=a.length:=by
  refine Nat.le_antisymm (aat (d.filter _) λc b=>of_decide_eq_true (abM.mp b).2) (aat hw λc b=>abM.mpr ⟨hs c b,decide_eq_true b⟩)
 have h2:=List.length_eq_countP_add_countP (λc=>decide (c∈a)) (l:=L);rw[List.countP_eq_length_filter,List.countP_eq_length_filter,h1] at h2;have e:(L.filter λc=>decide (¬decide (c∈a)=true))=L.filter λc=>decide (c∉a):=List.filter_congr λc _=>by by_cases h:c∈a <;> simp[h]
 rw[e] at h2;nofun
theorem FD:Hh cb FC [0,1] 3:=by
 intro os P h;obtain@⟨t,b1,b2,n,a,_,o,b,hl,A,E,q⟩:=h;have sz:=du
 have f:∀c,cF c∈a.map cF↔c∈a:=λc=>by
  rw[abE];exact⟨fun⟨d,hd,e⟩=>by cases e;exact hd,λh=>⟨c,h,rfl⟩⟩
 have g:=qL o zZ b;rw[lu] at g;ext;refine aE (λi as ρ=>∃(x:Option OV),as=(((fM.cps.toList.take i).filter λc=>decide (c∉a)).map cF).map .str/\ρ=[x,some (cj t b1 b2),some (.fl ((a.map cF).map .str)),some (.fz (.str fM))]) ⟨none,rfl,rfl⟩ ?_ ?_
 ·rintro i d as ρ R hd ⟨x,rfl,rfl⟩ u
  obtain⟨c,k,rfl⟩:∃c,fM.cps.toList[i]?=some c/\d=.str (cF c):=by
   have j:(fM.cps.toList.map λc=>D.str ⟨#[c]⟩)[i]?=some d:=hd;rw[List.getElem?_map,aaj] at j;obtain⟨r,h1,h2⟩:=j;exact⟨r,h1,h2.symm⟩
  have p:=aaO (λc=>decide (c∉a)) (fM.cps.toList.take i);rw[abD,lu] at p;ext;refine⟨⟨rfl,oh _⟩,?_⟩;ext;refine aq (c∉a) (by rw[aaT,abT,Ne,eN,f]) (λhp=>?_) (λhp=>?_)
  ·ext;refine⟨by rw[abz,abz];nofun,u _ _ ⟨_,?_,rfl⟩⟩;rw[aam,k,aaE,aad,aad];simp[hp]
  ·refine u _ _ ⟨_,?_,rfl⟩;rw[aam,k,aaE,aad,aad];have m:=Classical.not_not.mp hp;simp[m]
 ·rintro as ρ ⟨x,rfl,rfl⟩;rw[show (fK (Str.ofString " !\"#$&'()*+,-./0123456789:;<=>?\x40ABCDEFGHIJKLMNOPQRSTUVWXYZ[\\]^_`abcdefghijklmnopqrstuvwxyz{|}~")).length=fM.cps.toList.length from abz ..,aah (aac _)];generalize B:(fM.cps.toList.filter λc=>decide (c∉a))=L at g;ext;rw[abz,abz];refine bC _ A (by nofun) (by nofun) (by nofun) λr t b1 b2 v C s=>?_;ext;refine j4 v (by rw[abz,abz];nofun) λe he=>?_;obtain⟨z,l,rfl⟩:=abE.mp he;obtain⟨c,k,rfl⟩:=abE.mp l;rw[← B] at k;obtain⟨y,w⟩:=abM.mp k;ext;exact q c t b1 b2 y (of_decide_eq_true w) s
def atS(t s:Str)(k:Nat):Prop:=∃c,t.cps.toList[k]?=some c/\c∈s.cps.toList
section
variable {s:Str} 
theorem fR(h:atS t s k):iR (.signs s) t k=some 1:=by
 obtain⟨c,h1,h2⟩:=h;rw[vx h1,if_pos h2]
theorem iF(h:¬atS t s k):iR (.signs s) t k=none:=by
 cases e:t.cps.toList[k]? with
 |none=>exact zY (by have:=aO t;have:=List.getElem?_eq_none_iff.mp e;nofun)
 |some c=>rw[vx e,if_neg λz=>h ⟨c,e,z⟩]
end
theorem jE:∀{more rows:List Rw},((rows++more).map (·.1)).Nodup->eV ((rows.map (·.1)).map Sum.inr,rows.map λr=>aH r.2.1 r.2.2) (more.map λr=>(Sum.inr r.1,aH r.2.1 r.2.2))=(((rows++more).map (·.1)).map Sum.inr,(rows++more).map λr=>aH r.2.1 r.2.2)
 |[],rows,_=>by rw[aao];rfl
 | r::more,rows,nd=>by
  have e:rows++r::more=(rows++[r])++more:=by rw[aap];rfl
  have a:r.1∉rows.map (·.1):=λh=>by
   rw[aad,abC] at nd;exact(abN.mp nd).2.2 _ h _ (aab ..) rfl
  rw[e] at nd ⊢;rw[← jE nd];show eV (gq ((rows.map (·.1)).map Sum.inr) (rows.map λr=>aH r.2.1 r.2.2) (.inr r.1) (aH r.2.1 r.2.2)) _=_;rw[o7 a,aad,aad,aad];rfl
theorem ni{more:List Rw}(nd:(more.map (·.1)).Nodup):eV ([],[]) (more.map λr=>(Sum.inr r.1,aH r.2.1 r.2.2))=((more.map (·.1)).map Sum.inr,more.map λr=>aH r.2.1 r.2.2):=jE (rows:=[]) nd
theorem qM(nd:(rows.map (·.1)).Nodup){r:Rw}(hr:r∈rows):fA (az rows) r.1=rlR r.2.1 r.2.2:=by
 rw[nc nd];obtain⟨r',a,b,e⟩:=cY (rows:=rows) (n:=r.1) (abE.mpr ⟨r,hr,rfl⟩);rw[e,lK nd hr a b]
def bh(s:Str):List Str->List Rw
 |[]=>[]
 |[x]=>[(x, "signs", [s])]
 |x::y::r=>(x, "row", [y])::bh s (y::r)
theorem ck{s:Str}:∀l:List Str,(bh s l).map (·.1)=l
 |[]=>rfl
 |[_]=>rfl
 |x::y::r=>by rw[bh,abC,ck (y::r)]
def kq:List Str->Str->Nat
 |[],_=>0
 |y::r,x=>if x=y then r.length+1 else kq r x
theorem gv{s:Str}:∀(l:List Str),l.Nodup->∀r∈bh s l,∀p∈b6 r.2.1 r.2.2,p∈l/\kq l p<kq l r.1
 |[],_,r,hr,_,_=>nomatch hr
 | [x],_,r,hr,p,hp=>by
  rw[abG.mp hr] at hp;exact nomatch (show p∈[] from hp)
 | x::y::l,nd,r,hr,p,hp=>by
  obtain⟨d,b⟩:=abJ.mp nd;rw[bh] at hr;rcases abH.mp hr with rfl|a
  ·have g:p=y:=abG.mp (show p∈[y] from hp);have c:y≠x:=λe=>d (by rw[← e];exact aab ..);rw[g];refine⟨by simp,?_⟩;show kq (x::y::l) y<kq (x::y::l) x;simp[kq,c]
  ·obtain⟨h1,h2⟩:=gv (y::l) b r a p hp;have f:r.1∈y::l:=by rw[← ck (s:=s) (y::l)];exact abE.mpr ⟨r,a,rfl⟩
   refine⟨aae _ h1,?_⟩;show (if p=x then _ else kq (y::l) p)<(if r.1=x then _ else kq (y::l) r.1);rw[if_neg (show ¬p=x from λe=>d (e ▸ h1)),if_neg (show ¬r.1=x from λe=>d (e ▸ f))];exact h2
theorem iG{s:Str}(hs:im s):∀(l:List Str) (ns:List Str),(∀x∈l,x∈ns)->∀r∈bh s l,uh ns r.2.1 r.2.2
 |[],_,_,r,hr=>nomatch hr
 |[x],_,_,r,hr=>by rw[abG.mp hr];exact .inr (.inl ⟨rfl,s,rfl,hs⟩)
 | x::y::l,ns,c,r,hr=>by
  rw[bh] at hr;rcases abH.mp hr with rfl|b
  ·exact .inr (.inr (.inr ⟨.inl rfl,(by decide:(1:Nat)<=1),(by decide:(1:Nat)<=8),λz a=>by rw[abG.mp a];exact c y (by simp)⟩))
  ·exact iG hs (y::l) ns (λz a=>c z (aae _ a)) r b
theorem fB{R:Rls}{t s:Str}:∀(l:List Str) (x:Str),(∀r∈bh s (x::l),R r.1=rlR r.2.1 r.2.2)->PtG R t (2*l.length+1) (λb=>(iR (.signs s) t b,b,l)) x
 |[],x,h=>zT (h (x, "signs", [s]) (aab ..))
 | y::l,x,h=>by
  have a:=fB (t:=t) l y λr hr=>h r (by rw[bh];exact aae _ hr);intro b c;have h1:=(vv (y:=x) (h (x, "row", [y]) (by rw[bh];exact aab ..)) (a b c)).1;rw[show max b ((λb=>((iR (.signs s) t b,b,l):Rt)) b).2.1=b from Nat.max_self b] at h1;exact h1.mono (by rw[abI];nofun)
theorem qO(nd:(rows.map (·.1)).Nodup){rest:List Str}(hr:(x,("signs" : Str),rest)∈rows):¬Emp (az rows) x:=λh=>by
 have key:∀r∈az rows,r.1=x->r.2.1 = "signs" := λr h1 h2=>by
  rw[lK nd hr (cy h1) h2]
 generalize a:x=y at h
 cases h with
 | base h1 h2=>
  have:=key _ h1 a.symm;rw[this] at h2;unfold JO at h2
  revert h2
  decide +kernel
 |row h1 h2 _=>rw[key _ h1 a.symm] at h2;exact absurd h2 (by decide +kernel)
 |first h1 h2 _ _=>rw[key _ h1 a.symm] at h2;exact absurd h2 (by decide +kernel)
theorem pb :wf (.comp "row" ps) st=st:=by unfold wf;exact if_pos rfl
theorem gk :wf (.comp "first" ps) st=st.drop (st.length - 1):=by unfold wf;exact(if_neg (by decide +kernel)).trans (if_pos rfl)
section
variable  {s:Str} {c0 l:Nat}  {r:Rt} {ms:List Sp2}
theorem iH(b:c0<=c)(P:PtAt R t c0 x k r)(e:r.1=some l)(A:∀f,lB R t (c0+f) (x,k)=st)(a:wf (R x) st=ms):vb R t c x k l ms:=by
 obtain⟨ls,h1,_⟩:=P (c - c0);have h2:=A (c - c0);rw[Nat.add_sub_cancel' b] at h1 h2;exact⟨⟨_,h1,e⟩,by rw[h2];exact a⟩
theorem iI{lf:Leaf}(a:1<=c)(h:R x=.leaf lf)(e:iR lf t k=some l):vb R t c x k l []:=by
 obtain⟨ls,h1,_⟩:=iE (t:=t) (k:=k) h (c - 1);rw[Nat.add_sub_cancel' a] at h1;exact⟨⟨_,h1,e⟩,by rw[h];rfl⟩
abbrev tlR(n0 n1 n2 n3 n4 s:Str):List Rw:=[(n0, "first", [n1,n4]),(n1, "first", [n2]),(n4, "none", []),(n2, "row", [n3,n0]),(n3, "signs", [s])]
def iJ(n0 n1 n2 n3 n4:Str):Nat->Nat->Nat->List (Lv×Nat)
 |a,k,0=>[((a,n0,k),0),((a+1,n4,k),0)]
 |a,k,m+1=>((a,n0,k),m+1)::((a+1,n1,k),m+1)::((a+2,n2,k),m+1)::((a+3,n3,k),1)::iJ n0 n1 n2 n3 n4 (a+3) (k+1) m
theorem lW{n0 n1 n2 n3 n4:Str}:∀(m a k:Nat),(iJ n0 n1 n2 n3 n4 a k m).length=4*m+2
 |0,_,_=>rfl
 | m+1,a,k=>by
  unfold iJ;simp only[List.length_cons];rw[lW m];nofun
theorem FF(a:R n0=.comp "first" [n1,n4])(e:R n1=.comp "first" [n2])(d:R n2=.comp "row" [n3,n0])(b:R n3=.leaf (.signs s))(g:R n4=.leaf .none):∀m k,(∀i,i<m->atS t s (k+i))->¬atS t s (k+m) ->
  PtAt R t (12*m+12) n0 k (some m,k+m,[n1,n2,n3,n4])/\∀c,12*m+12<=c->∀(f:Nat) (rest:List Lv) (rows:List (Lv×Nat)),TrW R t c rest rows->TrW R t c ((f,n0,k)::rest) (iJ n0 n1 n2 n3 n4 f k m++rows):=by
 intro m
 induction m with
 | zero=>
  intro k _ h;have n:=iF h;have P3:=iE (t:=t) (k:=k) b;have o:=(zU d P3 n).1;have p:=(o9 e o).1;have z:=iE (t:=t) (k:=k) g;obtain⟨u,y⟩:=zX a p rfl (z.mono (by nofun));have q:=u.same (L:=[n1,n2,n3,n4]) λv=>by simp only[List.mem_cons,List.mem_append,List.not_mem_nil,or_false,or_assoc]
  refine⟨?_,λc x f rest rows T=>?_⟩
  ·have j:PtAt R t (1+2+2+3) n0 k (some 0,max (max k (max k (max k k))) k,[n1,n2,n3,n4]):=q;rw[show max (max k (max k (max k k))) k=k+0 by nofun] at j;exact j.mono (by nofun)
  ·exact .cons (ms:=[(n4,k)]) (iH (c0:=1+2+2+3) (by nofun) u rfl y (by rw[a];exact gk)) (.cons (ms:=[]) (iI (by nofun) g rfl) T)
 | succ m w=>
  intro k h1 h2;obtain⟨B,A⟩:=w (k+1) (λi hi=>by have:=h1 (i+1) (by nofun);rwa [show k+(i+1)=k+1+i by nofun] at this) (by rwa [show k+1+m=k+(m+1) by nofun]);have n:=fR (h1 0 (by nofun));have P3:=iE (t:=t) (k:=k) b;obtain⟨o,C⟩:=zV d (P3.mono (c':=12*m+12) (by nofun)) n B;obtain⟨p,D⟩:=o9 e o;obtain⟨r,E⟩:=zW (l:=1+m) a p rfl;have q:=r.same (L:=[n1,n2,n3,n4]) λv=>by simp only[List.mem_cons,List.mem_append,List.not_mem_nil,or_false];grind
  refine⟨?_,λc x f rest rows T=>?_⟩
  ·have j:PtAt R t (12*m+12+3+2+2) n0 k (some (1+m),max k (max k (max (max k k) (k+1+m))),[n1,n2,n3,n4]):=q;rw[show max k (max k (max (max k k) (k+1+m)))=k+(m+1) by nofun,ab3 1 m] at j;exact j.mono (by nofun)
  ·rw[ab3 1 m] at r;refine .cons (ms:=[(n1,k)]) (iH (by nofun) r rfl E (by rw[a];exact gk)) ?_;refine .cons (ms:=[(n2,k)]) (iH (by nofun) p (congrArg some (ab3 1 m)) D (by rw[e];exact gk)) ?_;refine .cons (ms:=[(n3,k),(n0,k+1)]) (iH (by nofun) o (congrArg some (ab3 1 m)) C (by rw[d];exact pb)) ?_;exact .cons (ms:=[]) (iI (by nofun) b n) (A c (by nofun) (f+3) rest rows T)
def eW(k:Nat):Nat->List Str->List (Lv×Nat)
 |_,[]=>[]
 |a,x::l=>((a,x,k),1)::eW k (a+1) l
theorem pc(h:atS t s k)(e:k<=t.length):∀(l:List Str) (x:Str) (a c:Nat),(∀r∈bh s (x::l),R r.1=rlR r.2.1 r.2.2)->2*l.length+1<=c->∀(rest:List Lv) (rows:List (Lv×Nat)),TrW R t c rest rows->TrW R t c ((a,x,k)::rest) (eW k a (x::l)++rows)
 |[],x,a,c,hr,f,rest,rows,T=>.cons (ms:=[]) (iI (by nofun) (hr (x, "signs", [s]) (aab ..)) (fR h)) T
 | y::l,x,a,c,hr,f,rest,rows,T=>by
  rw[abI] at f;have b:∀r∈bh s (y::l),R r.1=rlR r.2.1 r.2.2:=λr h=>hr r (by rw[bh];exact aae _ h);have d:=hr (x, "row", [y]) (by rw[bh];exact aab ..);obtain⟨P,A⟩:=vv (y:=x) d (fB (t:=t) l y b k e);exact .cons (ms:=[(y,k)]) (iH (by nofun) P (fR h) A (by rw[show R x=.comp "row" [y] from d];exact pb)) (pc h e l y (a+1) c b (by nofun) rest rows T)
end
abbrev nsD(ns:List Str):OV:=.fz (.lst (ns.map .str))
inductive c6:Ct
 |mk {n0 n1 n2 n3 n4:Str} {p m:Nat} {P:Pk} (hp:p<=1000) (hm:m<=1000) (h:P (.fl ((iJ n0 n1 n2 n3 n4 0 p m).map cB)) [nsD [n0,n1,n2,n3,n4],.fz (.int p),.fz (.int m)]):c6 [nsD [n0,n1,n2,n3,n4],.fz (.int p),.fz (.int m)] P
abbrev vz:Stmt:=top 68
abbrev FH:FS:=
  (ak (cq 3 (iZ ae))
  (ak (p9 (dS (aa (ab 2) ae)) (ac 4)
   (ak (p9 (dS (aa (fC (.int 3)) ae)) (ac 5)
   (bQ (wd 3 (fw (aa (fOp cL (fOp (aIC CMul λi j=>.int (i*j)) (fC (.int 3)) (ab 4)) (ab 5)) (aa (fOp aIx (ab 0) (ab 5)) (aa (fOp cL (ab 1) (ab 4)) (aa (fOp (aI0 λi j=>.int (i - j)) (ab 2) (ab 4)) ae))))))))
  (bQ (wd 3 (fw (aa (fOp cL (fOp (aIC CMul λi j=>.int (i*j)) (fC (.int 3)) (ab 4)) (fC (.int 3))) (aa (fOp aIx (ab 0) (fC (.int 3))) (aa (fOp cL (ab 1) (ab 4)) (aa (fC (.int 1)) ae)))))))))
  (bc (fOp cL (ab 3) (iZ (aa (fw (aa (fOp (aIC CMul λi j=>.int (i*j)) (fC (.int 3)) (ab 2)) (aa (fOp aIx (ab 0) (fC (.int 0))) (aa (fOp cL (ab 1) (ab 2)) (aa (fC (.int 0)) ae))))) (aa (fw (aa (fOp cL (fOp (aIC CMul λi j=>.int (i*j)) (fC (.int 3)) (ab 2)) (fC (.int 1))) (aa (fOp aIx (ab 0) (fC (.int 4))) (aa (fOp cL (ab 1) (ab 2)) (aa (fC (.int 0)) ae))))) ae)))))))
theorem cm(i:Nat)(h:i<=1000):CMul 3 (0+(i:Int)):=.inl (by decide)
theorem FJ:Hh c6 FH [] 6:=by
 intro os P h;obtain@⟨n0,n1,n2,n3,n4,p,m,_,hp,w,q⟩:=h;have sz:=sizeLine_eq;ext;refine⟨aan _,?_⟩;ext;refine⟨⟨by nofun,by nofun⟩,?_⟩;ext;refine bP (λi ρ=>∃(acc:List (Lv×Nat)) (l k:Option OV),acc++iJ n0 n1 n2 n3 n4 (3*i) (p+i) (m - i)=iJ n0 n1 n2 n3 n4 0 p m/\i<=m/\acc.length=4*i/\ρ=[some (nsD [n0,n1,n2,n3,n4]),some (.fz (.int p)),some (.fz (.int m)),some (.fl (acc.map cB)),l,k]) ⟨[],none,none,rfl,aan _,rfl,rfl⟩ ?_ ?_
 ·rintro i d ρ R hd ⟨acc,l,k,a,r,c,rfl⟩ u;obtain⟨hi,rfl⟩:=bo hd;have s:i<m:=by nofun
  obtain⟨b,n⟩:∃b,m - i=b+1:=⟨m - i - 1,by nofun⟩;rw[n] at a;ext;refine⟨⟨by decide,by decide⟩,?_⟩;ext;have z:acc.map cB++([]:List D)=acc.map cB:=aao _;refine bP (λj ρ=>∃g:Option OV,ρ=[some (nsD [n0,n1,n2,n3,n4]),some (.fz (.int p)),some (.fz (.int m)),some (.fl (acc.map cB++([((3*i,n0,p+i),b+1),((3*i+1,n1,p+i),b+1),((3*i+2,n2,p+i),b+1)].take j).map cB)),some (.fz (.int (0+(i:Int)))),g]) ⟨k,by rw[List.take_zero,ab4,aao]⟩ ?_ ?_
  ·rintro j d ρ A hd ⟨g,rfl⟩ f;obtain⟨y,rfl⟩:=bo hd;ext;refine⟨rfl,?_⟩;ext;refine⟨cm i (by nofun),?_⟩
   have e:∀(j:Nat) (x:Str),D.tup [.int (3*(0+(i:Int))+(0+(j:Int))),.str x,.int ((p:Int)+(0+(i:Int))),.int ((m:Int) - (0+(i:Int)))]=cB ((3*i+j,x,p+i),b+1):=λj x=>by
    rw[show 3*(0+(i:Int))+(0+(j:Int))=((3*i+j:Nat):Int) by nofun,show (p:Int)+(0+(i:Int))=((p+i:Nat):Int) by nofun,show (m:Int) - (0+(i:Int))=((b+1:Nat):Int) by nofun]
   have o:j=0∨j=1∨j=2:=by nofun
   rcases o with rfl|rfl|rfl
   ·ext;refine⟨lez 4,?_⟩;ext;refine⟨by rw[abB,abz];show acc.length+0<sizeLine;nofun,f _ ⟨some (.fz (.int (0+((0:Nat):Int)))),?_⟩⟩
    erw [e 0 n0,aap]
    rfl
   ·ext;refine⟨lez 4,?_⟩;ext;refine⟨by rw[abB,abz];show acc.length+1<sizeLine;nofun,f _ ⟨some (.fz (.int (0+((1:Nat):Int)))),?_⟩⟩
    erw [e 1 n1,aap]
    rfl
   ·ext;refine⟨lez 4,?_⟩;ext;refine⟨by rw[abB,abz];show acc.length+2<sizeLine;nofun,f _ ⟨some (.fz (.int (0+((2:Nat):Int)))),?_⟩⟩
    erw [e 2 n2,aap]
    rfl
  ·rintro ρ ⟨g,rfl⟩;ext;refine⟨rfl,?_⟩;ext;refine⟨cm i (by nofun),?_⟩;ext;refine⟨lez 4,?_⟩;ext;refine⟨by rw[abB,abz];show acc.length+3<sizeLine;nofun,u _ ⟨acc++[((3*i,n0,p+i),b+1),((3*i+1,n1,p+i),b+1),((3*i+2,n2,p+i),b+1),((3*i+3,n3,p+i),1)],some (.fz (.int (0+(i:Int)))),g,?_,s,by rw[abB,c];rfl,?_⟩⟩
   ·rw[← a,aap,show m - (i+1)=b by nofun];rfl
   ·rw[aad,show 3*(0+(i:Int))+3=((3*i+3:Nat):Int) by nofun,show (p:Int)+(0+(i:Int))=((p+i:Nat):Int) by nofun]
    erw [aap]
    rfl
 ·rintro ρ ⟨acc,l,k,a,r,c,rfl⟩;rw[bF] at a c;ext;refine⟨.inl (by decide),?_⟩;ext;refine⟨lez 4,?_⟩;ext;refine⟨.inl (by decide),?_⟩;ext;refine⟨lez 4,?_⟩;ext;refine⟨lez 2,?_⟩;ext;have v:(m:Int).toNat=m:=Int.toNat_natCast m;rw[v] at a c;refine⟨by rw[abz];show acc.length+2<=sizeLine;nofun,?_⟩;ext;rw[Nat.sub_self] at a;rw[← a,aad] at q;have t:P (.fl (acc.map cB++[.tup [.int ((3*m:Nat):Int),.str n0,.int ((p+m:Nat):Int),.int ((0:Nat):Int)],.tup [.int ((3*m+1:Nat):Int),.str n4,.int ((p+m:Nat):Int),.int ((0:Nat):Int)]])) [nsD [n0,n1,n2,n3,n4],.fz (.int p),.fz (.int m)]:=q;rw[show ((3*m:Nat):Int)=3*(m:Int) by nofun,show ((3*m+1:Nat):Int)=3*(m:Int)+1 by nofun,show ((p+m:Nat):Int)=(p:Int)+(m:Int) by nofun] at t;exact t
inductive c7:Ct
 |mk {n0 n1 n2 n3 n4 s:Str} {P:Pk} (nd:([n0,n1,n2,n3,n4]:List Str).Nodup) (h:P (b7 (tlR n0 n1 n2 n3 n4 s)) [nsD [n0,n1,n2,n3,n4],.fz (aH "signs" [s])]):c7 [nsD [n0,n1,n2,n3,n4],.fz (aH "signs" [s])] P
abbrev vA:Stmt:=top 69
abbrev FK:FS:=
  (ak (cq 2 (AX (oy (fOp aIx (ab 0) (fC (.int 0))) (fw (aa (fC (.str "first")) (aa (fOp aIx (ab 0) (fC (.int 1))) (aa (fOp aIx (ab 0) (fC (.int 4))) ae)))) (oy (fOp aIx (ab 0) (fC (.int 1))) (fw (aa (fC (.str "first")) (aa (fOp aIx (ab 0) (fC (.int 2))) ae))) (oy (fOp aIx (ab 0) (fC (.int 4))) (fw (aa (fC (.str "none")) ae)) JA)))))
  (ak (qd 2 (fw (aa (fC (.str "row")) (aa (fOp aIx (ab 0) (fC (.int 3))) (aa (fOp aIx (ab 0) (fC (.int 0))) ae)))) (fOp aIx (ab 0) (fC (.int 2))))
  (ak (qd 2 (ab 1) (fOp aIx (ab 0) (fC (.int 3))))
  (bc (ab 2)))))
theorem FL:Hh c7 FK [] 3:=by
 intro os P h;obtain@⟨n0,n1,n2,n3,n4,s,_,nd,q⟩:=h;have sz:=sizeLine_eq;have c:=ni (more:=[(n0, "first", [n1,n4]),(n1, "first", [n2]),(n4, "none", [])]) (by simp at nd ⊢;grind);have b:=iA (rows:=[(n0, "first", [n1,n4]),(n1, "first", [n2]),(n4, "none", [])]) (y:=n2) (w := "row") (rest:=[n3,n0]) (by simp at nd ⊢;grind);have a:=iA (rows:=[(n0, "first", [n1,n4]),(n1, "first", [n2]),(n4, "none", []),(n2, "row", [n3,n0])]) (y:=n3) (w := "signs") (rest:=[s]) (by simp at nd ⊢;grind);ext;refine⟨lez 3,?_⟩;ext;refine⟨lez 2,?_⟩;ext;refine⟨lez 1,?_⟩;ext;refine⟨(by decide:(3:Nat)<=15),?_⟩
 erw [show eV ([],[]) _=_ from c]
 ext;refine⟨lez 3,?_⟩;ext;refine⟨rfl,?_⟩;ext;refine⟨by show 3<sizeLine;nofun,?_⟩
 erw [← b]
 ext;refine⟨rfl,?_⟩;ext;refine⟨by show 4<sizeLine;nofun,?_⟩
 erw [← a]
 ext;exact q
abbrev rwT(y w:Str)(ps:List Str):Rw:=(y,w,ps)
theorem lX{s:Str}:∀(l:List Str) (i:Nat) (a b:Str),l[i]?=some a->l[i+1]?=some b->(bh s l)[i]?=some (rwT a "row" [b])
 |x::y::l,0,a,b,h1,h2=>by cases h1;cases h2;rfl
 |x::y::l,i+1,a,b,h1,h2=>lX (y::l) i a b h1 h2
 |[],i,a,b,h1,_=>by cases h1
 |[x],i,a,b,_,h2=>by cases i <;> cases h2
theorem iK{s:Str}:∀(l:List Str) (z:Str),(bh s (l++[z]))[l.length]?=some (rwT z "signs" [s])
 |[],z=>rfl
 |[x],z=>rfl
 |x::y::l,z=>iK (y::l) z
theorem iL{s:Str}:((bh s ns).take i).map (·.1)=ns.take i:=by rw[List.map_take,ck]
abbrev chR(s:Str)(l:List Str)(z:Str):List Rw:=(z, "signs", [s])::(bh s (l++[z])).take l.length
inductive cG:Ct
 |mk {l:List Str} {z s:Str} {P:Pk} (hl:l.length<=29) (nd:(l++[z]).Nodup) (h:P (b7 (chR s l z)) [nsD (l++[z]),.fz (aH "signs" [s])]):cG [nsD (l++[z]),.fz (aH "signs" [s])] P
abbrev pd:Stmt:=top 70
abbrev Aa:FS:=
  (ak (cq 2 (t7 (fOp aIx (ab 0) (KY (fC (.int 1)))) (ab 1)))
  (ak (p9 (dS (aa (fOp (aI0 λi j=>.int (i - j)) (fCB eY (aa (ab 0) ae)) (fC (.int 1))) ae)) (ac 3)
   (qd 2 (fw (aa (fC (.str "row")) (aa (fOp aIx (ab 0) (fOp cL (ab 3) (fC (.int 1)))) ae))) (fOp aIx (ab 0) (ab 3))))
  (bc (ab 2))))
theorem Ab:Hh cG Aa [] 4:=by
 intro os P h;obtain@⟨l,z,s,_,hl,nd,q⟩:=h;have sz:=sizeLine_eq;have v:atI ((l++[z]).map D.str) (-1)=some (.str z):=by rw[aad];exact nH _ _
 have t:(l++[z]).length=l.length+1:=by rw[abB];rfl
 ext;rw[v];ext;rw[abz];refine⟨⟨by nofun,by nofun⟩,?_⟩;ext;refine bP (λi ρ=>∃(k:Option OV),ρ=[some (nsD (l++[z])),some (.fz (aH "signs" [s])),some (b7 ((z, "signs", [s])::(bh s (l++[z])).take i)),k]) ⟨none,rfl⟩ ?_ ?_
 ·rintro i d ρ R hd ⟨k,rfl⟩ r;obtain⟨hi,rfl⟩:=bo hd;have m:i<l.length:=by nofun
  obtain⟨a,g⟩:∃a,(l++[z])[i]?=some a:=⟨_,List.getElem?_eq_getElem (by nofun)⟩;obtain⟨b,p⟩:∃b,(l++[z])[i+1]?=some b:=⟨_,List.getElem?_eq_getElem (by nofun)⟩;have x:atI ((l++[z]).map D.str) (0+(i:Int))=some (.str a):=by rw[ab6];exact cn (by rw[List.getElem?_map,g];rfl)
  have w:atI ((l++[z]).map D.str) (0+(i:Int)+1)=some (.str b):=by rw[ab6];exact cn (j:=i+1) (by rw[List.getElem?_map,p];rfl)
  have c:=lX (s:=s) _ i a b g p;have o:=(List.getElem?_eq_some_iff.mp g).2
  have n:a∈l:=by
   rw[List.getElem?_append_left m] at g;exact List.mem_of_getElem? g
  have f:a∉(((z,("signs" : Str),[s]):Rw)::(bh s (l++[z])).take i).map (·.1):=by
   rw[abC,iL,abH];rintro (h|h)
   ·exact(abN.mp nd).2.2 a n z (by simp) h
   ·obtain⟨j,u,e⟩:=List.mem_iff_getElem.mp h;rw[abD] at u;rw[List.getElem_take] at e;exact abW.mp nd j i (by nofun) (by nofun) (by nofun) (e.trans o.symm)
  ext;rw[w];ext;refine⟨lez 2,?_⟩;ext;refine⟨rfl,?_⟩;ext;rw[x];ext;refine⟨by rw[abz,abz,abI,abD];nofun,?_⟩;refine r _ ⟨some (.fz (.int (0+(i:Int)))),?_⟩;rw[aam,c];show _=[_,_,some (b7 ((((z,("signs" : Str),[s]):Rw)::(bh s (l++[z])).take i)++[rwT a "row" [b]])),_];rw[iA f];rfl
 ·rintro ρ ⟨k,rfl⟩;rw[bF,show (((l++[z]).length:Int) - 1).toNat=l.length by nofun];ext;exact q
structure MadeOk(rows:List Rw):Prop where
 nd:(rows.map (·.1)).Nodup
 few:rows.length<=30
 bk:BookR (az rows)
def Gp(rows:List Rw)(t n0:Str)(p:Nat)(ln:Option Nat)(far:Nat)(tr:List (Lv×Nat)):Prop:=
 ∃f r,f<sizeLine/\rdF (fA (az rows)) t f n0 p=some r/\r.ln=ln/\r.far=far/\bv r.ls=bv (rows.map (·.1))/\(ln≠none->TrW (fA (az rows)) t f [(0,n0,p)] tr)
theorem rO{p:Nat}{r:Rt}(e:c<sizeLine)(P:PtAt (fA (az rows)) t c n0 p r)(b:(rows.map (·.1)).Nodup)(d:∀v,v∈rows.map (·.1)↔v=n0∨v∈r.2.2)(T:r.1≠none->TrW (fA (az rows)) t c [(0,n0,p)] tr):Gp rows t n0 p r.1 r.2.1 tr:=by
 obtain⟨ls,g1,g2⟩:=P 0;have a:ls.Nodup:=Kh _ _ _ _ _ g1 (by simp);exact⟨c,_,e,g1,rfl,rfl,(qK b a λv=>by rw[g2,d]).symm,T⟩
section
variable {s:Str} {p:Nat}
theorem vB(nd:([n0,n1,n2,n3,n4]:List Str).Nodup)(g:∀z∈[n0,n1,n2,n3,n4],cr z)(hs:im s):MadeOk (tlR n0 n1 n2 n3 n4 s):=by
 have hd:=nd;simp only[List.nodup_cons,List.mem_cons,List.not_mem_nil,or_false,not_or,List.nodup_nil,and_true,not_false_eq_true] at hd;obtain⟨⟨f,e,o,n⟩,⟨d,m,l⟩,⟨k,j⟩,q⟩:=hd
 have b:((tlR n0 n1 n2 n3 n4 s).map (·.1)).Nodup:=by
  show [n0,n1,n4,n2,n3].Nodup;simp only[List.nodup_cons,List.mem_cons,List.not_mem_nil,or_false,not_or,List.nodup_nil,and_true,not_false_eq_true];exact⟨⟨f,n,e,o⟩,⟨l,d,m⟩,⟨Ne.symm j,Ne.symm q⟩,k⟩
 refine⟨b,by show 5<=30;decide,gu (pool:=[n0,n1,n2,n3,n4]) (rank:=λx=>if x=n0 then 3 else if x=n1 then 2 else if x=n2 then 1 else 0) ⟨b,λr hr=>?_,by show 5<=30;decide,g,by show 5<=45;decide,λzs c r hr x i=>?_⟩⟩
 ·simp only[List.mem_cons,List.not_mem_nil,or_false] at hr;rcases hr with rfl|rfl|rfl|rfl|rfl
  ·exact⟨g _ (by simp),.inr (.inr (.inr ⟨.inr rfl,(by decide:(1:Nat)<=2),(by decide:(2:Nat)<=8),λz c=>by simp only[List.mem_cons,List.not_mem_nil,or_false] at c ⊢;grind⟩))⟩
  ·exact⟨g _ (by simp),.inr (.inr (.inr ⟨.inr rfl,(by decide:(1:Nat)<=1),(by decide:(1:Nat)<=8),λz c=>by rw[List.mem_singleton.mp c];simp⟩))⟩
  ·exact⟨g _ (by simp),.inl ⟨.inl rfl,rfl⟩⟩
  ·exact⟨g _ (by simp),.inr (.inr (.inr ⟨.inl rfl,(by decide:(1:Nat)<=2),(by decide:(2:Nat)<=8),λz c=>by simp only[List.mem_cons,List.not_mem_nil,or_false] at c ⊢;grind⟩))⟩
  ·exact⟨g _ (by simp),.inr (.inl ⟨rfl,s,rfl,hs⟩)⟩
 ·have p:n3∉zs:=λh=>qO b (x:=n3) (rest:=[s]) (by simp) ((c n3).mp h);simp only[List.mem_cons,List.not_mem_nil,or_false] at hr;rcases hr with rfl|rfl|rfl|rfl|rfl
  ·have a:x=n1∨x=n4:=by simpa using (show x∈[n1,n4] from cZ i)
   rcases a with rfl|rfl
   ·simp[Ne.symm f]
   ·simp[Ne.symm n,Ne.symm l,Ne.symm j]
  ·rw[abG.mp (show x∈[n2] from cZ i)];simp[Ne.symm f,Ne.symm e,Ne.symm d]
  ·exact nomatch (show x∈[] from cZ i)
  ·have a:x∈ki zs [n3,n0]:=i;rw[ki,if_neg p] at a;rw[abG.mp a];simp[Ne.symm e,Ne.symm d,Ne.symm o,Ne.symm m,Ne.symm k]
  ·exact nomatch (show x∈[] from cZ i)
theorem nj(M:MadeOk (tlR n0 n1 n2 n3 n4 s))(a:m<=1000)(h1:∀i,i<m->atS t s (p+i))(h2:¬atS t s (p+m)):Gp (tlR n0 n1 n2 n3 n4 s) t n0 p (some m) (p+m) (iJ n0 n1 n2 n3 n4 0 p m):=by
 have sz:=sizeLine_eq;obtain⟨P,T⟩:=FF (qM M.nd (r:=(n0, "first", [n1,n4])) (by simp)) (qM M.nd (r:=(n1, "first", [n2])) (by simp)) (qM M.nd (r:=(n2, "row", [n3,n0])) (by simp)) (qM M.nd (r:=(n3, "signs", [s])) (by simp)) (qM M.nd (r:=(n4, "none", [])) (by simp)) m p h1 h2;refine rO (by nofun) P M.nd (λv=>?_) λ_=>?_
 ·show v∈[n0,n1,n4,n2,n3]↔v=n0∨v∈[n1,n2,n3,n4];simp only[List.mem_cons,List.not_mem_nil,or_false];grind
 ·have:=T _ (aac _) 0 [] [] .nil
  rwa [aao] at this
end
section
variable {l:List Str} {s:Str} {p:Nat}
theorem FM:(bh s (l++[z])).take l.length++[rwT z "signs" [s]]=bh s (l++[z]):=by
 have a:(bh s (l++[z])).length=l.length+1:=by
  have:=congrArg List.length (ck (s:=s) (l++[z]))
  rwa [abz,abB] at this
 have:=aam (l:=bh s (l++[z])) (i:=l.length);rw[iK,aah (by nofun)] at this;exact this.symm
theorem nk{r:Rw}:r∈chR s l z↔r∈bh s (l++[z]):=by
 rw[← FM (s:=s) (l:=l) (z:=z),abA,abH,abG,or_comm]
theorem iM:(chR s l z).map (·.1)=z::l:=by
 rw[abC,iL,List.take_left]
theorem qP(nd:(l++[z]).Nodup)(hl:l.length<=29)(d:∀y∈l++[z],cr y)(hs:im s):MadeOk (chR s l z):=by
 have b:((chR s l z).map (·.1)).Nodup:=by
  rw[iM];exact(aaY (l₁:=l) (l₂:=[z])).nodup_iff.mp nd
 have a:(chR s l z).length<=30:=by
  have:=congrArg List.length (iM (s:=s) (l:=l) (z:=z));rw[abz] at this;rw[this,abI];nofun
 have f:(l++[z]).length=l.length+1:=by rw[abB];rfl
 refine⟨b,a,nb (pool:=l++[z]) (rank:=kq (l++[z])) ⟨b,λr hr=>?_,a,d,by nofun,λr hr y e=>(gv _ nd r (nk.mp hr) y e).2⟩⟩;have c:=nk.mp hr;exact⟨d _ (by rw[← ck (s:=s) (l++[z])];exact abE.mpr ⟨r,c,rfl⟩),iG hs _ _ (λ_ h=>h) r c⟩
theorem kr(M:MadeOk (chR s l z))(hl:l.length<=29)(hx:∃a,l++[z]=x::a)(hp:p<=t.length):Gp (chR s l z) t x p (iR (.signs s) t p) p (eW p 0 (l++[z])):=by
 have sz:=sizeLine_eq;obtain⟨a,e⟩:=hx;have b:∀r∈bh s (x::a),fA (az (chR s l z)) r.1=rlR r.2.1 r.2.2:=λr hr=>qM M.nd (nk.mpr (by rw[e];exact hr));have d:a.length<=29:=by have:=congrArg List.length e;simp at this;nofun
 refine rO (c:=2*a.length+1) (r:=(iR (.signs s) t p,p,a)) (by nofun) (fB a x b p hp) M.nd (λv=>?_) λh=>?_
 ·rw[iM];have h2:v∈l++[z]↔v∈x::a:=by rw[e]
  rw[abA,abG,abH] at h2;rw[abH,or_comm];exact h2
 ·have f:atS t s p:=Classical.byContradiction λy=>h (iF y);have:=pc (R:=fA (az (chR s l z))) f hp a x 0 (2*a.length+1) b (aac _) [] [] .nil;rw[aao] at this;rw[e];exact this
end
structure GoodOk(rows:List Rw)(t n0:Str)(p:Nat)(ln:Option Nat)(q:Nat)(u:Str)(e:Bool)(tr:List (Lv×Nat)):Prop where
 md:MadeOk rows
 nm:cr n0
 tx:kh t
 tl:t.length<=401
 hp:p<=t.length
 rd:Gp rows t n0 p ln (p+q) tr
 few:tr.length<=2000
 hu:c9 t (some (p:Int)) (some ((p+q+1:Nat):Int))=u
 he:decide (t.length<p+q+1)=e
 len:u.length+(if e=true then 1 else 0)=q+1
 ul:u.length<=401
 ut:kh u
 rdu:∃tr',Gp rows u n0 0 ln q tr'
def trD(ln:Option Nat)(tr:List (Lv×Nat)):D:=match ln with
 |none=>.non
 |some _=>.lst (tr.map cB)
theorem Ac(nd:(rows.map (·.1)).Nodup){r:Rw}(hr:r∈rows):fA rows r.1=rlR r.2.1 r.2.2:=by
 unfold fA
 cases h:rows.find? λs=>decide (s.1=r.1) with
 | none=>
  have:=List.find?_eq_none.mp h r hr;simp at this
 |some r'=>rw[lK nd hr (List.mem_of_find?_eq_some h) (by simpa using List.find?_some h)]
theorem qQ(B:BookL rows):((rows.map (·.1)).map λx=>D.tup [.str x,rlD (fA rows x)])=rows.map dN:=by
 rw[aau];refine aa3 λr hr=>?_;show D.tup [.str r.1,rlD (fA rows r.1)]=D.tup [.str r.1,aH r.2.1 r.2.2];rw[Ac B.nd hr,JW (B.ok r hr).2]
theorem Ad{p q:Nat}{e:Bool}(G:GoodOk rows t n0 p ln q u e tr)(h1:r.ln=ln)(h2:r.far=p+q)(a:bv r.ls=bv (rows.map (·.1))):o8 (fA (az rows)) n0 t p r=mf n0 ln ((q:Int)+1) u e (az rows):=by
 unfold o8;rw[a,← cO,qQ G.md.bk.b,h1,h2,show (((p+q:Nat):Int) - (p:Int)+1)=(q:Int)+1 by nofun,show (p:Int)+((q:Int)+1)=((p+q+1:Nat):Int) by nofun,G.hu]
 have b:decide ((t.length:Int)<((p+q+1:Nat):Int))=e:=by
  rw[← G.he];exact decide_eq_decide.mpr (by nofun)
 rw[b]
theorem iN:∀tr:List (Lv×Nat),okDs (tr.map cB)=true
 |[]=>rfl
 |_::tr=>abL.mpr ⟨rfl,iN tr⟩
theorem lY:∀tr:List (Lv×Nat),deps (toDVs (tr.map cB))<=1
 |[]=>aan _
 |_::tr=>Nat.max_le.mpr ⟨aac 1,lY tr⟩
theorem FN(ln:Option Nat)(tr:List (Lv×Nat)):tj (trD ln tr) (trD ln tr):=by
 cases ln with
 |none=>exact⟨rfl,rfl,aan _⟩
 |some _=>exact⟨iN tr,iN tr,aas (Nat.succ_le_succ (lY tr)) (by decide)⟩
theorem Ki(n:Str)(ln:Option Nat)(m:Int)(u:Str)(e:Bool)(rows:List Rw):tj (mf n ln m u e rows) (mf n ln m u e rows):=by
 have a:okD (cS ln)=true:=by cases ln <;> rfl
 have ok:okD (mf n ln m u e rows)=true:=by
  show okDs [.str n,cS ln,.int m,.str u,.bl e,cR rows]=true;exact abL.mpr ⟨rfl,abL.mpr ⟨a,abL.mpr ⟨rfl,abL.mpr ⟨rfl,abL.mpr ⟨rfl,abL.mpr ⟨iD rows,rfl⟩⟩⟩⟩⟩⟩
 have b:dep (v9 (cS ln))=0:=by cases ln <;> rfl
 have h1:=lU rows;refine⟨ok,ok,?_⟩;show max 0 (max (dep (v9 (cS ln))) (max 0 (max 0 (max 0 (max (deps (toDVs (rows.map dN))+1) 0)))))+1<=_;rw[b];refine aas (show _<=4 by nofun) (by decide)
inductive c8:Ct
 |mk {rows:List Rw} {t n0:Str} {ns:List Str} {p:Nat} {ln:Option Nat} {q:Nat} {u:Str} {e:Bool} {tr:List (Lv×Nat)} {P:Pk} (G:GoodOk rows t n0 p ln q u e tr) (h:P (.fz (.bl true)) [nsD (n0::ns),b7 rows,.fz (.str t),.fz (.int p),.fz (mf n0 ln ((q:Int)+1) u e (az rows)),.fz (trD ln tr)]):c8 [nsD (n0::ns),b7 rows,.fz (.str t),.fz (.int p),.fz (mf n0 ln ((q:Int)+1) u e (az rows)),.fz (trD ln tr)] P
abbrev Bp:Stmt:=top 71
abbrev Kj:FS:=
  (ak (bX (ag bj (aa (ab 1) ae)) (ac 6))
  (ak (bX (ag iB (aa (fFz (ab 6)) (aa (fFz (fOp aIx (ab 0) (fC (.int 0)))) (aa (fFz (ab 2)) (aa (fFz (ab 3)) ae))))) (ac 7))
  (ak (fIf (fOr (au (fOp aNe (ab 7) (ab 4))) (fOr (au (fOp Jz (ag bU (aa (fFz (ab 7)) ae)) (fC (.bl true)))) (au (fOp aNe (ab 6) (ag bj (aa (ab 1) ae))))))
   (bc (fC (.bl false)))
   aL)
  (bc (fOp aEq (ag lP (aa (fFz (ab 6)) (aa (fFz (fOp aIx (ab 0) (fC (.int 0)))) (aa (fFz (ab 2)) (aa (fFz (ab 3)) ae))))) (ab 5))))))
theorem Kk:Hh c8 Kj [1] 8:=by
 intro os P h;obtain@⟨rows,t,n0,ns,p,ln,q,u,e,tr,_,G,k⟩:=h;have sz:=sizeLine_eq;have n:=G.tl;have m:=G.ul;have A:AskR (az rows) n0 t p:=⟨G.md.bk,G.nm,G.tx,by nofun,G.hp⟩;have v:AskR (az rows) n0 u 0:=⟨G.md.bk,G.nm,G.ut,by nofun,aan _⟩;obtain⟨f,r,j,hr,h1,h2,s,o⟩:=G.rd;obtain⟨l,w,r',g,b,g1,g2,g3,_⟩:=G.rdu;ext;refine .mk G.md.nd G.md.few ?_;ext;refine bY ?_;ext;refine .mk A (by nofun) j hr ?_;rw[Ad G h1 h2 s];ext;refine av ?_;ext;refine⟨Ki _ _ _ _ _ _,?_⟩;ext;refine aq False ⟨(λy=>by rw[gK] at y;exact Bool.noConfusion y),False.elim⟩ False.elim (λ_=>?_);ext;refine jC v (by nofun) g b (by have:=G.len;split <;> simp_all <;> nofun) (λ_=>⟨by rw[g2],by rw[g3,cO],?_⟩) (λy=>absurd g1 y);ext;refine cJ ?_;ext;refine .mk G.md.nd G.md.few ?_;ext;refine⟨vo,?_⟩;ext;refine aq False ⟨(λy=>by rw[gK] at y;exact Bool.noConfusion y),False.elim⟩ False.elim (λ_=>?_);ext;refine bY ?_;ext
 have i:∀d,d=trD ln tr->tj d (trD ln tr)/\P (.fz (.bl (dEq d (trD ln tr)))) [nsD (n0::ns),b7 rows,.fz (.str t),.fz (.int p),.fz (mf n0 ln ((q:Int)+1) u e (az rows)),.fz (trD ln tr)]:=λd hd=>by
  subst hd;rw[gK];exact⟨FN ln tr,k⟩
 refine .mk A (by nofun) j hr (λa=>?_) (λa=>⟨tr,o (h1 ▸ a),G.few,?_⟩)
 ·ext;refine i _ ?_;rw[← h1,a];rfl
 ·ext;refine i _ ?_;rw[← h1]
  cases c:r.ln with
  |none=>exact absurd c a
  |some _=>rfl
theorem FQ{a b:Int}{i:Int}(c:0<=i)(h:i<2)(q:∀m,(m=a∨m=b)->Q (.int m)):match atI [D.int a,D.int b] i with
  |some d=>Q d
  | none=>False:=j4 c h fun d hd=>by
 simp only[List.mem_cons,List.not_mem_nil,or_false] at hd;rcases hd with rfl|rfl
 ·exact q a (.inl rfl)
 ·exact q b (.inr rfl)
theorem Kl{a b:Int}{i:Int}(c:0<=i)(h:i<2)(q:∀m,(i=0/\m=a∨i=1/\m=b)->Q (.int m)):match atI [D.int a,D.int b] i with
  |some d=>Q d
  | none=>False:=by
 have hi:i=0∨i=1:=by nofun
 rcases hi with rfl|rfl
 ·exact q a (.inl ⟨rfl,rfl⟩)
 ·exact q b (.inr ⟨rfl,rfl⟩)
structure TxOk(t s:Str)(w:List Nat)(o k:Nat):Prop where
 hl:t.cps.toList=w++List.replicate k o
 hw:∀c∈w,c∈s.cps.toList
 ho:o∉s.cps.toList
 hs:im s
 ok:32<=o/\o<=126/\o≠37
 n:w.length+k<=401
section
variable {s v:Str} {w:List Nat} {o p a:Nat}
theorem TxOk.len(T:TxOk t s w o k):t.length=w.length+k:=by rw[aO,T.hl,abB,aaG]
theorem TxOk.tx(T:TxOk t s w o k):kh t:=λc a=>by
 rw[T.hl] at a;rcases abA.mp a with h|h
 ·exact T.hs.2.2.2 c (T.hw c h)
 ·rw[List.eq_of_mem_replicate h];exact T.ok
theorem TxOk.yes(T:TxOk t s w o k)(h:j<w.length):atS t s j:=by
 refine⟨w[j],?_,T.hw _ (aaQ h)⟩;rw[T.hl,List.getElem?_append_left h,List.getElem?_eq_getElem h]
theorem TxOk.no(T:TxOk t s w o k)(h:w.length<=j):¬atS t s j:=fun⟨c,h1,h2⟩=>by
 rw[T.hl,List.getElem?_append_right h] at h1;rw[List.eq_of_mem_replicate (List.mem_of_getElem? h1)] at h2;exact T.ho h2
theorem vC(hp:p<=t.length):(c9 t (some (p:Int)) (some ((p+m:Nat):Int))).cps.toList=(t.cps.toList.drop p).take m:=by
 show (eQ t.cps.toList (some (p:Int)) (some ((p+m:Nat):Int))).toArray.toList=_;have hl:=aO t;rw[List.toList_toArray,xS,show min p t.cps.toList.length=p by nofun];refine List.ext_getElem? λi=>?_;by_cases h:i<min (p+m) t.cps.toList.length - p
 ·rw[List.getElem?_take_of_lt h,List.getElem?_take_of_lt (by nofun)]
 ·rw[List.getElem?_take_eq_none (by nofun)]
  symm
  rw[List.getElem?_eq_none_iff,abD,abU];nofun
theorem FR(hp:p<=t.length)(hu:c9 t (some (p:Int)) (some ((p+m:Nat):Int))=u)(hi:i<m):u.cps.toList[i]?=t.cps.toList[p+i]?:=by
 rw[← hu,vC hp,List.getElem?_take_of_lt hi,List.getElem?_drop]
theorem ku(hp:p<=t.length)(hu:c9 t (some (p:Int)) (some ((p+m:Nat):Int))=u)(hi:i<m):atS u s i↔atS t s (p+i):=by
 unfold atS;rw[FR hp hu hi]
theorem vD(hp:p<=t.length)(hu:c9 t (some (p:Int)) (some ((p+m:Nat):Int))=u):u.length=min m (t.length - p):=by
 rw[aO,← hu,vC hp,abD,abU,aO]
theorem pf(hp:p<=t.length)(hu:c9 t (some (p:Int)) (some ((p+m:Nat):Int))=u)(b:kh t):kh u:=λc a=>by
 rw[← hu,vC hp] at a;exact b c (abe (aaR a))
def jF(u v:Str)(a o:Nat):Prop:=v.cps.toList=u.cps.toList.take a++[o]++u.cps.toList.drop (a+1)
theorem Ae(h:jF u v a o)(b:a<u.length):v.length=u.length:=by
 have:=aO u;rw[aO,h];simp only[List.length_append,List.length_take,List.length_drop,List.length_cons,List.length_nil];nofun
theorem FU(h:jF u v a o)(b:a<u.length)(hi:i<a):atS v s i↔atS u s i:=by
 have:=aO u;unfold atS;rw[h,aap,List.getElem?_append_left (by rw[abD];nofun),List.getElem?_take_of_lt hi]
theorem vE(h:jF u v a o)(b:a<u.length)(ho:o∉s.cps.toList):¬atS v s a:=fun⟨c,h1,h2⟩=>by
 have:=aO u;rw[h,aap,List.getElem?_append_right (by rw[abD];nofun),abD,Nat.min_eq_left (by nofun),Nat.sub_self] at h1;cases h1;exact ho h2
theorem vF(h:jF u v a o)(hu:kh u)(ho:32<=o/\o<=126/\o≠37):kh v:=λc b=>by
 rw[h] at b;simp only[List.mem_append,List.mem_singleton] at b;rcases b with (b|rfl)|b
 ·exact hu c (aaR b)
 ·exact ho
 ·exact hu c (abe b)
def vG(rows:List Rw)(n0:Str)(ln:Option Nat)(u:Str)(a o:Nat):Prop:=a<u.length/\∀v,jF u v a o->∃b far tr,Gp rows v n0 0 b far tr/\b≠ln
theorem vH(T:TxOk t s w o k)(nd:([n0,n1,n2,n3,n4]:List Str).Nodup)(f:∀z∈[n0,n1,n2,n3,n4],cr z)(hp:p<=w.length+k)(l:m=w.length - p)(hu:c9 t (some (p:Int)) (some ((p+m+1:Nat):Int))=u) :
  GoodOk (tlR n0 n1 n2 n3 n4 s) t n0 p (some m) m u (decide (w.length+k<p+m+1)) (iJ n0 n1 n2 n3 n4 0 p m)/\(a<m->vG (tlR n0 n1 n2 n3 n4 s) n0 (some m) u a o):=by
 have hl:=T.len;have j:=T.n;have M:=vB nd f T.hs;have c:∀i,i<m->atS t s (p+i):=λi hi=>T.yes (by nofun);have d:¬atS t s (p+m):=T.no (by nofun);have b:c9 t (some (p:Int)) (some ((p+(m+1):Nat):Int))=u:=hu;have g:=vD (by nofun) b;refine⟨⟨M,f _ (by simp),T.tx,by nofun,by nofun,nj M (by nofun) c d,by rw[lW];nofun,hu,by rw[hl],?_,by nofun,pf (by nofun) b T.tx,⟨iJ n0 n1 n2 n3 n4 0 0 m,?_⟩⟩,λn=>⟨by nofun,λv e=>?_⟩⟩
 ·by_cases h:w.length+k<p+m+1
  ·rw[decide_eq_true h,if_pos rfl];nofun
  ·rw[decide_eq_false h,if_neg (by decide)];nofun
 ·have:=nj (t:=u) (p:=0) (m:=m) M (by nofun) (λi hi=>by rw[aba];exact(ku (by nofun) b (by nofun)).mpr (c i hi)) (by rw[aba];exact λh=>d ((ku (by nofun) b (by nofun)).mp h))
  rwa [aba] at this
 ·refine⟨some a,0+a,_,nj (t:=v) (p:=0) (m:=a) M (by nofun) (λi hi=>?_) ?_,λh=>by cases h;nofun⟩
  ·rw[aba,FU e (by nofun) hi];exact(ku (by nofun) b (by nofun)).mpr (c i (by nofun))
  ·rw[aba];exact vE e (by nofun) T.ho
theorem gl:∀(l:List Str) (a:Nat),(eW p a l).length=l.length
 |[],_=>rfl
 |_::l,a=>congrArg (·+1) (gl l (a+1))
theorem jG:∀(l:List Str) (a i:Nat),(eW p a l)[i]?=l[i]?.map λx=>((a+i,x,p),1)
 |[],_,_=>rfl
 |x::l,a,0=>rfl
 |x::l,a,i+1=>(jG l (a+1) i).trans (by rw[ab2,Nat.add_assoc];rfl)
theorem qR{l:List Str}(T:TxOk t s w o k)(nd:(l++[z]).Nodup)(a:l.length<=29)(f:∀y∈l++[z],cr y)(hx:∃d,l++[z]=x::d)(hp:p<=w.length+k)(B:m=w.length - p)(hu:c9 t (some (p:Int)) (some ((p+0+1:Nat):Int))=u) :
  GoodOk (chR s l z) t x p (if m=0 then none else some 1) 0 u (decide (p=w.length+k)) (eW p 0 (l++[z]))/\(0<m->vG (chR s l z) x (if m=0 then none else some 1) u 0 o):=by
 have hl:=T.len;have q:=T.n;have M:=qP nd a f T.hs;have b:c9 t (some (p:Int)) (some ((p+1:Nat):Int))=u:=hu;have n:=vD (by nofun) b
 have A:iR (.signs s) t p=if m=0 then none else some 1:=by
  by_cases h:m=0
  ·rw[if_pos h];exact iF (T.no (by nofun))
  ·rw[if_neg h];exact fR (T.yes (by nofun))
 have r:iR (.signs s) u 0=if m=0 then none else some 1:=by
  have g:=ku (s:=s) (by nofun) b (i:=0) (by nofun);by_cases h:m=0
  ·rw[if_pos h];exact iF λy=>T.no (by nofun) (g.mp y)
  ·rw[if_neg h];exact fR (g.mpr (T.yes (by nofun)))
 have c:cr x:=by obtain⟨d,e⟩:=hx;exact f x (by rw[e];exact aab ..)
 refine⟨⟨M,c,T.tx,by nofun,by nofun,?_,?_,hu,?_,?_,by nofun,pf (by nofun) b T.tx,⟨eW 0 0 (l++[z]),?_⟩⟩,λC=>⟨by nofun,λv j=>?_⟩⟩
 ·rw[← A];exact kr M a hx (by nofun)
 ·rw[gl,abB,abb];nofun
 ·rw[hl];exact decide_eq_decide.mpr (by nofun)
 ·by_cases h:p=w.length+k
  ·rw[decide_eq_true h,if_pos rfl];nofun
  ·rw[decide_eq_false h,if_neg (by decide)];nofun
 ·rw[← r];exact kr M a hx (aan _)
 ·refine⟨_,0,_,kr (t:=v) (p:=0) M a hx (aan _),?_⟩;rw[iF (vE j (by nofun) T.ho),if_neg (by nofun)];exact λh=>nomatch h
end
@[irreducible] def qS:Ct:=λos P=>∃ns:List Int,os=[.fz (.lst (ns.map .int))]/\ns.length<=63/\P (.fz (.bl true)) os
abbrev Km:Stmt:=top 73
abbrev MC:FS:=
  (ak (cq 1 (ag cX (aa (fFz (ag bn (aa (fFz (ab 0)) (aa (fC (.int 0)) ae)))) (aa (fC (.int 0)) ae))))
  (ak (bX (ag al (aa (ab 1) (aa (fC (.int 3)) ae))) (ac 2))
  (ak (cq 3 (iZ ae))
  (ak (p9 (dS (aa (fOp cL (fC (.int 2)) (ag al (aa (ab 1) (aa (fC (.int 3)) ae)))) ae)) (ac 4)
   (bQ (wd 3 (ag cb (aa (ab 1) (aa (ab 3) ae))))))
  (ak (bX (ag al (aa (ab 1) (aa (fFz (fOp aIx (iZ (aa (fC (.int 20)) (aa (fC (.int 401)) ae))) (ag al (aa (ab 1) (aa (fC (.int 2)) ae))))) ae))) (ac 5))
  (ak (bX (fOp aIx (iZ (aa (ab 5) (aa (ag al (aa (ab 1) (aa (fFz (fOp cL (ab 5) (fC (.int 1)))) ae))) ae))) (ag al (aa (ab 1) (aa (fC (.int 2)) ae)))) (ac 6))
  (ak (bX (ag al (aa (ab 1) (aa (fFz (fOp aIx (iZ (aa (fOp cL (ab 6) (fC (.int 1))) (aa (fOp cL (ab 5) (fC (.int 1))) ae))) (fOp (aIC Gf λi j=>.int (i / j)) (ag al (aa (ab 1) (aa (fC (.int 4)) ae))) (fC (.int 3))))) ae))) (ac 7))
  (ak (bX (ag cb (aa (ab 1) (aa (ab 3) ae))) (ac 8))
  (ak (bX (fOp cL (xQ (fC (.str "")) (bI [3,1] 1 (dS (aa (ab 6) ae)) (ac 0) kC (fOp aIx (ab 4) (ag al (aa (ab 2) (aa (fFz (fCB eY (aa (ab 4) ae))) ae)))))) (fOp uf (ab 8) (fOp (aI0 λi j=>.int (i - j)) (ab 5) (ab 6)))) (ac 9))
  (ak (bX (fCB KW (aa (fC (.int 0)) (aa (fOp (aI0 λi j=>.int (i - j)) (ab 6) (ab 7)) ae))) (ac 10))
  (ak (bX (fw (aa (fC (.str "signs")) (aa (xQ (fC (.str "")) (fCB eU (aa (ab 3) ae))) ae))) (ac 11))
  (ak (bX (ag cE (aa (ab 1) (aa (fFz (fOp aIx (iZ (aa (fC (.int 30)) (aa (fC (.int 5)) ae))) (fCB L8 (aa (fC (.int 1)) (aa (ab 2) ae))))) ae))) (ac 12))
  (ak (bX (ag al (aa (ab 1) (aa (fFz (fCB KW (aa (fC (.int 1)) (aa (ab 10) ae)))) ae))) (ac 13))
  (ak (fIf (au (fOp aEq (ab 2) (fC (.int 0))))
   (ak (cq 14 (ag cG (aa (fFz (ab 12)) (aa (fFz (ab 11)) ae))))
  (ak (bX (fOp aIx (iZ (aa (fC .non) (aa (fC (.int 1)) ae))) (fCB L8 (aa (fC (.int 1)) (aa (ab 10) ae)))) (ac 15))
  (ak (bX (fw (aa (fOp aIx (ab 12) (fC (.int 0))) (aa (ab 15) (aa (fC (.int 1)) (aa (fSl aSl (ab 9) (dJ (ab 7)) (dJ (fOp cL (ab 7) (fC (.int 1))))) (aa (fOp aEq (ab 7) (ab 5)) (aa (ag bj (aa (ab 14) ae)) ae))))))) (ac 16))
  (ak (bX (bI [7,12] 1 (dS (aa (fC (.int 30)) ae)) (ac 0) kC (fw (aa (ab 0) (aa (fOp aIx (ab 13) (ab 0)) (aa (ab 8) (aa (fC (.int 1)) ae)))))) (ac 17))
  (ak (fIf (au (fOp aEq (ab 10) (fC (.int 0))))
   (bX (fC .non) (ac 17))
   aL)
  (bX (fC (.int 0)) (ac 13)))))))
   (ak (cq 14 (ag c7 (aa (fFz (ab 12)) (aa (fFz (ab 11)) ae))))
  (ak (bX (fOp cL (fOp cL (ab 7) (ab 10)) (fC (.int 1))) (ac 18))
  (ak (bX (fw (aa (fOp aIx (ab 12) (fC (.int 0))) (aa (ab 10) (aa (fOp cL (ab 10) (fC (.int 1))) (aa (fSl aSl (ab 9) (dJ (ab 7)) (dJ (ab 18))) (aa (fOp (i6 (λi j=>decide (j<i)) λi j=>aZ j i) (ab 18) (ab 5)) (aa (ag bj (aa (ab 14) ae)) ae))))))) (ac 16))
  (bX (ag c6 (aa (fFz (ab 12)) (aa (fFz (ab 7)) (aa (fFz (ab 10)) ae)))) (ac 17))))))
  (ak (fIf (iY (dm (ag c8 (aa (fFz (ab 12)) (aa (ab 14) (aa (fFz (ab 9)) (aa (fFz (ab 7)) (aa (fFz (ab 16)) (aa (fFz (ab 17)) ae)))))))))
   (bc (fC (.bl false)))
   aL)
  (ak (fIf (au (fOp aEq (ab 10) (fC (.int 0))))
   (bc (fC (.bl true)))
   aL)
  (ak (bX (fOp cL (fOp cL (fSl aSl (fOp aIx (ab 16) (fC (.int 3))) cp (dJ (ab 13))) (ab 8)) (fSl aSl (fOp aIx (ab 16) (fC (.int 3))) (dJ (fOp cL (ab 13) (fC (.int 1)))) cp)) (ac 19))
  (bc (fOp Na (ag bU (aa (fFz (fOp cL (fOp cL (fSl aSl (ab 16) cp (dJ (fC (.int 3)))) (fw (aa (ab 19) ae))) (fSl aSl (ab 16) (dJ (fC (.int 4))) cp))) ae)) (fC (.bl false)))))))))))))))))))))
theorem MD:Hh qS MC [] 20:=by
 intro os P h;unfold qS at h;obtain⟨ns,rfl,hnl,q⟩:=h;have sz:=sizeLine_eq;ext;refine Fp (k:=0) λc=>?_;ext;refine .mk (k:=0) (by decide) λj b1 b2 _ g=>?_;ext;refine bC 0 g (by decide) (by decide) (by decide) λkind j b1 b2 k0 k1 g=>?_;ext;refine⟨aan _,?_⟩;ext;refine bC _ g (by decide) (by decide) (by decide) λr j b1 b2 r0 r1 g=>?_;ext;refine⟨⟨by nofun,by nofun⟩,?_⟩;ext
 refine bP (λi ρ=>∃(n:List Nat) (O:Option OV) (j b1 b2:Int),n.length=i/\i<=4/\n.Nodup/\(∀c∈n,c∈fM.cps.toList)/\WellB b1 b2 (2+i) /\
  ρ=[some (.fz (.lst (ns.map .int))),some (cj j b1 b2),some (.fz (.int kind)),some (.fl ((n.map cF).map .str)),O,none,none,none,none,none,none,none,none,none,none,none,none,none,none,none]) ⟨[],none,j,b1,b2,rfl,by nofun,abQ,(λ_ h=>nomatch h),g.mono (by nofun),rfl⟩ ?_ ?_
 ·rintro i d ρ R hd ⟨n,O,j,b1,b2,Z,hi4,M,L,g,rfl⟩ W;obtain⟨hi,rfl⟩:=bo hd;ext;refine⟨rfl,?_⟩;ext;refine .mk _ M L (by nofun) g (by nofun) λc j b1 b2 hc1 hc2 g=>?_;ext;refine⟨by rw[abz,abz];nofun,?_⟩;refine W _ ⟨n++[c],some (.fz (.int (0+(i:Int)))),j,b1,b2,by rw[abB,Z];rfl,by nofun,KS.nodup_snoc M hc2,λd hd=>?_,g.mono (by nofun),?_⟩
  ·rcases abA.mp hd with h|h
   ·exact L d h
   ·rw[abG.mp h];exact hc1
  ·rw[show ((n++[c]).map cF).map D.str=(n.map cF).map D.str++[.str (cF c)] by rw[aad,aad];rfl];rfl
 ·rintro ρ ⟨n,O,j,b1,b2,Z,hi4,M,L,g,rfl⟩;rw[bF] at Z g;ext;refine⟨lez 2,?_⟩;ext;refine bC _ g (by nofun) (by decide) (by decide) λr2 j b1 b2 r20 r21 g=>?_;ext;refine FQ (by nofun) (by nofun) λmx hmx=>?_;ext;refine bC _ g (by nofun) (by nofun) (by nofun) λf j b1 b2 s0 s1 g=>?_;obtain⟨f,rfl⟩:=aaK s0;ext;refine bC _ g (by nofun) (by nofun) (by nofun) λr3 j b1 b2 r30 r31 g=>?_;ext;refine⟨lez 2,?_⟩;ext;refine bC _ g (by nofun) (by decide) (by decide) λr4 j b1 b2 r40 r41 g=>?_;ext;refine FQ (by nofun) (by nofun) λrun hrun=>?_;have hru:0<=run/\run<=f:=by nofun
  obtain⟨run,rfl⟩:=aaK hru.1;ext;refine⟨lez 2,?_⟩;ext;refine bC _ g (by nofun) (by decide) (by decide) λr5 j b1 b2 r50 r51 g=>?_;ext;refine⟨⟨by decide,by decide⟩,?_⟩;ext;refine FQ (by nofun) (by nofun) λmy hmy=>?_;ext;refine bC _ g (by nofun) (by nofun) (by nofun) λp j b1 b2 p0 p1 g=>?_;obtain⟨p,rfl⟩:=aaK p0;ext;refine .mk _ M L (by nofun) g (by nofun) λo j b1 b2 ho1 ho2 g=>?_;have hwl':2<=n.length/\n.length<=4:=by nofun
  have hlm:((n.map cF).map D.str).length=n.length:=by rw[abz,abz]
  have g:WellB b1 b2 20:=g.mono (by nofun);ext;refine⟨⟨by nofun,by nofun⟩,?_⟩;ext
  refine aE (λi as ρ=>∃(w:List Nat) (x:Option OV) (j b1 b2:Int),as=(w.map cF).map .str/\w.length=i/\(∀c∈w,c∈n)/\WellB b1 b2 (20+i) /\
   ρ=[x,some (.fz (.lst (ns.map .int))),some (cj j b1 b2),some (.fz (.int kind)),some (.fl ((n.map cF).map .str)),O,some (.fz (.int f)),some (.fz (.int run)),some (.fz (.int p)),some (.fz (.str (cF o))),none,none,none,none,none,none,none,none,none,none,none]) ⟨[],none,j,b1,b2,rfl,rfl,(λ_ h=>nomatch h),g.mono (by nofun),rfl⟩ ?_ ?_
  ·rintro i d as ρ R hd ⟨w,x,j,b1,b2,rfl,hwi,Y,g,rfl⟩ W;obtain⟨hi,rfl⟩:=bo hd;ext;refine cH ?_;ext;refine bC _ g (by nofun) (by nofun) (by nofun) λrr j b1 b2 rr0 rr1 g=>?_;ext;refine j4 rr0 rr1 λe he=>?_;obtain⟨z,hz,rfl⟩:=abE.mp he;obtain⟨cc,hcc,rfl⟩:=abE.mp hz;ext;refine⟨by rw[abz,abz];nofun,W _ _ ⟨w++[cc],some (.fz (.int (0+(i:Int)))),j,b1,b2,by rw[aad,aad];rfl,by rw[abB,hwi];rfl,λd hd=>?_,g.mono (by nofun),rfl⟩⟩;rcases abA.mp hd with h|h
   ·exact Y d h
   ·rw[abG.mp h];exact hcc
  ·rintro as ρ ⟨w,x,j,b1,b2,rfl,hwi,Y,g,rfl⟩;rw[bF,Int.toNat_natCast] at hwi g
   have N:((w.map cF).map (·.length)).sum=w.length:=by
    rw[aau];exact fJ w
   have Q:(Builtin.Str.glued (Str.ofString "") (w.map cF)).cps.toList=w:=(gY _).trans (gh w);have hgl:=aO (Builtin.Str.glued (Str.ofString "") (w.map cF));rw[Q] at hgl
   have htt:(dG (cF o) ((f:Int) - (run:Int))).cps.toList=List.replicate (f - run) o:=by
    rw[eZ,show ((f:Int) - (run:Int)).toNat=f - run by nofun];generalize f - run=W
    induction W with
    |zero=>rfl
    |succ W ih=>rw[List.replicate_succ,List.flatten_cons,ih];rfl
   have htl:=aO (dG (cF o) ((f:Int) - (run:Int)));rw[htt,aaG] at htl;ext;refine mN ⟨by rw[N,abz];show w.length+w.length*0<=_;nofun,?_⟩;ext;refine⟨⟨by nofun,by show 0<1;decide,by show 1*((f:Int) - (run:Int)).toNat<=_;nofun⟩,?_⟩;ext;refine⟨by nofun,?_⟩;have hT:(Builtin.Str.glued (Str.ofString "") (w.map cF)++dG (cF o) ((f:Int) - (run:Int))).cps.toList=w++List.replicate (f - run) o:=by rw[dP,Q,htt]
   generalize (Builtin.Str.glued (Str.ofString "") (w.map cF)++dG (cF o) ((f:Int) - (run:Int)))=t at hT ⊢;clear htt htl Q hgl N;ext;rw[show (if (run:Int) - (p:Int) > 0 then (run:Int) - (p:Int) else 0)=((run - p:Nat):Int) by split <;> nofun];generalize hm:run - p=m;refine tE (zs:=n.map cF) (by rw[abz];nofun) ?_;have S:∀z,z∈bv (n.map cF)↔z∈n.map cF:=λz=>(aG _).mem_iff;have hsn:(bv (n.map cF)).Nodup:=(aG _).nodup_iff.mpr (List.Pairwise.map cF (λa b h e=>h (by cases e;rfl)) M);have hss:=bS (n.map cF);have hsl:(bv (n.map cF)).length=n.length:=by rw[(aG _).length_eq,abz]
   generalize bv (n.map cF)=ss at S hsn hss hsl ⊢
   obtain⟨cs,rfl⟩:=oz (ss:=ss) λz hz=>by
    obtain⟨c,_,rfl⟩:=abE.mp ((S z).mp hz);rfl
   have hpw:=qy hss hsn;rw[abz] at hsl
   have N:((cs.map λc=>(⟨#[c]⟩:Str)).map (·.length)).sum=cs.length:=by
    rw[aau];exact fJ cs
   have Q:(Builtin.Str.glued (Str.ofString "") (cs.map λc=>(⟨#[c]⟩:Str))).cps.toList=cs:=(gY _).trans (gh cs);ext;refine mN ⟨by rw[N,abz];show cs.length+cs.length*0<=_;nofun,?_⟩;generalize Builtin.Str.glued (Str.ofString "") (cs.map λc=>(⟨#[c]⟩:Str))=s at Q ⊢
   have H:∀c,c∈s.cps.toList↔c∈n:=λc=>by
    rw[Q];have:=S ⟨#[c]⟩;constructor
    ·intro h;obtain⟨d,hd,e⟩:=abE.mp (this.mp (abE.mpr ⟨c,h,rfl⟩));cases e;exact hd
    ·intro h;obtain⟨d,hd,e⟩:=abE.mp (this.mpr (abE.mpr ⟨c,h,rfl⟩));cases e;exact hd
   have T:TxOk t s w o (f - run):=⟨hT,λc hc=>(H c).mpr (Y c hc),λh=>ho2 ((H o).mp h),⟨by rw[Q];nofun,by rw[Q];nofun,by rw[Q];exact hpw,λc hc=>j7 c (L c ((H c).mp hc))⟩,j7 o ho1,by nofun⟩;clear S hsn hss hsl hpw N Q H;ext;refine⟨lez 2,?_⟩;ext;refine⟨lez 2,?_⟩;ext;refine Kl (by split <;> nofun) (by split <;> nofun) λnm hnm=>?_;have hnm0:kind=0->nm=30:=λh=>by split at hnm <;> nofun
   have hnm1:kind≠0->nm=5:=λh=>by split at hnm <;> nofun
   have hnn:0<=nm/\nm<=30:=by nofun
   clear hnm;obtain⟨nm,rfl⟩:=aaK hnn.1;ext;refine .mk _ g (by nofun) (by nofun) λF j b1 b2 hnl' U X g=>?_;have g:WellB b1 b2 1000:=g.mono (by nofun);ext;refine bC _ g (by nofun) (by split <;> nofun) (by split <;> nofun) λa j b1 b2 a0 a1 g=>?_;obtain⟨a,rfl⟩:=aaK a0;have ham:m≠0->a<m:=λh=>by split at a1 <;> nofun
   have hpz:p<=w.length+(f - run):=by nofun
   have hmw:m=w.length - p:=by nofun
   clear a1 g hnn;ext
   refine mP (λρ=>∃(rows:List Rw) (n0:Str) (ns':List Str) (ln:Option Nat) (qq:Nat) (u:Str) (e:Bool) (tr:List (Lv×Nat)) (E:Nat) (x15 x18:Option OV),GoodOk rows t n0 p ln qq u e tr/\(m≠0->vG rows n0 ln u E o) /\
    ρ=[some (.fz (.lst (ns.map .int))),some (cj j b1 b2),some (.fz (.int kind)),some (.fl ((n.map cF).map .str)),O,some (.fz (.int f)),some (.fz (.int run)),some (.fz (.int p)),some (.fz (.str (cF o))),some (.fz (.str t)),some (.fz (.int m)),some (.fz (aH "signs" [s])),some (nsD (n0::ns')),some (.fz (.int E)),some (b7 rows),x15,some (.fz (mf n0 ln ((qq:Int)+1) u e (az rows))),some (.fz (trD ln tr)),x18,none]) ?_ ?_
   ·rintro ρ ⟨rows,n0,ns',ln,qq,u,e,tr,E,x15,x18,G,C,rfl⟩;ext;refine av ?_;ext;refine .mk G ?_;ext;refine cJ ?_;ext;refine av ?_;ext;refine⟨ar,?_⟩;ext;refine aq ((m:Int)=0) aV (λ_=>?_) (λh0=>?_)
    ·ext;exact q
    obtain⟨hau,C⟩:=C (by nofun);have hul:=G.ul;have huc:=aO u
    have c1:(c9 u none (some (E:Int))).cps.toList=u.cps.toList.take E:=by
     show (eQ u.cps.toList none (some (E:Int))).toArray.toList=_;rw[List.toList_toArray,jR]
    have c2:(c9 u (some ((E:Int)+1)) none).cps.toList=u.cps.toList.drop (E+1):=by
     show (eQ u.cps.toList (some ((E+1:Nat):Int)) none).toArray.toList=_;rw[List.toList_toArray,fI]
    have l1:=aO (c9 u none (some (E:Int)));have l2:=aO (c9 u (some ((E:Int)+1)) none);rw[c1,abD] at l1;rw[c2,abU] at l2
    have hv:jF u (c9 u none (some (E:Int))++cF o++c9 u (some ((E:Int)+1)) none) E o:=by
     show (_++_++_:Str).cps.toList=_;rw[dP,dP,c1,c2]
    ext;refine⟨by nofun,?_⟩;ext;refine⟨by show _+1<=_;nofun,?_⟩;ext;refine⟨by nofun,?_⟩;ext;refine⟨by rw[aO,dP,abB,← aO,← aO,l1,l2];show _+1+_<=_;nofun,?_⟩;generalize c9 u none (some (E:Int))++cF o++c9 u (some ((E:Int)+1)) none=v at hv ⊢;ext;have k1:eQ [D.str n0,cS ln,.int ((qq:Int)+1),.str u,.bl e,cR (az rows)] none (some 3)=[.str n0,cS ln,.int ((qq:Int)+1)]:=jR _ 3;have k2:eQ [D.str n0,cS ln,.int ((qq:Int)+1),.str u,.bl e,cR (az rows)] (some 4) none=[.bl e,cR (az rows)]:=fI _ 4;refine⟨by show eM 6 none (some 3);unfold eM;decide,?_⟩;ext;refine⟨lez 1,?_⟩;ext;rw[k1];refine⟨(λy=>nomatch y),lez 4,?_⟩;ext;refine⟨by show eM 6 (some 4) none;unfold eM;decide,?_⟩;ext;rw[k2];refine⟨(λy=>nomatch y),lez 6,?_⟩;ext;obtain⟨ln',far,tr',⟨f',r',hf',hr',g1,g2,g3,_⟩,hne⟩:=C v hv;have hvl:=Ae hv hau;have A:AskR (az rows) n0 v 0:=⟨G.md.bk,G.nm,vF hv G.ut (j7 o ho1),by nofun,aan _⟩;refine jC A (by nofun) hf' hr' (by rw[hvl];have:=G.len;split <;> simp_all <;> nofun) (λy=>absurd (g1.symm.trans y) hne) (λ_=>?_);ext;exact q
   ·intro rest;ext;refine⟨ar,?_⟩;ext;refine aq (kind=0) aV (λhk=>?_) (λhk=>?_)
    ·have B:F.length=30:=by have:=hnm0 hk;nofun
     obtain⟨l,z,rfl⟩:∃l z,F=l++[z]:=⟨F.dropLast,F.getLast (λe=>by rw[e] at B;cases B),(List.dropLast_concat_getLast _).symm⟩;have hll:l.length=29:=by rw[abB] at B;exact Nat.succ.inj B
     obtain⟨I,J,hx0⟩:∃x l',l++[z]=x::l':=by
      cases hh:l++[z] with
      |nil=>rw[hh] at B;cases B
      |cons x l'=>exact⟨x,l',rfl⟩
     obtain⟨G,C⟩:=qR (m:=m) (p:=p) T U (by nofun) X ⟨J,hx0⟩ hpz hmw rfl;ext;refine .mk (by nofun) U ?_;have nd:=G.md.nd;have few:=G.md.few;generalize chR s l z=rows at G C nd few ⊢;rw[hx0] at G B ⊢
     have ea:atI [D.non,D.int 1] (if (m:Int)<1 then (m:Int) else 1)=some (cS (if m=0 then none else some 1)):=by
      by_cases h:m=0
      ·rw[if_pos (by nofun),if_pos h,h];rfl
      ·rw[if_neg (by nofun),if_neg h];rfl
     have ee:dEq (.int p) (.int f)=decide (p=w.length+(f - run)):=by
      rw[abd,aV,decide_eq_true_iff];nofun
     ext;refine⟨lez 2,?_⟩;ext;rw[ea];ext;refine bY ?_;ext;refine⟨by rw[T.len];nofun,?_⟩;ext;refine⟨ar,?_⟩;rw[ee];ext;refine .mk nd few ?_;ext;refine⟨lez 6,?_⟩;ext;refine⟨⟨by decide,by decide⟩,?_⟩;ext;generalize hdue:D.tup [.str I,cS (if m=0 then none else some 1),.int 1,.str (c9 t (some (p:Int)) (some ((p:Int)+1))),.bl (decide (p=w.length+(f - run))),.lst ((az rows).map dN)]=V;have hct:=gl (p:=p) (I::J) 0
     refine aE (λi as ρ=>∃(x:Option OV),as=((eW p 0 (I::J)).take i).map cB /\
      ρ=[x,some (.fz (.lst (ns.map .int))),some (cj j b1 b2),some (.fz (.int kind)),some (.fl ((n.map cF).map .str)),O,some (.fz (.int f)),some (.fz (.int run)),some (.fz (.int p)),some (.fz (.str (cF o))),some (.fz (.str t)),some (.fz (.int m)),some (.fz (aH "signs" [s])),some (nsD (I::J)),some (.fz (.int a)),some (b7 rows),some (.fz (cS (if m=0 then none else some 1))),some (.fz V),none,none,none]) ⟨none,rfl,rfl⟩ ?_ ?_
     ·rintro i d as ρ R hd ⟨x,rfl,rfl⟩ W;obtain⟨hi,rfl⟩:=bo hd;have hi':i<(I::J).length:=by rw[B];exact hi
      have e0:atI ((I::J).map D.str) (0+(i:Int))=some (.str (I::J)[i]):=by
       rw[ab6];exact cn (by rw[List.getElem?_map,List.getElem?_eq_getElem hi'];rfl)
      ext;refine cH ?_;ext;rw[e0];ext;refine⟨lez 4,?_⟩;ext;refine⟨by rw[abz,abD];nofun,W _ _ ⟨some (.fz (.int (0+(i:Int)))),?_,rfl⟩⟩;rw[aam,jG,List.getElem?_eq_getElem hi',aad,ab6];show _=_++[D.tup [.int ((0+i:Nat):Int),_,_,_]];rw[aba];rfl
     ·rintro as ρ ⟨x,rfl,rfl⟩;rw[bF,aah (by rw[hct,B];exact aac _)];ext;refine mP (λρ=>ρ=[some (.fz (.lst (ns.map .int))),some (cj j b1 b2),some (.fz (.int kind)),some (.fl ((n.map cF).map .str)),O,some (.fz (.int f)),some (.fz (.int run)),some (.fz (.int p)),some (.fz (.str (cF o))),some (.fz (.str t)),some (.fz (.int m)),some (.fz (aH "signs" [s])),some (nsD (I::J)),some (.fz (.int a)),some (b7 rows),some (.fz (cS (if m=0 then none else some 1))),some (.fz V),some (.fz (trD (if m=0 then none else some 1) (eW p 0 (I::J)))),none,none]) ?_ ?_
      ·rintro ρ rfl;refine(eJ _ _).mpr ?_;refine rest [some (.fz (.lst (ns.map .int))),some (cj j b1 b2),some (.fz (.int kind)),some (.fl ((n.map cF).map .str)),O,some (.fz (.int f)),some (.fz (.int run)),some (.fz (.int p)),some (.fz (.str (cF o))),some (.fz (.str t)),some (.fz (.int m)),some (.fz (aH "signs" [s])),some (nsD (I::J)),some (.fz (.int 0)),some (b7 rows),some (.fz (cS (if m=0 then none else some 1))),some (.fz V),some (.fz (trD (if m=0 then none else some 1) (eW p 0 (I::J)))),none,none] ⟨rows,I,J,_,0,_,_,_,0,some (.fz (cS (if m=0 then none else some 1))),none,G,λh=>C (by nofun),?_⟩;rw[← hdue];rfl
      ·intro K;ext;refine⟨ar,?_⟩;ext;refine aq ((m:Int)=0) aV (λh=>?_) (λh=>?_)
       ·refine K [some (.fz (.lst (ns.map .int))),some (cj j b1 b2),some (.fz (.int kind)),some (.fl ((n.map cF).map .str)),O,some (.fz (.int f)),some (.fz (.int run)),some (.fz (.int p)),some (.fz (.str (cF o))),some (.fz (.str t)),some (.fz (.int m)),some (.fz (aH "signs" [s])),some (nsD (I::J)),some (.fz (.int a)),some (b7 rows),some (.fz (cS (if m=0 then none else some 1))),some (.fz V),some (.fz .non),none,none] ?_;rw[if_pos (show m=0 by nofun)];rfl
       ·refine K _ ?_;rw[if_neg (show ¬m=0 by nofun)];rfl
    ·have hn5:F.length=5:=by have:=hnm1 hk;nofun
     obtain⟨n0,n1,n2,n3,n4,rfl⟩:∃n0 n1 n2 n3 n4,F=[n0,n1,n2,n3,n4]:=by
      match F,hn5 with
      |[a,b,c,d,e],_=>exact⟨a,b,c,d,e,rfl⟩
     obtain⟨G,C⟩:=vH (m:=m) (p:=p) (a:=a) T U X hpz hmw rfl;ext;refine .mk U ?_;have nd:=G.md.nd;have few:=G.md.few;ext;refine⟨by rw[T.len];nofun,?_⟩;ext;refine .mk nd few ?_;ext;refine⟨lez 6,?_⟩;ext;refine .mk (by nofun) (by nofun) ?_;have e1:decide ((f:Int)<(p:Int)+(m:Int)+1)=decide (w.length+(f - run)<p+m+1):=decide_eq_decide.mpr (by nofun);refine rest [some (.fz (.lst (ns.map .int))),some (cj j b1 b2),some (.fz (.int kind)),some (.fl ((n.map cF).map .str)),O,some (.fz (.int f)),some (.fz (.int run)),some (.fz (.int p)),some (.fz (.str (cF o))),some (.fz (.str t)),some (.fz (.int m)),some (.fz (aH "signs" [s])),some (nsD [n0,n1,n2,n3,n4]),some (.fz (.int a)),some (b7 (tlR n0 n1 n2 n3 n4 s)),none,some (.fz (.tup [.str n0,.int m,.int ((m:Int)+1),.str (c9 t (some (p:Int)) (some ((p:Int)+(m:Int)+1))),.bl (decide ((f:Int)<(p:Int)+(m:Int)+1)),cR (az (tlR n0 n1 n2 n3 n4 s))])),some (.fz (.lst ((iJ n0 n1 n2 n3 n4 0 p m).map cB))),some (.fz (.int ((p:Int)+m+1))),none] ⟨_,n0,[n1,n2,n3,n4],some m,m,_,_,_,a,none,some (.fz (.int ((p:Int)+m+1))),G,λh=>C (ham h),?_⟩;rw[← e1];rfl
end KR
open PySem L2
local macro_rules|`(tactic|walk_at "f1") => `(tactic|(repeat' (first
  |(with_reducible first|exact M4 (by decide)|apply Ic|apply Ie|apply LX|apply mI|apply AN|apply Iw|apply Iz|exact gf_n (by decide)|apply sP|apply IT|apply IW|apply IU|apply DS|apply DN|apply yy|apply yx|apply DR|apply IV|apply tp|apply DO|apply xI|apply DP|apply DQ|apply D4|apply xU|apply ER|apply yQ|apply qx|apply L0|apply ya|apply L3|exact Mh (by decide)|apply LV|apply Ig|apply LW|apply Do|apply Ih|apply Dp|apply LY|apply xv|apply Im|apply Io|apply L1|apply IX|apply L9|apply I0|apply I8|apply xP|apply DU|apply D6|apply IY|apply IZ|apply I9|apply j2|apply Mg|apply Ds|apply Dt|apply L4|apply Iy|apply Dz|apply Dx|apply Ep|apply DA|apply DB|apply IA|apply xE|apply xD|apply Dy|apply xF|apply DD|apply xZ|apply tf_B|apply Ii|apply Ij|apply LZ|apply Ik|apply Il|exact gf_c (by decide) (by decide)|apply Iq|apply Du|apply xw|apply xA|apply EM|apply EO|apply yN|apply Dv|apply Dw|apply xB|apply xC|apply Mi|apply Mj|apply DY|apply DX|apply xT|apply Dr|apply Ja)|(show ClsF _ _ _;assumption)|(with_reducible first|apply ED|apply yp|apply Eu|apply yq|apply yr|apply Ek|apply Eg|apply yc|apply Eh|apply Em|apply yt|apply t9|apply yu|apply yh|apply Es|apply Et|apply yR|apply ES|apply JB|apply yl|apply ym|apply yn|apply EC|apply yo|apply EJ|apply yH|exact Ml rfl)|exact rfl
  |(with_reducible first|exact xR (by decide)|exact Mc (by decide))|(show Program;exact Zz.P (by assumption))|(show World;exact Zz.w (by assumption))|decide)))
local macro_rules|`(tactic|walk_at "f2") => `(tactic|(repeat' (first
  |(with_reducible first|exact AJ|exact AK|apply AI|apply xm|apply C7|apply C6|apply wa_c|apply HA|apply IG)|exact rfl|exact Or.inl rfl|exact Or.inr rfl|exact Or.inr (Or.inl rfl)|assumption
  |(with_reducible first|apply LM|apply Hw|apply HB)|((with_reducible apply Mo);exact rfl)|(with_reducible first|apply D9|apply HK|apply HL|apply LR|apply HJ|apply C8|apply HM|apply xo|apply C9|apply xn|apply mF|apply Dj|apply xY)|exact Room.units (by assumption)|exact LD (by assumption)|exact Room.gd (by assumption)|exact Room.mono (by assumption) (by decide)|exact fun _=>rfl|exact fun _ _=>rfl|exact nomarkB (by decide) (by decide)
  |(with_reducible first|apply Hx|apply yb|apply LK|apply Hr|apply Hv|apply LN|apply Hu|apply Ht|apply LO|apply xc|apply xk|apply Hy|apply Hz|apply xi|apply tN|apply CP|apply CQ|apply CM|apply HN|apply HP|apply xH|apply Da|apply yw|apply yv|apply DG|apply DH|apply DI|apply DJ|apply DF|apply qe|apply Dc|apply xp|apply Dd|apply De|apply Dg|apply xq|apply EQ|apply yO|apply ju|apply qw|apply HR|apply IM|apply HV|apply HW|apply xO|apply Di|apply xV|apply HS|apply HU|apply IQ)|exact Or.inl ⟨_,rfl⟩|exact Or.inr ⟨_,rfl⟩
  |(with_reducible first|apply HC|apply CU|apply HD|apply HE|apply LP|apply CV|apply CW|apply CY|apply HF|apply CZ|apply xl|apply HG)|exact PassesOwn.never
  |(with_reducible first|apply sA|apply sB|apply Ju|apply C5|apply HH|apply HI|apply D8|apply CS|apply CT|apply Mn)|exact CompScope.of rfl rfl rfl|(intro C s H fp)|exact Mm rfl
  |(with_reducible first|apply CL|apply xh|exact PySem.F.plainAttrs_list|exact PySem.F.plainAttrs_str|exact PySem.F.slot_list_append|exact PySem.F.type_list_append|apply sC|exact PySem.F.slot_str_join|exact PySem.F.type_str_join|apply Dh|exact PySem.F.slot_list_extend|exact PySem.F.type_list_extend|exact PySem.F.slot_list_reverse|exact PySem.F.type_list_reverse|exact PySem.F.slot_list_index|exact PySem.F.type_list_index|exact PySem.F.slot_list_remove|exact PySem.F.type_list_remove|exact PySem.F.slot_str_split|exact PySem.F.type_str_split|exact PySem.F.slot_str_partition|exact PySem.F.type_str_partition|exact PySem.F.slot_str_find|exact PySem.F.type_str_find|exact PySem.F.slot_str_upper|exact PySem.F.type_str_upper|apply Jl|apply Jm|apply Jn|apply Jo|apply Ew|apply Mp|apply Jp)|exact ClsF.cl (by assumption)|exact ⟨_,rfl⟩|(with_reducible first|apply yi|apply Ex|apply sy|apply yk|apply yG|exact PySem.F.plainAttrs_dict|exact PySem.F.slot_dict_update|exact PySem.F.type_dict_update|exact uc|exact PySem.F.slot_list_pop|exact PySem.F.type_list_pop|apply Jq|exact PySem.F.slot_list_clear|exact PySem.F.type_list_clear|apply LL|apply AL|apply Hs|apply DM|apply DZ|apply AL|apply wt_w|apply sy)|apply xj|apply CN|exact AK|exact AJ|exact ⟨rfl,rfl,rfl,rfl⟩|decide|decide +kernel)))
local macro_rules|`(tactic|walk_at "bd") => `(tactic|(intro cdv A outer s H E T nd hr;cases T;apply Exists.intro;apply And.intro;(focus walk_at "f1");(focus ((conv => (arg 2;whnf));walk_at "f2"))))
local macro_rules|`(tactic|walk_at "bn") => `(tactic|(intro _ _ _ _ _ _;first|exact us_1 λ_ => rfl|exact us_2 λ_ _ => rfl|exact us_3 λ_ _ _ => rfl|exact us_4 λ_ _ _ _ => rfl|exact us_5 λ_ _ _ _ _ => rfl|exact us_6 λ_ _ _ _ _ _ => rfl|exact us_0 rfl))
local macro_rules|`(tactic|walk_at "o") => `(tactic|((focus walk_at "bn");(focus exact⟨rfl,rfl,rfl,by decide +kernel,rfl,by decide +kernel,by decide +kernel⟩);walk_at "bd"))
local macro_rules|`(tactic|walk_at "ol") => `(tactic|((focus exact⟨rfl,rfl,rfl,by decide +kernel,rfl,by decide +kernel,by decide +kernel⟩);walk_at "bd"))
local macro_rules|`(tactic|walk_at "l") => `(tactic|(repeat (obtain⟨x,h⟩ := h)))
namespace KR
section
variable {Z:Zz} {f C:Addr} {fd:FuncData} (t:TopZ Z (Txt Z.K Z.mg)) (hC:ClsF Z.K 0 C)
include t hC
abbrev vI(Z:Zz)(C:Addr):Prop:=Js Z C "Asking" 1 ["self", "form", "name", "place"] aM
abbrev jH(Z:Zz)(C:Addr):Prop:=lq Z C "end" 1 ["self", "length"] ay
abbrev fS(Z:Zz)(C:Addr):Prop:=lq Z C "wanted" 1 ["self"] aW
abbrev Bq(Z:Zz)(C:Addr):Prop:=lq Z C "take_in_row" 2 ["self", "length"] aQ
abbrev ph(Z:Zz)(C:Addr):Prop:=lq Z C "take_in_first" 2 ["self", "length"] aJ
abbrev pi(Z:Zz)(C:Addr):Prop:=lq Z C "take_in_again" 2 ["self", "length"] aK
abbrev nq(Z:Zz)(C:Addr):Prop:=lq Z C "take" 3 ["self", "length"] bH
abbrev Br(Z:Zz)(C:Addr):Prop:=lq Z C "members" 1 ["self"] bq
theorem FW(D:DfM Z.K C "__init__" "Asking.__init__" ug f fd)(a:PySem.W.nsIn Z.K mainGlobals "Asking" = some (some (.ref C)))(mk:PySem.W.makesIn Z.K C=true)(b:PySem.W.keepIn Z.K (.ref C)=true):vI Z C:=by
 refine EE t D a mk b (i8 ["self", "form", "name", "place"] t D.fn (by delta aM) EV ?_ ?_) ?_
 rotate_right
 (focus walk_at "bn")
 walk_at "ol"
theorem Kn(D:DfM Z.K C "end" "Asking.end" AY f fd):jH Z C:=by
 refine e7 D (i8 ["self", "length"] t D.fn (by delta ay) JD ?_ ?_) ?_
 rotate_right
 (focus walk_at "bn")
 walk_at "ol"
theorem vJ(D:DfM Z.K C "wanted" "Asking.wanted" ly f fd):fS Z C:=by
 refine e7 D (i8 ["self"] t D.fn (by delta aW) uv ?_ ?_) ?_
 rotate_right
 (focus walk_at "bn")
 walk_at "ol"
theorem Ko(D:DfM Z.K C "take_in_row" "Asking.take_in_row" A6 f fd)(_:jH Z C):Bq Z C:=by
 refine e7 D (i8 ["self", "length"] t D.fn (by delta aQ) JF ?_ ?_) ?_
 rotate_right
 (focus walk_at "bn")
 walk_at "ol"
theorem Af(D:DfM Z.K C "take_in_first" "Asking.take_in_first" oE f fd)(_:jH Z C):ph Z C:=by
 refine e7 D (i8 ["self", "length"] t D.fn (by delta aJ) y0 ?_ ?_) ?_
 rotate_right
 (focus walk_at "bn")
 walk_at "ol"
theorem Ag(D:DfM Z.K C "take_in_again" "Asking.take_in_again" oF f fd)(_:jH Z C):pi Z C:=by
 refine e7 D (i8 ["self", "length"] t D.fn (by delta aK) y4 ?_ ?_) ?_
 rotate_right
 (focus walk_at "bn")
 walk_at "ol"
theorem FX(D:DfM Z.K C "take" "Asking.take" uu f fd)(_:fS Z C)(_:jH Z C)(_:Bq Z C)(_:ph Z C)(_:pi Z C):nq Z C:=by
 refine e7 D (i8 ["self", "length", "word"] t D.fn (by delta bH) E5 ?_ ?_) ?_
 rotate_right
 (focus walk_at "bn")
 walk_at "ol"
theorem Kq(D:DfM Z.K C "members" "Asking.members" Bl f fd):Br Z C:=by
 refine e7 D (i8 ["self"] t D.fn (by delta bq) Kd ?_ ?_) ?_
 rotate_right
 (focus walk_at "bn")
 walk_at "ol"
abbrev pj(Z:Zz):Prop:=cv Z "length_alone" 1 ["form", "text", "place"] bJ
theorem Ah(D:Df Z.K "length_alone" oB f fd):pj Z:=by
 refine ao ["form", "text", "place"] t D (by delta bJ) yU ?_ ?_ ?_;walk_at "o"
abbrev kx(Z:Zz):Prop:=cv Z "parts_of" 1 ["form"] bG
theorem FY(D:Df Z.K "parts_of" uk f fd):kx Z:=by
 refine ao ["form"] t D (by delta bG) EZ ?_ ?_ ?_;walk_at "o"
abbrev nr(Z:Zz):Prop:=cv Z "begun" 3 ["rules", "text", "name", "place"] dA
theorem FZ(D:Df Z.K "begun" uq f fd)(_:vI Z C)(_:jH Z C)(_:kx Z)(_:pj Z):nr Z:=by
 refine ao ["rules", "text", "name", "place", "form", "asking"] t D (by delta dA) E2 ?_ ?_ ?_;walk_at "o"
abbrev vK(Z:Zz):Prop:=cv Z "found" 1 ["asking", "kept"] fj
theorem F0(D:Df Z.K "found" uy f fd):vK Z:=by
 refine ao ["asking", "kept", "farthest", "leans", "step", "length", "reach", "leaned"] t D (by delta fj) Fa ?_ ?_ ?_;walk_at "o"
abbrev Bs(Z:Zz):Prop:=cv Z "make" 4 ["rules", "text", "kept", "name", "place"] ip
theorem Kr(D:Df Z.K "make" Bb f fd)(_:fS Z C)(_:nq Z C)(_:nr Z)(_:vK Z):Bs Z:=by
 refine ao ["rules", "text", "kept", "name", "place", "new", "under_way", "asking", "wanted"] t D (by delta ip) JK ?_ ?_ ?_;walk_at "o"
abbrev eO(Z:Zz):Prop:=cv Z "is_name" 1 ["thing"] bK
theorem Ai(D:Df Z.K "is_name" oI f fd):eO Z:=by
 refine ao ["thing"] t D (by delta bK) zc ?_ ?_ ?_;walk_at "o"
abbrev pp(Z:Zz):Prop:=cv Z "is_sign" 1 ["sign"] eA
theorem Aj(D:Df Z.K "is_sign" oJ f fd):pp Z:=by
 refine ao ["sign"] t D (by delta eA) ze ?_ ?_ ?_;walk_at "o"
abbrev gL(Z:Zz):Prop:=cv Z "is_text" 2 ["thing"] cA
theorem Ak(D:Df Z.K "is_text" oK f fd)(_:pp Z):gL Z:=by
 refine ao ["thing"] t D (by delta cA) zg ?_ ?_ ?_;walk_at "o"
abbrev pq(Z:Zz):Prop:=cv Z "are_rising_signs" 3 ["thing"] a8
theorem Al(D:Df Z.K "are_rising_signs" oM f fd)(_:gL Z):pq Z:=by
 refine ao ["thing"] t D (by delta a8) zj ?_ ?_ ?_;walk_at "o"
abbrev ky(Z:Zz):Prop:=cv Z "is_form" 4 ["thing"] cV
theorem Am(D:Df Z.K "is_form" oN f fd)(_:pq Z)(_:eO Z):ky Z:=by
 refine ao ["thing", "word"] t D (by delta cV) zm ?_ ?_ ?_;walk_at "o"
abbrev pr(Z:Zz):Prop:=cv Z "is_rule" 5 ["thing"] eB
theorem An(D:Df Z.K "is_rule" oO f fd)(_:eO Z)(_:ky Z):pr Z:=by
 refine ao ["thing"] t D (by delta eB) zp ?_ ?_ ?_;walk_at "o"
abbrev nu(Z:Zz):Prop:=cv Z "names_rise" 1 ["rows"] bT
theorem F6(D:Df Z.K "names_rise" uN f fd):nu Z:=by
 refine ao ["rows"] t D (by delta bT) Fe ?_ ?_ ?_;walk_at "o"
abbrev pv(Z:Zz):Prop:=cv Z "is_book" 6 ["thing"] eC
theorem Ao(D:Df Z.K "is_book" oP f fd)(_:pr Z)(_:nu Z):pv Z:=by
 refine ao ["thing"] t D (by delta eC) zr ?_ ?_ ?_;walk_at "o"
abbrev Ks(Z:Zz):Prop:=cv Z "may_be_empty" 2 ["form", "empty"] bL
theorem ME(D:Df Z.K "may_be_empty" JP f fd)(_:kx Z):Ks Z:=by
 refine ao ["form", "empty"] t D (by delta bL) My ?_ ?_ ?_;walk_at "o"
abbrev pw(Z:Zz):Prop:=cv Z "empty_names" 3 ["book"] bm
theorem Ap(D:Df Z.K "empty_names" oR f fd)(_:Ks Z):pw Z:=by
 refine ao ["book", "empty", "grows", "name", "form"] t D (by delta bm) zu ?_ ?_ ?_;walk_at "o"
abbrev Bt(Z:Zz):Prop:=cv Z "begins_of_row" 1 ["parts", "empty"] bA
theorem Kt(D:Df Z.K "begins_of_row" Be f fd):Bt Z:=by
 refine ao ["parts", "empty", "begun", "part"] t D (by delta bA) JR ?_ ?_ ?_;walk_at "o"
abbrev vL(Z:Zz):Prop:=cv Z "begins_of_form" 2 ["form", "empty"] bp
theorem F7(D:Df Z.K "begins_of_form" uR f fd)(_:kx Z)(_:Bt Z):vL Z:=by
 refine ao ["form", "empty"] t D (by delta bp) Fi ?_ ?_ ?_;walk_at "o"
abbrev vM(Z:Zz):Prop:=cv Z "steps_of" 4 ["book"] cW
theorem F8(D:Df Z.K "steps_of" uS f fd)(_:pw Z)(_:vL Z):vM Z:=by
 refine ao ["book", "empty", "steps", "name", "form"] t D (by delta cW) Fl ?_ ?_ ?_;walk_at "o"
abbrev px(Z:Zz):Prop:=cv Z "steps_within" 1 ["steps", "name", "left"] aS
theorem Aq(D:Df Z.K "steps_within" oW f fd):px Z:=by
 refine ao ["steps", "name", "left"] t D zz zB ?_ ?_ ?_;walk_at "o"
abbrev lZ(Z:Zz):Prop:=cv Z "endless_rules" 5 ["steps"] aX
theorem vN(D:Df Z.K "endless_rules" lM f fd)(_:px Z):lZ Z:=by
 refine ao ["steps", "left", "shrinks", "ended", "name"] t D (by delta aX) uV ?_ ?_ ?_;walk_at "o"
abbrev vO(Z:Zz):Prop:=cv Z "loop" 6 ["book"] jA
theorem Ku(D:Df Z.K "loop" Bg f fd)(_:vM Z)(_:lZ Z):vO Z:=by
 refine ao ["book", "steps", "left", "walked", "name"] t D (by delta jA) JU ?_ ?_ ?_;walk_at "o"
abbrev vP(Z:Zz):Prop:=cv Z "asked_anew" 4 ["rules", "text", "kept", "name", "place"] bi
theorem Kv(D:Df Z.K "asked_anew" Bc f fd)(_:fS Z C)(_:nq Z C)(_:nr Z):vP Z:=by
 refine ao ["rules", "text", "kept", "name", "place", "asking"] t D (by delta bi) JM ?_ ?_ ?_;walk_at "o"
abbrev l5(Z:Zz):Prop:=cv Z "asked_of" 5 ["rules", "text", "kept", "name", "place"] b9
theorem vQ(D:Df Z.K "asked_of" lF f fd)(_:vP Z):l5 Z:=by
 refine ao ["rules", "text", "kept", "name", "place", "asked", "step"] t D (by delta b9) uE ?_ ?_ ?_;walk_at "o"
abbrev iO(Z:Zz):Prop:=cv Z "is_whole" 1 ["thing"] ca
theorem vR(D:Df Z.K "is_whole" lG f fd):iO Z:=by
 refine ao ["thing"] t D (by delta ca) uG ?_ ?_ ?_;walk_at "o"
abbrev l6(Z:Zz):Prop:=cv Z "is_place" 2 ["text", "thing"] cU
theorem vS(D:Df Z.K "is_place" lH f fd)(_:iO Z):l6 Z:=by
 refine ao ["text", "thing"] t D (by delta cU) uI ?_ ?_ ?_;walk_at "o"
abbrev Kw(Z:Zz):Prop:=cv Z "refuse_wrong_book" 7 ["book"] aY
theorem MF(D:Df Z.K "refuse_wrong_book" JV f fd)(_:pv Z)(_:vO Z):Kw Z:=by
 refine ao ["book"] t D (by delta aY) MA ?_ ?_ ?_;walk_at "o"
abbrev Nc(Z:Zz):Prop:=cv Z "refuse_wrong" 8 ["book", "name", "text", "place"] bM
theorem o_rw(D:Df Z.K "refuse_wrong" Nb f fd)(_:Kw Z)(_:eO Z)(_:gL Z)(_:l6 Z):Nc Z:=by
 refine ao ["book", "name", "text", "place"] t D (by delta bM) h_rw ?_ ?_ ?_;walk_at "o"
abbrev kz(Z:Zz):Prop:=cv Z "made_alone" 9 ["book", "name", "text", "place"] bB
theorem F9(D:Df Z.K "made_alone" uY f fd)(_:Nc Z)(_:Bs Z):kz Z:=by
 refine ao ["book", "name", "text", "place", "kept"] t D (by delta bB) Fo ?_ ?_ ?_;walk_at "o"
abbrev l7(Z:Zz):Prop:=cv Z "reading" 10 ["book", "name", "text", "place"] eD
theorem vT(D:Df Z.K "reading" lO f fd)(_:kz Z)(_:l5 Z):l7 Z:=by
 refine ao ["book", "name", "text", "place", "kept", "length", "reach", "leans"] t D (by delta eD) va ?_ ?_ ?_;walk_at "o"
abbrev Bu(Z:Zz):Prop:=cv Z "_law_cell_at" 1 ["script", "k"] bn
theorem Kx(D:Df Z.K "_law_cell_at" Bh f fd):Bu Z:=by
 refine ao ["script", "k"] t D (by delta bn) JZ ?_ ?_ ?_;walk_at "o"
abbrev vU(Z:Zz):Prop:=cv Z "_law_stir" 1 ["seed", "turn"] cx
theorem Ky(D:Df Z.K "_law_stir" Bi f fd):vU Z:=by
 refine ao ["seed", "turn", "number"] t D (by delta cx) J1 ?_ ?_ ?_;walk_at "o"
abbrev Bv(Z:Zz):Prop:=cv Z "_law_well" 2 ["cell", "k"] cX
theorem Kz(D:Df Z.K "_law_well" Bj f fd)(_:vU Z):Bv Z:=by
 refine ao ["cell", "k", "seed"] t D (by delta cX) J3 ?_ ?_ ?_;walk_at "o"
abbrev pz(Z:Zz):Prop:=cv Z "_law_draw" 2 ["well", "many"] al
theorem KA(D:Df Z.K "_law_draw" Bk f fd)(_:vU Z):pz Z:=by
 refine ao ["well", "many", "taken"] t D (by delta al) Kb ?_ ?_ ?_;walk_at "o"
abbrev l8(Z:Zz):Prop:=cv Z "_law_new_name" 3 ["well", "names"] bN
theorem vV(D:Df Z.K "_law_new_name" lQ f fd)(_:pz Z):l8 Z:=by
 refine ao ["well", "names", "letters", "way", "letter", "name", "old", "at", "some"] t D (by delta bN) vg ?_ ?_ ?_;walk_at "o"
abbrev kA(Z:Zz):Prop:=cv Z "_law_listed" 1 ["rules"] bj
theorem Ar(D:Df Z.K "_law_listed" o5 f fd):kA Z:=by
 refine ao ["rules"] t D (by delta bj) zP ?_ ?_ ?_;walk_at "o"
abbrev pA(Z:Zz):Prop:=cv Z "tree_of" 5 ["rules", "text", "kept", "name", "place"] cD
theorem Av(D:Df Z.K "tree_of" oY f fd)(_:Br Z C)(_:vP Z):pA Z:=by
 refine ao ["rules", "text", "kept", "name", "place", "rows", "left", "level", "own", "start", "part", "at"] t D (by delta cD) zL ?_ ?_ ?_;walk_at "o"
abbrev Bw(Z:Zz):Prop:=cv Z "tree" 10 ["book", "name", "text", "place"] lP
theorem KB(D:Df Z.K "tree" Bn f fd)(_:kz Z)(_:pA Z):Bw Z:=by
 refine ao ["book", "name", "text", "place", "kept"] t D (by delta lP) Kf ?_ ?_ ?_;walk_at "o"
abbrev l9(Z:Zz):Prop:=cv Z "paper_of" 1 ["forms", "text", "kept", "name", "place"] c5
theorem vW(D:Df Z.K "paper_of" lS f fd):l9 Z:=by
 refine ao ["forms", "text", "kept", "name", "place", "length", "reach", "leans", "rules"] t D (by delta c5) vi ?_ ?_ ?_;walk_at "o"
abbrev vX(Z:Zz):Prop:=cv Z "paper" 10 ["book", "name", "text", "place"] iB
theorem Ga(D:Df Z.K "paper" vj f fd)(_:kz Z)(_:l9 Z):vX Z:=by
 refine ao ["book", "name", "text", "place", "kept"] t D (by delta iB) Fx ?_ ?_ ?_;walk_at "o"
abbrev ma(Z:Zz):Prop:=cv Z "is_paper_rule" 5 ["thing"] bE
theorem vY(D:Df Z.K "is_paper_rule" lT f fd)(_:eO Z)(_:ky Z):ma Z:=by
 refine ao ["thing"] t D (by delta bE) vm ?_ ?_ ?_;walk_at "o"
abbrev iP(Z:Zz):Prop:=cv Z "are_paper_rules" 6 ["thing"] bf
theorem nv(D:Df Z.K "are_paper_rules" iC f fd)(_:ma Z)(_:nu Z):iP Z:=by
 refine ao ["thing"] t D (by delta bf) nh ?_ ?_ ?_;walk_at "o"
abbrev jI(Z:Zz):Prop:=cv Z "has_paper_parts" 7 ["thing"] bg
theorem qT(D:Df Z.K "has_paper_parts" jB f fd)(_:eO Z)(_:iO Z)(_:gL Z)(_:iP Z):jI Z:=by
 refine ao ["thing", "name", "length", "reach", "signs", "ends", "rules"] t D (by delta bg) qJ ?_ ?_ ?_;walk_at "o"
abbrev iQ(Z:Zz):Prop:=cv Z "is_paper" 11 ["thing"] bU
theorem vZ(D:Df Z.K "is_paper" lV f fd)(_:jI Z)(_:vO Z)(_:l7 Z):iQ Z:=by
 refine ao ["thing", "name", "length", "reach", "signs", "ends", "rules", "book", "told"] t D (by delta bU) vq ?_ ?_ ?_;walk_at "o"
abbrev v5(Z:Zz):Prop:=cv Z "_law_named" 4 ["well", "many"] cE
theorem Gb(D:Df Z.K "_law_named" vt f fd)(_:l8 Z):v5 Z:=by
 refine ao ["well", "many", "names", "j"] t D (by delta cE) FB ?_ ?_ ?_;walk_at "o"
abbrev v6(Z:Zz):Prop:=cv Z "_law_other" 3 ["well", "some"] cb
theorem Gc(D:Df Z.K "_law_other" vy f fd)(_:pz Z):v6 Z:=by
 refine ao ["well", "some", "signs"] t D (by delta cb) FD ?_ ?_ ?_;walk_at "o"
abbrev v7(Z:Zz):Prop:=cv Z "_law_tree" 1 ["names", "place", "many"] c6
theorem Gd(D:Df Z.K "_law_tree" vz f fd):v7 Z:=by
 refine ao ["names", "place", "many", "rows", "k", "j"] t D (by delta c6) FJ ?_ ?_ ?_;walk_at "o"
abbrev v8(Z:Zz):Prop:=cv Z "_law_tail" 1 ["names", "signs"] c7
theorem Ge(D:Df Z.K "_law_tail" vA f fd):v8 Z:=by
 refine ao ["names", "signs", "rules"] t D (by delta c7) FL ?_ ?_ ?_;walk_at "o"
abbrev pB(Z:Zz):Prop:=cv Z "_law_chain" 1 ["names", "signs"] cG
theorem Aw(D:Df Z.K "_law_chain" pd f fd):pB Z:=by
 refine ao ["names", "signs", "rules", "k"] t D (by delta cG) Ab ?_ ?_ ?_;walk_at "o"
abbrev Bx(Z:Zz):Prop:=cv Z "_law_good" 12 ["names", "rules", "text", "place", "due", "rows"] c8
theorem KC(D:Df Z.K "_law_good" Bp f fd)(_:kA Z)(_:vX Z)(_:iQ Z)(_:Bw Z):Bx Z:=by
 refine ao ["names", "rules", "text", "place", "due", "rows", "book", "found_v"] t D (by delta c8) Kk ?_ ?_ ?_;walk_at "o"
theorem o_law(D:Df Z.K "law" Km f fd)(_:Bu Z)(_:Bv Z)(_:pz Z)(_:v6 Z)(_:v5 Z)(_:kA Z)(_:v7 Z)(_:v8 Z)(_:pB Z)(_:Bx Z)(_:iQ Z):FnOk Z.P Z.w Z.K Z.mg Z.base CX0 13 f fd ["script"] (spM Z.K qS):=by
 refine i8 ["script", "well", "kind", "some", "j", "size", "run", "place", "other", "text", "many", "signs", "names", "at", "rules", "length", "due", "rows", "far", "turned"] t D.fn (by delta qS) MD ?_ ?_;walk_at "ol"
end
end KR
open PySem L2
namespace KR
def Ax(K:Frag):Sp:=λvs H Q _=>∃(a:Addr) (ns:List Int),vs=[.ref a]/\SqL K H a (ns.map V.int)/\ns.length<=63/\∀H',Q (.bl true) H'
variable{q:Program}{loose:List Str}{XP:(Str->Option Value)->Heap->Prop}
theorem KD{K:Frag}(vs:List V)(H:Hp)(Q:VK)(E:XK)(h:Ax K vs H Q E):spM K qS vs H Q E:=by
 obtain⟨a,ns,rfl,f,hl,q⟩:=h;refine⟨H,λ_=>none,[.fz (.lst (ns.map .int))],[],λo _=>o=.fz (.bl true),Same.refl H,SameN.none,λ_ _ _=>rfl,.cons (.fz (.lst f (Dens.ints ns))) .nil,abQ,(λ_ z=>nomatch z),?_,λo c v F' H' g B e _ _ _ _ _ b _ _=>?_⟩
 ·unfold qS;exact⟨ns,rfl,hl,rfl⟩
 ·subst e
  cases b with
  |fz d=>rw [d.bl_eq];exact q H'
theorem all_mk{l:PySem.W.OpenLaw}{w:World}{K:Frag}{h:Heap}{mg:Str->Option Value}{fa f0 f1 f2 f3 f4 f5 f6 f7 f8 f9 f10 f11 f12 f13 f14 f15 f16 f17 f18 f19 f20 f21 f22 f23 f24 f25 f26 f27 f28 f29 f30 f31 f32 f33 f34 f35 f36 f37 f38 f39 f40 f41 f42 f43 f44 f45 f46 f47 f48 f49:Addr}{u0 u1 u2 u3 u4 u5 u6 u7 u8 u9 u10 u11 u12 u13 u14 u15 u16 u17 u18 u19 u20 u21 u22 u23 u24 u25 u26 u27 u28 u29 u30 u31 u32 u33 u34 u35 u36 u37 u38 u39 u40 u41 u42 u43 u44 u45 u46 u47 u48 u49:FuncData}{C fi fm0 fm1 fm2 fm3 fm4 fm5 fm6:Addr}{ui um0 um1 um2 um3 um4 um5 um6:FuncData}(X:K.In h)(G:h.Ns mainGlobals mg)(hfa:mg "law" = some (.ref fa))
  (d0:Df K "length_alone" oB f0 u0)
  (d1:Df K "parts_of" uk f1 u1)
  (d2:Df K "begun" uq f2 u2)
  (d3:Df K "found" uy f3 u3)
  (d4:Df K "make" Bb f4 u4)
  (d5:Df K "is_name" oI f5 u5)
  (d6:Df K "is_sign" oJ f6 u6)
  (d7:Df K "is_text" oK f7 u7)
  (d8:Df K "are_rising_signs" oM f8 u8)
  (d9:Df K "is_form" oN f9 u9)
  (d10:Df K "is_rule" oO f10 u10)
  (d11:Df K "names_rise" uN f11 u11)
  (d12:Df K "is_book" oP f12 u12)
  (d13:Df K "may_be_empty" JP f13 u13)
  (d14:Df K "empty_names" oR f14 u14)
  (d15:Df K "begins_of_row" Be f15 u15)
  (d16:Df K "begins_of_form" uR f16 u16)
  (d17:Df K "steps_of" uS f17 u17)
  (d18:Df K "steps_within" oW f18 u18)
  (d19:Df K "endless_rules" lM f19 u19)
  (d20:Df K "loop" Bg f20 u20)
  (d21:Df K "asked_anew" Bc f21 u21)
  (d22:Df K "asked_of" lF f22 u22)
  (d23:Df K "is_whole" lG f23 u23)
  (d24:Df K "is_place" lH f24 u24)
  (d25:Df K "refuse_wrong_book" JV f25 u25)
  (d26:Df K "refuse_wrong" Nb f26 u26)
  (d27:Df K "made_alone" uY f27 u27)
  (d28:Df K "reading" lO f28 u28)
  (d29:Df K "_law_cell_at" Bh f29 u29)
  (d30:Df K "_law_stir" Bi f30 u30)
  (d31:Df K "_law_well" Bj f31 u31)
  (d32:Df K "_law_draw" Bk f32 u32)
  (d33:Df K "_law_new_name" lQ f33 u33)
  (d34:Df K "_law_listed" o5 f34 u34)
  (d35:Df K "tree_of" oY f35 u35)
  (d36:Df K "tree" Bn f36 u36)
  (d37:Df K "paper_of" lS f37 u37)
  (d38:Df K "paper" vj f38 u38)
  (d39:Df K "is_paper_rule" lT f39 u39)
  (d40:Df K "are_paper_rules" iC f40 u40)
  (d41:Df K "has_paper_parts" jB f41 u41)
  (d42:Df K "is_paper" lV f42 u42)
  (d43:Df K "_law_named" vt f43 u43)
  (d44:Df K "_law_other" vy f44 u44)
  (d45:Df K "_law_tree" vz f45 u45)
  (d46:Df K "_law_tail" vA f46 u46)
  (d47:Df K "_law_chain" pd f47 u47)
  (d48:Df K "_law_good" Bp f48 u48)
  (d49:Df K "law" Km f49 u49)
  (z0:PySem.W.nsIn K mainGlobals "len" = some none)
  (z1:PySem.W.nsIn K mainGlobals "max" = some none)
  (z2:PySem.W.nsIn K mainGlobals "min" = some none)
  (z3:PySem.W.nsIn K mainGlobals "isinstance" = some none)
  (z4:PySem.W.nsIn K mainGlobals "all" = some none)
  (z5:PySem.W.nsIn K mainGlobals "any" = some none)
  (z6:PySem.W.nsIn K mainGlobals "sorted" = some none)
  (z7:PySem.W.nsIn K mainGlobals "range" = some none)
  (z8:PySem.W.nsIn K mainGlobals "str" = some none)
  (z9:PySem.W.nsIn K mainGlobals "bool" = some none)
  (z10:PySem.W.nsIn K mainGlobals "int" = some none)
  (z11:PySem.W.nsIn K mainGlobals "list" = some none)
  (z12:PySem.W.nsIn K mainGlobals "tuple" = some none)
  (z13:PySem.W.nsIn K mainGlobals "dict" = some none)
  (z14:PySem.W.nsIn K mainGlobals "ord" = some none)
  (z15:PySem.W.nsIn K mainGlobals "ValueError" = some none)
  (z16:PySem.W.nsIn K mainGlobals "reversed" = some none) {tk0:Tok}
  (gl0:PySem.W.nsIn K mainGlobals "LETTERS" = some (some (.str "abcdefghijklmnopqrstuvwxyz" tk0))) {tk1:Tok}
  (gl1:PySem.W.nsIn K mainGlobals "MOST_LETTERS" = some (some (.int 8 tk1))) {tk2:Tok}
  (gl2:PySem.W.nsIn K mainGlobals "MOST_SIGNS" = some (some (.int 40 tk2))) {tk3:Tok}
  (gl3:PySem.W.nsIn K mainGlobals "MOST_PARTS" = some (some (.int 8 tk3))) {tk4:Tok}
  (gl4:PySem.W.nsIn K mainGlobals "BARRED_SIGN" = some (some (.int 37 tk4))) {tk5:Tok}
  (gl5:PySem.W.nsIn K mainGlobals "MOST_ROWS" = some (some (.int 2000 tk5))) {ta0:Addr} {odt0:Option Addr} {nt0:Nat} {slt0:Array (Option Value)} {tt0_0 tt0_1:Tok}
  (ga0:PySem.W.nsIn K mainGlobals "WORDS_ALONE" = some (some (.ref ta0)))
  (gt0:K.lookup ta0=some ⟨.type "tuple", odt0,.seq #[.str "none" tt0_0,.str "any" tt0_1] nt0,slt0⟩) {ta1:Addr} {odt1:Option Addr} {nt1:Nat} {slt1:Array (Option Value)} {tt1_0 tt1_1 tt1_2:Tok}
  (ga1:PySem.W.nsIn K mainGlobals "WORDS_WITH_ONE" = some (some (.ref ta1)))
  (gt1:K.lookup ta1=some ⟨.type "tuple", odt1,.seq #[.str "again" tt1_0,.str "ahead" tt1_1,.str "not" tt1_2] nt1,slt1⟩) {ta2:Addr} {odt2:Option Addr} {nt2:Nat} {slt2:Array (Option Value)} {tt2_0 tt2_1:Tok}
  (ga2:PySem.W.nsIn K mainGlobals "WORDS_WITH_SOME" = some (some (.ref ta2)))
  (gt2:K.lookup ta2=some ⟨.type "tuple", odt2,.seq #[.str "row" tt2_0,.str "first" tt2_1] nt2,slt2⟩) {ta3:Addr} {odt3:Option Addr} {nt3:Nat} {slt3:Array (Option Value)} {tt3_0 tt3_1 tt3_2 tt3_3:Tok}
  (ga3:PySem.W.nsIn K mainGlobals "WORDS_EVER_EMPTY" = some (some (.ref ta3)))
  (gt3:K.lookup ta3=some ⟨.type "tuple", odt3,.seq #[.str "none" tt3_0,.str "again" tt3_1,.str "ahead" tt3_2,.str "not" tt3_3] nt3,slt3⟩)
  (cN:PySem.W.nsIn K mainGlobals "Asking" = some (some (.ref C)))
  (mi:DfM K C "__init__" "Asking.__init__" ug fi ui)
  (mm0:DfM K C "end" "Asking.end" AY fm0 um0)
  (mm1:DfM K C "wanted" "Asking.wanted" ly fm1 um1)
  (mm2:DfM K C "take_in_row" "Asking.take_in_row" A6 fm2 um2)
  (mm3:DfM K C "take_in_first" "Asking.take_in_first" oE fm3 um3)
  (mm4:DfM K C "take_in_again" "Asking.take_in_again" oF fm4 um4)
  (mm5:DfM K C "take" "Asking.take" uu fm5 um5)
  (mm6:DfM K C "members" "Asking.members" Bl fm6 um6)
  (cM:PySem.W.makesIn K C=true)
  (cK:PySem.W.keepIn K (.ref C)=true)
  (pg:PySem.W.plainGet K C Str.empty=true)
  (hd:PySem.W.hasDictIn K C=true)
  (po:PySem.W.plainOver K C=true)
  (sa:PySem.W.findIn K (.ref C) "__setattr__" = some (some (.builtin "object.__setattr__")))
  (na0:PySem.W.findIn K (.ref C) "form" = some none)
  (na1:PySem.W.findIn K (.ref C) "name" = some none)
  (na2:PySem.W.findIn K (.ref C) "place" = some none)
  (na3:PySem.W.findIn K (.ref C) "at" = some none)
  (na4:PySem.W.findIn K (.ref C) "turn" = some none)
  (na5:PySem.W.findIn K (.ref C) "steps" = some none)
  (na6:PySem.W.findIn K (.ref C) "done" = some none)
  (na7:PySem.W.findIn K (.ref C) "length" = some none)
  : ∃fd:FuncData,(∀(s:Shared) (v:Value),BindsTo s fd ⟨[v],[]⟩ [("script", v)])/\∀base:Heap,K.In base->base.Ns mainGlobals mg->FnOk l.prog w K mg base CX0 13 fa fd ["script"] (Ax K):=by
 have e:=hfa.symm.trans (aaH X G d49.ns);cases e;have T:Txt K mg:=⟨aar X G z0,aar X G z1,aar X G z2,aar X G z3,aar X G z4,aar X G z5,aar X G z6,aar X G z7,aar X G z8,aar X G z9,aar X G z10,aar X G z11,aar X G z12,aar X G z13,aar X G z14,aar X G z15,aar X G z16,⟨_,aaH X G gl0,⟨_,rfl⟩⟩,⟨_,aaH X G gl1,⟨_,rfl⟩⟩,⟨_,aaH X G gl2,⟨_,rfl⟩⟩,⟨_,aaH X G gl3,⟨_,rfl⟩⟩,⟨_,aaH X G gl4,⟨_,rfl⟩⟩,⟨_,aaH X G gl5,⟨_,rfl⟩⟩,⟨ta0,aaH X G ga0,λ_=>.inr ⟨_,_,_,gt0,rfl,rfl,(by show 2<=sizeLine;decide),(.cons ⟨_,rfl⟩ (.cons ⟨_,rfl⟩ Paired.nil))⟩⟩,⟨ta1,aaH X G ga1,λ_=>.inr ⟨_,_,_,gt1,rfl,rfl,(by show 3<=sizeLine;decide),(.cons ⟨_,rfl⟩ (.cons ⟨_,rfl⟩ (.cons ⟨_,rfl⟩ Paired.nil)))⟩⟩,⟨ta2,aaH X G ga2,λ_=>.inr ⟨_,_,_,gt2,rfl,rfl,(by show 2<=sizeLine;decide),(.cons ⟨_,rfl⟩ (.cons ⟨_,rfl⟩ Paired.nil))⟩⟩,⟨ta3,aaH X G ga3,λ_=>.inr ⟨_,_,_,gt3,rfl,rfl,(by show 4<=sizeLine;decide),(.cons ⟨_,rfl⟩ (.cons ⟨_,rfl⟩ (.cons ⟨_,rfl⟩ (.cons ⟨_,rfl⟩ Paired.nil))))⟩⟩⟩;refine⟨u49,?_,λbase _ _=>?_⟩
 ·obtain⟨oc,od,kV,doc,pm,an,cdv,ct,osl,rfl,lk,hcd⟩:=d49.fn.ex;exact λs v=>.of_eq rfl
 have t:TopZ ⟨l.prog,w,K,mg,base,h⟩ (Txt K mg):=⟨X,G,T⟩;have hC:ClsF K 0 C:=Jr cN pg hd po sa (abS.mpr ⟨na0,abS.mpr ⟨na1,abS.mpr ⟨na2,abS.mpr ⟨na3,abS.mpr ⟨na4,abS.mpr ⟨na5,abS.mpr ⟨na6,abS.mpr ⟨na7,λ_ z=>nomatch z⟩⟩⟩⟩⟩⟩⟩⟩);have A_ainit:=FW t hC mi cN cM cK;have c:=Kn t hC mm0;have b:=vJ t hC mm1;have A_arow:=Ko t hC mm2 c;have V:=Af t hC mm3 c;have W:=Ag t hC mm4 c;have u:=FX t hC mm5 b c A_arow V W;have A_amem:=Kq t hC mm6;have P:=Ah t hC d0;have f:=FY t hC d1;have r:=FZ t hC d2 A_ainit c f P;have O_found:=F0 t hC d3;have O_make:=Kr t hC d4 b u r O_found;have a:=Ai t hC d5;have Q:=Aj t hC d6;have d:=Ak t hC d7 Q;have N:=Al t hC d8 d;have m:=Am t hC d9 N a;have R:=An t hC d10 a m;have p:=F6 t hC d11;have S:=Ao t hC d12 R p;have O_may:=ME t hC d13 f;have U:=Ap t hC d14 O_may;have O_brow:=Kt t hC d15;have O_bform:=F7 t hC d16 f O_brow;have Y:=F8 t hC d17 U O_bform;have L:=Aq t hC d18;have E:=vN t hC d19 L;have I:=Ku t hC d20 Y E;have J:=Kv t hC d21 b u r;have F:=vQ t hC d22 J;have i:=vR t hC d23;have D:=vS t hC d24 i;have O_rwb:=MF t hC d25 S I;have O_rw:=o_rw t hC d26 O_rwb a d D;have g:=F9 t hC d27 O_rw O_make;have x:=vT t hC d28 g F;have O_cell:=Kx t hC d29;have H:=Ky t hC d30;have O_well:=Kz t hC d31 H;have n:=KA t hC d32 H;have A:=vV t hC d33 n;have k:=Ar t hC d34;have M:=Av t hC d35 A_amem J;have O_tree:=KB t hC d36 g M;have y:=vW t hC d37;have Z:=Ga t hC d38 g y;have B:=vY t hC d39 a m;have o:=nv t hC d40 B p;have q:=qT t hC d41 a i d o;have j:=vZ t hC d42 q I x;have O_named:=Gb t hC d43 A;have O_other:=Gc t hC d44 n;have O_ltree:=Gd t hC d45;have O_ltail:=Ge t hC d46;have O:=Aw t hC d47;have O_good:=KC t hC d48 k Z j O_tree;exact(o_law t hC d49 O_cell O_well n O_other O_named k O_ltree O_ltail O O_good j).imp KD
theorem walk{l:PySem.W.OpenLaw}{c:World->Heap->Prop}{d:DefRec}{K:Params->Frag}(e:l.most=some 63)(b:d.params.defaults=[])
  (g:∀(w:World) (h:Heap),c w h->(K w.params).In h)
  (F:∀(w:World) (mg:Str->Option Value) (fa:Addr) (h:Heap),(K w.params).In h->h.Ns mainGlobals mg->mg d.name=some (.ref fa) ->
   ∃fd:FuncData,(∀(s:Shared) (u:Value),BindsTo s fd ⟨[u],[]⟩ [("script", u)])/\∀base:Heap,(K w.params).In base->base.Ns mainGlobals mg->FnOk l.prog w (K w.params) mg base CX0 13 fa fd ["script"] (Ax (K w.params))) :
  PySem.W.WalkO q loose XP c l.row.toRowW d [] (λf vs=>PySem.call f vs):=
 L2.walk_of (n:=63) (k:=13) (x := "script") (CX:=λ_=>CX0) (sp:=λw=>Ax (K w.params)) e (by decide) b ⟨rfl,by decide,by decide,rfl⟩ g F (λ_ _ a ns hl _ i=>⟨a,ns,rfl,i,hl,λ_=>rfl⟩) λ_ _ _ _ _ z=>z
theorem walkX{r:PySem.W.RowW}{d:DefRec}{f:List (Str×Expr)}{run:Value->List Value->Sem Value}{K:Params->Frag}{as:List Addr}{n t:Nat}(e:∀P,as=(K P).map (·.1))(W:PySem.W.WalkO q loose XP (λw h=>(K w.params).In h) r d f run) :
  PySem.W.WalkX q loose XP (PySem.W.X.obsZ as) (PySem.W.X.valZ K n t) r d f run:=by
 intro w s₀ c mg u G y a o pm A doc z kV ho hd p x l v args b s L g i k j m;exact W w s₀ c mg u G (PySem.W.InK.keeps w _ _ (PySem.W.X.z_facts e y).2.1 L.keeps) a o pm A doc z kV ho hd p x l v args b s g i k j m
end KR
open PySem PySem.W PyProof.Rows
local macro_rules|`(tactic|walk_at "df") => `(tactic|(refine' L2.df_mk ?a ?l ?c ?k;(case a => k_is);(case l => k_is);(case c => k_is);(case k => k_is)))
local macro_rules|`(tactic|walk_at "dm") => `(tactic|(refine' L2.dfm_mk ?a ?i ?l ?c ?k;(case a => k_is);(case i => k_is);(case l => k_is);(case c => k_is);(case k => k_is)))
namespace PySem.W.Fast
def tw8554799037400720003:=0
def tw4653772259694553236:=0
def tw9813063036139138326:=0
def tw13039849461252495262:=0
def tw16447776372000109249:=0
def tw2133127722270680182:=0
def tw18312073455336438970:=0
def tw41148945770554596:=0
def tw12067058873367686483:=0
def tw5386590626938364313:=0
def tw4983494890136472565:=0
def tw14517166202345956897:=0
def tw3268396807596997253:=0
def tw13587313592338216666:=0
def tw17485602379634642743:=0
def tw11589839231234469452:=0
def tw1767880607075760682:=0
def tw8921875711863743573:=0
def tw15127924472312399762:=0
def tw17042107024198239986:=0
def tw716178632649544981:=0
def tw11256519592325527668:=0
def tw8481105111981652929:=0
def tw17455832072950369103:=0
def tw12720811214915995456:=0
def tw3219909913478012245:=0
def tw4709408607102301876:=0
def tw13501225281202853528:=0
def tw15960007467841455547:=0
def tw3446075077893026400:=0
def tw4173862087512268726:=0
def tw7776546820247478554:=0
def tw11189755027153171377:=0
def tw6584095410983184019:=0
def tw10282960489639061082:=0
def tw15484690351427650032:=0
def tw7019225275954228763:=0
def tw9563163302767498353:=0
def tw4733181336943003951:=0
def tw5957158852321423091:=0
def tw16338330006083064807:=0
def tw8874920261925927988:=0
def tw13672355857759993135:=0
def tw11426510584991810789:=0
def tw17936392493945333944:=0
def tw9506300934531968106:=0
def tw8059385159708543414:=0
def tw10606317712845414774:=0
def tw18386043932997176805:=0
def tw10895638231288771040:=0
def tw12129267676946436633:=0
def tw739340250175874346:=0
def tw5128327208885703473:=0
def tw15074359820923257981:=0
def tw7305493985544958460:=0
def tw9713321478984704459:=0
def tw17397541475081636314:=0
def tw6378002260536534212:=0
def tw17903610086940433477:=0
def tw18433653803430877801:=0
def tw11542460695686157278:=0
def tw8328317973645790365:=0
def tw18425807867938213241:=0
def tw10864765909619847905:=0
def tw264708759622519929:=0
def tw14731825103436656854:=0
def tw1301022013497218933:=0
def tw3811689591170158374:=0
def tw6846236721767857170:=0
def tw10904667241559603927:=0
def tw9549739936746982900:=0
def tw5440416483661717630:=0
def tw7496202446282761177:=0
def tw3204907528252114699:=0
def tw9852770274484244338:=0
def tw15454012112816106895:=0
def tw10054115509038342057:=0
def tw15848597403374406110:=0
def tw11133049416543685356:=0
def tw6522800556498932390:=0
def tw17224217714582789833:=0
def tw13665909016849980157:=0
def tw18147721227352050137:=0
def tw814835060462179392:=0
def tw11677025113571369073:=0
def tw3599486204090472274:=0
def tw1890312656513960453:=0
def tw17107167706533161378:=0
def tw15724640541455346822:=0
def tw11887798968892192853:=0
def tw15325869535139888284:=0
def tw11976876646933187888:=0
def tw6436351544797153332:=0
def tw5790440937943464004:=0
def tw4490621733052260903:=0
def tw11097993657039464664:=0
def tw10458732788725223965:=0
def tw8583422397409587061:=0
def tw15015414316424226011:=0
def tw17722961766107535701:=0
def tw1230863602025908873:=0
def tw6132743471909091940:=0
def tw10858193044088737097:=0
def tw13478656714691312823:=0
def tw3511592543491556513:=0
def tw6047479319499904020:=0
def tw4809414201142874666:=0
def tw8018036134874313570:=0
def tw16340583699617454970:=0
def tw12868156886352778602:=0
def tw11100138585418050814:=0
def tw6501581093678221111:=0
def tw18209285558933933833:=0
def tw11829724220035562462:=0
def tw8686397955862769009:=0
def tw7382190239223146859:=0
def tw2921908279112722795:=0
def tw5260265015916670070:=0
def tw13491052900380922603:=0
def tw1876526006101463067:=0
def tw8624549226533025345:=0
def tw8211913528842921087:=0
def tw17977061526908799761:=0
def tw17063191865278194563:=0
def tw7235707913003193182:=0
def tw8038687561633318220:=0
def tw2281163711418579848:=0
def tw13583865709641351833:=0
def tw17419351228526988393:=0
def tw8549133070046399832:=0
def tw3064373246762753054:=0
def tw6818798649702943407:=0
def tw9811134912174941671:=0
def tw17233213343937225893:=0
def tw11158327974331984140:=0
def tw9224686908896792585:=0
def tw3053795915044664987:=0
def tw12934356407027790080:=0
def tw8475440444398948819:=0
def tw4969472312070907927:=0
def tw16050205578699821729:=0
def tw17594760003461609664:=0
def tw736709563595037615:=0
def tw10164527478165672723:=0
def tw17401838569610449258:=0
def tw1317324800274650915:=0
def tw1190398067449452030:=0
def tw15190802544002198936:=0
def tw18128281891785856577:=0
def tw3703411665853895192:=0
def tw12449382832526211505:=0
def tw13495197790265115225:=0
def tw10857648210491726299:=0
def tw13551222273297068241:=0
def tw17254461350047849219:=0
def tw8529305023190666126:=0
def tw948192020754166837:=0
def tw16989481368140864295:=0
def tw14237514296686449335:=0
def tw8107510402662312017:=0
def tw4181391418449571350:=0
def tw12421514052528738596:=0
def tw4480100025068815566:=0
def tw12716856902077172731:=0
def tw1519870276266191833:=0
def tw7051472867627976039:=0
def tw6519633447523567303:=0
def tw13316253768413925429:=0
def tw12979075223063842768:=0
def tw8904291671680291816:=0
def tw3509215440523485413:=0
def tw16140088059645820372:=0
def tw3968440966158640552:=0
def tw17041220871127364891:=0
end PySem.W.Fast
set_option maxRecDepth 100000 in
set_option maxHeartbeats 0 in
theorem PySem.Challenge.cw_keptreading_k68_long_papers_and_trees_holds : PySem.Challenge.rw_keptreading_k68_long_papers_and_trees.Holds := by
  w_on; o_law; z_head; (case hw=>w_witness2)
  k_fill
  refine KR.walkX (λ _=>rfl) (KR.walk (l:=PySem.Challenge.rw_keptreading_k68_long_papers_and_trees) rfl rfl (λ w h Y=>Y) ?F)
  case F =>
    intro w mg fa h KX G hmg
    refine' KR.all_mk KX G hmg ?_ ?_ ?_ ?_ ?_ ?_ ?_ ?_ ?_ ?_ ?_ ?_ ?_ ?_ ?_ ?_ ?_ ?_ ?_ ?_ ?_ ?_ ?_ ?_ ?_ ?_ ?_ ?_ ?_ ?_ ?_ ?_ ?_ ?_ ?_ ?_ ?_ ?_ ?_ ?_ ?_ ?_ ?_ ?_ ?_ ?_ ?_ ?_ ?_ ?_ ?_ ?_ ?_ ?_ ?_ ?_ ?_ ?_ ?_ ?_ ?_ ?_ ?_ ?_ ?_ ?_ ?_ ?_ ?_ ?_ ?_ ?_ ?_ ?_ ?_ ?_ ?_ ?_ ?_ ?_ ?_ ?_ ?_ ?_ ?_ ?_ ?_ ?_ ?_ ?_ ?_ ?_ ?_ ?_ ?_ ?_ ?_ ?_ ?_ ?_ ?_ ?_ ?_ ?_
    any_goals first | walk_at "df" | walk_at "dm" | k_is
