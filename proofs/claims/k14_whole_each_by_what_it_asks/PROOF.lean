import PyProof.Rows.All
import Wide.All
import OpenK.AllK
import Wide.FinOn
import Lean
import PyProof.EqAt
import PyProof.EqKinds
import PyProof.TupleCall
import PySem.Challenge.RW_keptreading_k14_whole_each_by_what_it_as
set_option bootstrap.genMatcherCode false
set_option genSizeOf false
set_option genSizeOfSpec false
set_option genInjectivity false
set_option Elab.async false
set_option linter.all false
set_option maxRecDepth 100000
open PySem.W (Frag)
noncomputable section
local macro_rules|`(tactic|nofun) => `(tactic|(first|lia|omega))
local macro_rules|`(tactic|exists $h:term) => `(tactic|(first|exact List.mem_singleton.mp $h|simpa using $h))
local macro_rules|`(tactic|ext) => `(tactic|(conv => whnf))
section
local macro_rules|`(tactic|revert $x:ident)=>`(tactic|(ext;refine $x ?_))|`(tactic|revert $x:term)=>`(tactic|(ext;refine $x))|`(tactic|revert $x $y $z*)=>`(tactic|(revert $x;revert $y $z*))
local macro_rules(kind:=«term{_}»)|`({$x,*})=>`(⟨$x,*⟩)
local macro_rules|`(↑$x)=>`(some $x)
local macro_rules|`(!$x)=>`(some $x)
local macro_rules|`(⇑$x)=>`(not $x)
local macro_rules|`(↥$x)=>`(List $x)
local macro_rules|`(())=>`(by nofun)
local macro_rules|`(∅)=>`(by decide +kernel)
local macro_rules|`($m:declModifiers def $n:declId $s:optDeclSig:=by $v)=>`($m:declModifiers theorem $n:declId $(⟨.node .none ``Lean.Parser.Command.declSig #[s.raw[0],s.raw[1][0]]⟩):declSig:=by $v)|`($m:declModifiers def $n:declId $s:optDeclSig:=-$v)=>`($m:declModifiers theorem $n:declId $(⟨.node .none ``Lean.Parser.Command.declSig #[s.raw[0],s.raw[1][0]]⟩):declSig:=$v)
set_option compiler.extract_closed false
def abP:=@List.length_map
def abQ:=@List.mem_append
def abR:=@List.mem_singleton
def abS:=@List.mem_cons
def abT:=@List.map_cons
def abU:=@Bool.false_ne_true
def abV:=@List.nodup_cons
def abW:=@List.mem_map
def abX:=@List.length_cons
def abY:=@List.size_toArray
def abZ:=@Array.length_toList
def ab0:=@List.nodup_append
def ab1:=@Bool.and_eq_true_iff
def ab2:=@Bool.and_eq_true
def ab3:=@List.mem_filter
def ab4:=@Option.isSome_iff_exists
def ab5:=@List.forall_mem_cons
def ab6:=@Int.toNat_natCast
def ab7:=@List.pairwise_iff_getElem
def ab8:=@List.length_range
def ab9:=@Bool.eq_false_iff
def aca:=@List.mem_range
def acb:=@List.zip_cons_cons
def acd:=@List.mem_iff_getElem
def ace:=@List.not_lt
def acf:=@Nat.lt_trans
def acg:=@Nat.le_of_lt
def ach:=@Int.le_trans
def aaa:=@PySem.wpAny_bind
def aab:=@List.mem_cons_self
def aac:=@Nat.le_refl
def aad:=@List.mem_cons_of_mem
def aae:=@List.map_append
def aaf:=@PySem.wpAny_pure
def aag:=@List.length_append
def aah:=@PySem.Heap.lt_size
def aai:=@List.take_of_length_le
def aaj:=@Option.map_eq_some_iff
def aak:=@Option.some.inj
def aal:=@List.mem_append_right
def aam:=@Nat.ne_of_lt
def aan:=@Nat.zero_le
def aao:=@List.length_take
def aap:=@List.take_succ
def aaq:=@Nat.lt_of_lt_of_le
def aar:=@Nat.le_trans
def aas:=@PySem.W.mg_none_of
def aat:=@List.drop_eq_getElem_cons
def aau:=@List.mem_append_left
def aav:=@List.map_map
def aaw:=@List.append_nil
def aax:=@List.Nodup.length_le_of_subset
def aay:=@List.append_assoc
def aaz:=@PySem.W.kia_one
def aaA:=@List.eq_nil_of_length_eq_zero
def aaB:=@List.Perm.refl
def aaC:=@PySem.wpAny_call_entry
def aaD:=@Nat.lt_succ_self
def aaE:=@List.length_replicate
def aaF:=@List.length_set
def aaG:=@PySem.Around.under_plainId
def aaH:=@List.nodup_nil
def aaI:=@List.lookup_cons
def aaJ:=@List.getElem_mem
def aaK:=@List.any_eq_true
def aaL:=@PySem.wpAny_truthy_bool
def aaM:=@PySem.wpAny_newObj_type
def aaN:=@List.length_drop
def aaO:=@List.drop_length
def aaP:=@Nat.lt_succ_of_lt
def aaQ:=@List.length_singleton
def aaR:=@List.drop_zero
def aaS:=@PySem.wpAny_holding
def aaT:=@List.all_cons
def aaU:=@PySem.mem_of_lookup
def aaV:=@Bool.not_eq_true'
def aaW:=@PySem.W.mg_of
def aaX:=@List.Perm.append_left
def aaY:=@List.filter_append
def aaZ:=@Nat.lt_irrefl
def aa0:=@PySem.Heap.size_push
def aa1:=@List.take_sublist
def aa2:=@PyProof.Rows.callWith_type1
def aa3:=@List.length_reverse
def aa4:=@PySem.Paired.length
def aa5:=@List.set_set
def aa6:=@List.length_filter_le
def aa7:=@Nat.le_succ
def aa8:=@PyProof.Rows.slot_tuple_getitem
def aa9:=@PySem.wpAny_of_eq
def aba:=@Nat.add_sub_cancel_left
def abb:=@List.Perm.append_right
def abd:=@PySem.Calls.callWith_builtin
def abe:=@PySem.wpAny_setField_rec
def abf:=@PySem.F.slot_dict_keyiterator_next
def abg:=@PySem.wpAny_passesOwn
def abh:=@Sum.inr.inj
def abi:=@List.perm_append_comm
def abj:=@Bool.eq_iff_iff
def abk:=@PySem.wpAny_setState_of
def abl:=@List.foldl_append
def abm:=@List.mem_of_mem_take
def abn:=@Array.toArray_toList
def abo:=@PyProof.Rows.F.plain_set_update_loop
def abp:=@PySem.wpAny_askSetting
def abq:=@PySem.wpAny_setEntries_of
def abr:=@List.map_congr_left
def abt:=@List.getElem_of_mem
def abu:=@List.filterMap_cons
def abv:=@PySem.wpAny_mono
def abw:=@List.any_map
def abx:=@PySem.wpAny_getItem_str_slice
def aby:=@PySem.F.plainAttrs_dict
def abz:=@Ne.symm
def abA:=@List.length_nil
def abB:=@List.any_cons
def abC:=@Int.eq_ofNat_of_zero_le
def abD:=@List.length_pos_of_mem
def abE:=@PySem.wpAny_rule
def abF:=@PySem.W.kitx_dict
def abG:=@List.reverse_cons
def abH:=@List.nodup_append
def abI:=@Bool.eq_false_iff
def abJ:=@Nat.succ_le_succ
def abK:=@List.mem_reverse
def abL:=@List.getElem_map
def abM:=@List.all_eq_true
def abN:=@List.mem_of_mem_drop
def abO:=@PySem.wpAny_attempt
namespace L2
def aF(_:True:=by first|exact .inl rfl|exact .inr rfl|assumption):True:=-trivial
def aD(_:True:=by decide):True:=-trivial
def aI(_:True:=by intro _;rfl):True:=-trivial
def aR(_:True:=by rfl):True:=-trivial
end L2
namespace L2
open PySem PySem.Spec PyProof.Rows
variable{a b it dx C:Addr}{u:Value}{P prog:Program}{w:World}{h h' base:Heap}{α:Type}{x name m qual:Str}{e c tg l:Expr}{pins:↥(Addr×Obj)}{s s':Shared}{t' i j k n:Nat}{ch fp:↥Addr}{N ps:↥Str}{A:Around}{E Q:Value->Shared->Prop}{pos pos' p apos:Pos}{op op':CmpOp}{es:↥Expr}{g:Int->Int->Int}{body:↥Stmt}{f:Value->Value->Sem Value}{us:↥Value}{mA mg:Str->Option Value}{pl:Sem Bool}{kw:↥(Str×Value)}{fd:FuncData}{outer:↥Env}{scope:Scope}
abbrev Key:=Sum Int Str
def jO:Key->Value->Bool
 |.inl k,v=>Value.isInt k v
 |.inr x,v=>Value.isStrOf x v
def keyH(w:World):Key->Int
 |.inl k=>hashInt k
 |.inr x=>hashStr w x
theorem aT:∀{k:Key} {v:Value},jO k v=true->(∃i t,k=Sum.inl i/\v=Value.int i t)∨(∃x t,k=Sum.inr x/\v=Value.str x t)
 | .inl i,v,h=>by
  obtain⟨t,e⟩:=Value.isInt_shape (k:=i) (v:=v) h;exact .inl {(i),t,rfl,e}
 | .inr x,v,h=>by
  obtain⟨t,e⟩:=Value.isStrOf_shape (x:=x) (v:=v) h;exact .inr {(x),t,rfl,e}
def qQ(i:Int)(t:Tok):jO (.inl i) (.int i t)=true:=by simp[jO,Value.isInt]
def kO(x:Str)(t:Tok):jO (.inr x) (.str x t)=true:=by simp[jO,Value.isStrOf]
def F9(a b:Int):decide ((Sum.inl a:Key)=Sum.inl b)=(a==b):=by
 by_cases e:a=b
 .subst e;simp
 .have h:¬(Sum.inl a:Key)=Sum.inl b:=λq=>e (Sum.inl.inj q);rw[decide_eq_false h];exact(beq_eq_false_iff_ne.mpr e).symm
def Ga(a b:Str):decide ((Sum.inr a:Key)=Sum.inr b)=decide (a=b):=by
 by_cases e:a=b
 .subst e;simp
 .have h:¬(Sum.inr a:Key)=Sum.inr b:=λq=>e (abh q);rw[decide_eq_false h,decide_eq_false e]
def Gb(a:Int)(b:Str):decide ((Sum.inl a:Key)=Sum.inr b)=false:=-decide_eq_false (λq=>nomatch q)
def Gc(a:Str)(b:Int):decide ((Sum.inr a:Key)=Sum.inl b)=false:=-decide_eq_false (λq=>nomatch q)
def aw(prog:Program)(w:World):PySem.KeyKind prog w Key where
 is:=jO
 hash:=keyH w
 inj:=λv a b ha hb=>by
  rcases aT ha with ⟨i,t,rfl,rfl⟩|⟨x,t,rfl,rfl⟩
  .rcases aT hb with ⟨j,u,rfl,e⟩|⟨y,u,rfl,e⟩
   .injection e with e1 _;rw[e1]
   .exact nomatch e
  .rcases aT hb with ⟨j,u,rfl,e⟩|⟨y,u,rfl,e⟩
   .exact nomatch e
   .injection e with e1 _;rw[e1]
 byValue:=λk v h=>by
  rcases aT h with ⟨i,t,rfl,rfl⟩|⟨x,t,rfl,rfl⟩ <;> rfl
 pyHash:=λhv h=>by
  rcases aT hv with ⟨i,t,rfl,rfl⟩|⟨x,t,rfl,rfl⟩
  .exact wpAny_pyHash_int h
  .exact wpAny_pyHash_str h
 eqBool:=λhu hv h=>by
  rcases aT hu with ⟨i,t,rfl,rfl⟩|⟨x,t,rfl,rfl⟩
  .rcases aT hv with ⟨j,u,rfl,rfl⟩|⟨y,u,rfl,rfl⟩
   .rw[F9] at h;exact wpAny_eqBool_int h
   .rw[Gb] at h;exact SeqAt.EqAt.int_str i t y u _ _ _ _ h
  .rcases aT hv with ⟨j,u,rfl,rfl⟩|⟨y,u,rfl,rfl⟩
   .rw[Gc] at h;exact SeqAt.EqAt.str_int x t j u _ _ _ _ h
   .rw[Ga] at h;exact wpAny_eqBool_str h
 «strs»:=λk x t v h=>by
  rcases aT h with ⟨i,u,rfl,e⟩|⟨y,u,rfl,e⟩
  .exact nomatch e
  .injection e with e1 _
   subst e1
   cases v <;> rfl
def mq(prog:Program)(w:World)(i:Int)(t:Tok):(aw prog w).is (.inl i) (.int i t)=true:=-qQ i t
def mr(prog:Program)(w:World)(x:Str)(t:Tok):(aw prog w).is (.inr x) (.str x t)=true:=-kO x t
inductive V where
 |non|bl (b:Bool)|int (i:Int)|str (x:Str)|byt (b:Array UInt8)|flt (b:UInt64)|ref (a:Addr)|ty (n:String)
 deriving DecidableEq
variable{v y:V}{xs vs:↥V}
def RelV:V->Value->Prop
 |.non,u=>u=Value.none
 |.bl b,u=>u=Value.bool b
 |.int i,u=>∃t,u=Value.int i t
 |.str x,u=>∃t,u=Value.str x t
 |.byt b,u=>∃t,u=Value.bytes b t
 |.flt b,u=>∃t,u=Value.float b t
 |.ref a,u=>u=Value.ref a
 |.ty n,u=>u=Value.type n
abbrev Vals:↥V->↥Value->Prop:=Paired RelV
def Vals.length{xs:↥V}{us:↥Value}(r:Vals xs us):xs.length=us.length:=-aa4 r
theorem Vals.get:∀{xs:↥V} {us:↥Value} {i:Nat} {x:V},Vals xs us->xs[i]?=!x->∃u,us[i]?=!u/\RelV x u
 |_,_,_,_,.nil,e=>by simp at e
 |_,_,0,_,.cons r _,e=>by simp at e;subst e;exact{_,rfl,r}
 | _,_,i+1,x,.cons _ t,e=>by
  obtain⟨u,h1,h2⟩:=Vals.get (i:=i) (x:=x) t (by exists e);exact{u,(by exists h1),h2}
theorem Vals.set{x:V}{u:Value}(r:RelV x u):∀{xs:↥V} {us:↥Value} (i:Nat),Vals xs us->Vals (xs.set i x) (us.set i u)
 |_,_,_,.nil=>.nil
 |_,_,0,.cons _ t=>.cons r t
 |_,_,i+1,.cons q t=>.cons q (Vals.set r i t)
theorem Vals.append:∀{xs ys:↥V} {us ws:↥Value},Vals xs us->Vals ys ws->Vals (xs++ys) (us++ws)
 |_,_,_,_,.nil,s=>s
 |_,_,_,_,.cons r t,s=>.cons r (Vals.append t s)
theorem Vals.take:∀{xs:↥V} {us:↥Value} (n:Nat),Vals xs us->Vals (xs.take n) (us.take n)
 |_,_,0,_=>.nil
 |_,_,_+1,.nil=>.nil
 |_,_,n+1,.cons r t=>.cons r (Vals.take n t)
theorem Vals.drop:∀{xs:↥V} {us:↥Value} (n:Nat),Vals xs us->Vals (xs.drop n) (us.drop n)
 |_,_,0,r=>r
 |_,_,_+1,.nil=>.nil
 |_,_,n+1,.cons _ t=>Vals.drop n t
def RelO:Option V->Option Value->Prop
 |some v,↑u=>RelV v u
 |none,none=>True
 |_,_=>False
def KV{κ:Type}:↥(κ×V)->↥(κ×Value)->Prop:=Paired λ(p:κ×V) (q:κ×Value)=>p.1=q.1/\RelV p.2 q.2
def kV:Key->V
 |.inl i=>.int i
 |.inr x=>.str x
inductive HO where
 |lst (xs:↥V)
 |tup (xs:↥V)
 |dK (kvs:↥(Key×V))|dT (kvs:↥(↥Key×V))
 |set (S:Int->Bool) (n:Nat)
 |ins (C dx:Addr) (fs:↥(Str×V))
 |own (x:Addr)
 |xd (fs:↥(Str×V))
 |met (f x:Addr)
 |rng (lo hi:Int)
 |frz (o:Obj) (u:HO)
 |tbl (ps:Array Value)
 |ext (φ:Heap->Prop)
variable{o:HO}
abbrev Hp:=Addr->Option HO
variable{H H':Hp}{R:V->V->Hp->Prop}
def upd(H:Hp)(a:Addr)(o:HO):Hp:=λb=>if b=a then ↑o else H b
def ag :upd H a o a=!o:=by unfold upd;rw[if_pos rfl]
def aj(h:b≠a):upd H a o b=H b:=by unfold upd;rw[if_neg h]
def KU{u:HO}(h:H a=!o)(h':H b=!u)(d:o≠u):a≠b:=by
 intro e;subst e;rw[h] at h';exact d (aak h')
def cx(h:H a=!o)(h':H b=none):a≠b:=by
 intro e;subst e;rw[h] at h';cases h'
section
variable (P:Program) (w:World)
def ObjOk(H:Hp)(h:Heap)(a:Addr):HO->Prop
 |.lst xs=>xs.length<=sizeLine/\∃(its:↥Value) (n:Nat),Vals xs its/\h.get? a=some { cls:=.type "list", data:=.seq its.toArray n }
 |.tup xs=>xs.length<=sizeLine/\∃its:↥Value,Vals xs its/\IsTup h a its.toArray
 |.dK kvs=>kvs.length<=sizeLine/\(a==sysModules)=false/\∃vs,KV kvs vs/\h.DictOf (aw P w) a vs
 | .dT kvs=>kvs.length<=sizeLine/\(a==sysModules)=false/\∃xs:↥(↥Key×Addr×Value),
   Paired (λ(p:↥Key×V) (q:↥Key×Addr×Value)=>p.1=q.1/\H q.2.1=!(.tup (p.1.map kV))/\RelV p.2 q.2.2) kvs xs /\
   ∃o es ep,h.get? a=!o/\o.ExactDict/\o.data=.dict es ep/\es.toList=xs.map (entryOfKey (tupleKind (aw P w)))/\(xs.map (·.1)).Nodup
 |.set S n=>h.SetOf (intKind P w) a S n
 | .ins C dx fs=>H dx=!(.own a)/\fs.length<=1000/\dx≠a/\h.get? a=↑(PySem.W.instObj C dx) /\
   ∃mA,h.Ns1 dx mA/\(∀f,RelO (fs.lookup f) (mA f))/\PySem.Within mA (fs.map (·.1))
 |.own _=>∃o,h.get? a=!o
 |.xd fs=>∃mA,h.Ns1 a mA/\∀f,RelO (fs.lookup f) (mA f)
 |.rng lo hi=>∃t u v,h.get? a=some { cls:=.type "range", data:=.fields #[.int lo t,.int hi u,.int 1 v] }
 |.frz o u=>h.get? a=!o/\ObjOk H h a u
 |.tbl ps=>h.get? a=some { cls:=.none,data:=.fields ps }
 |.met f x=>h.get? a=!(PySem.W.methodObj (.ref f) (.ref x))
 |.ext b=>b h/\(∃o,h.get? a=!o)/\∀h1 h2:Heap,b h1->(∀o,h1.get? a=!o->h2.get? a=!o)->b h2
def HOk(H:Hp)(h:Heap):Prop:=∀a o,H a=!o->ObjOk P w H h a o
end
def ObjOk.lt(x:ObjOk P w H h a o):a<h.objs.size:=by
 cases o with
 |lst xs=>obtain⟨_,_,_,_,e⟩:=x;exact aah e
 |tup xs=>obtain⟨_,_,_,p⟩:=x;exact p.lt
 |dK kvs=>obtain⟨_,_,_,_,o,_,_,e,_⟩:=x;exact aah e
 |dT kvs=>obtain⟨_,_,_,_,o,_,_,e,_⟩:=x;exact aah e
 |set S n=>obtain⟨o,_,_,_,e,_⟩:=x;exact aah e
 |ins C dx fs=>obtain⟨_,_,_,e,_⟩:=x;exact aah e
 |own y=>obtain⟨_,e⟩:=x;exact aah e
 |xd fs=>obtain⟨_,⟨_,_,_,e,_⟩,_⟩:=x;exact aah e
 |rng lo hi=>obtain⟨_,_,_,e⟩:=x;exact aah e
 |frz ob u=>obtain⟨e,_⟩:=x;exact aah e
 |tbl ps=>exact aah (show h.get? a=↑_ from x)
 |met f y=>exact aah (show h.get? a=↑_ from x)
 |ext b=>obtain⟨_,⟨_,e⟩,_⟩:=x;exact aah e
def Paired.mapP{β:Type}{F G:α->β->Prop}{d:↥α}{c:↥β}(h:Paired F d c)(f:∀a b,F a b->G a b):Paired G d c:=by
 induction h with
 |nil=>exact .nil
 |cons r t e=>exact .cons (f _ _ r) e
def ObjOk.stay(x:ObjOk P w H h a o)(k:∀b u,(b=a∨H b=!(.own a))->h.get? b=!u->h'.get? b=!u)
  (j:∀b,H b=!(.own a)->H' b=!(.own a)) (i:∀b xs,H b=!(.tup xs)->H' b=!(.tup xs)):ObjOk P w H' h' a o:=by
 induction o with
 |lst xs=>obtain⟨z,its,n,r,e⟩:=x;exact{z,its,n,r,k _ _ (.inl rfl) e}
 |tup xs=>obtain⟨z,its,r,ob,e,c⟩:=x;exact{z,its,r,ob,k _ _ (.inl rfl) e,c}
 |dK kvs=>obtain⟨z,y,vs,r,ob,es,ep,e,c⟩:=x;exact{z,y,vs,r,ob,es,ep,k _ _ (.inl rfl) e,c}
 | dT kvs=>
  obtain⟨z,y,xs,r,ob,es,ep,e,c⟩:=x;exact{z,y,xs,Paired.mapP r λp q z=>{z.1,i _ _ z.2.1,z.2.2},ob,es,ep,k _ _ (.inl rfl) e,c}
 |set S n=>obtain⟨ob,es,ep,t,e,c⟩:=x;exact{ob,es,ep,t,k _ _ (.inl rfl) e,c}
 | ins C dx fs=>
  obtain⟨d,z,ne,e,mA,⟨od,es,ep,l,c⟩,r⟩:=x;exact{j _ d,z,ne,k _ _ (.inl rfl) e,mA,{od,es,ep,k _ _ (.inr d) l,c},r}
 |own y=>obtain⟨ob,e⟩:=x;exact{ob,k _ _ (.inl rfl) e}
 |xd fs=>obtain⟨mA,⟨od,es,ep,e,c⟩,r⟩:=x;exact{mA,{od,es,ep,k _ _ (.inl rfl) e,c},r}
 |rng lo hi=>obtain⟨t,u,v,e⟩:=x;exact{t,u,v,k _ _ (.inl rfl) e}
 |frz ob u g=>obtain⟨e,q⟩:=x;exact{k _ _ (.inl rfl) e,g q}
 | tbl ps=>
  have e:h.get? a=some { cls:=.none,data:=.fields ps }:=x;show h'.get? a=some { cls:=.none,data:=.fields ps };exact k a _ (.inl rfl) e
 | met f y=>
  have e:h.get? a=!(PySem.W.methodObj (.ref f) (.ref y)):=x;show h'.get? a=!(PySem.W.methodObj (.ref f) (.ref y));exact k a _ (.inl rfl) e
 |ext m=>obtain⟨p,⟨o,e⟩,st⟩:=x;exact{st _ _ p λo q=>k _ _ (.inl rfl) q,{o,k _ _ (.inl rfl) e},st}
def HOk.lt(x:HOk P w H h)(e:H a=!o):a<h.objs.size:=-(x a o e).lt
def HOk.fresh(x:HOk P w H h)(e:h.objs.size<=a):H a=none:=by
 cases q:H a with
 |none=>rfl
 |some u=>exact absurd (aaq (x.lt q) e) (aaZ _)
def HOk.kept(x:HOk P w H h)(k:∀b u,h.get? b=!u->h'.get? b=!u):HOk P w H h':=-λa o e=>
 (x a o e).stay (λb u _ q=>k b u q) (λ_ q=>q) λ_ _ q=>q
def HOk.laid(x:HOk P w H h)(k:∀b u,h.get? b=!u->h'.get? b=!u)(g:h.objs.size<=a)(new:ObjOk P w (upd H a o) h' a o):HOk P w (upd H a o) h':=-λb u e=>by
 have d:=x.fresh g;by_cases f:b=a
 .subst f;rw[ag] at e;cases e;exact new
 .rw[aj f] at e;exact(x b u e).stay (λc v _ q=>k c v q) (λc q=>by rw[aj (cx q d)];exact q) λc xs q=>by rw[aj (cx q d)];exact q
def Rd(H:Hp)(a:Addr)(u:HO):Prop:=H a=↑u∨∃o,H a=!(.frz o u)
def Rd.ok{u:HO}(r:Rd H a u)(x:HOk P w H h):ObjOk P w H h a u:=by
 rcases r with r|⟨o,r⟩
 .exact x a u r
 .obtain⟨_,q⟩:=x a _ r;exact q
def Mut:Option HO->Prop
 |some (.lst _)=>True
 |some (.dK _)=>True
 |some (.dT _)=>True
 |some (.set _ _)=>True
 |some (.ins _ _ _)=>True
 |some (.ext _)=>True
 |_=>False
section
variable     {x e:Addr} {o':HO}
def HOk.write(ok:HOk P w H h)(g:Mut (H x))(n:e=x∨H e=!(.own x))(k:∀b u,b≠e->h.get? b=!u->h'.get? b=!u)(l:∃u,h'.get? e=!u)
  (new:ObjOk P w (upd H x o') h' x o'):HOk P w (upd H x o') h':=-λb u q=>by
 have d:∀c y,H c=!(.own y)->c≠x:=λc y r z=>by subst z;rw[r] at g;exact g
 have f:∀c xs,H c=!(.tup xs)->c≠x:=λc xs r z=>by subst z;rw[r] at g;exact g
 by_cases j:b=x
 .subst j;rw[ag] at q;cases q;exact new
 .rw[aj j] at q;by_cases a:b=e
  .have m:H b=!(.own x):=by
    rcases n with z|z
    .exact absurd (a.trans z) j
    .rw[a];exact z
   rw[q] at m;cases m;obtain⟨v,o⟩:=l;exact{v,by rw[a];exact o}
  .refine(ok b u q).stay (λc v i r=>k c v ?_ r) (λc r=>by rw[aj (d c b r)];exact r) λc xs r=>by rw[aj (f c xs r)];exact r
   rcases i with rfl|i
   .exact a
   .rintro rfl;rcases n with z|z
    .exact d c b i z
    .rw[i] at z;cases z;exact j rfl
end
structure Un(fs ex:↥Addr)(H H':Hp)(h h':Heap):Prop where
 keep:∀b o,h.get? b=!o->H b=none->b∉fs->b∉ex->h'.get? b=!o
 slot:∀b o,h.get? b=!o->H b=none->b∈fs->b∉ex->∃sl,h'.get? b=some { o with slots:=sl }
 free:∀b o,h.get? b=!o->H b=none->b∉ex->H' b=none
 there:∀b o,h.get? b=!o->b∉ex->∃o',h'.get? b=!o'
 tups:∀b xs,H b=!(.tup xs)->H' b=!(.tup xs)
 frzs:∀b o u,H b=!(.frz o u)->H' b=!(.frz o u)
 tbls:∀b ps,H b=!(.tbl ps)->∃more,H' b=!(.tbl (ps++more))
section
variable {fs fs' ex ex':↥Addr} {H1 H2:Hp} {h1 h2:Heap} {x e:Addr} 
def Un.any(u:Un fs ex H H1 h h1){ob:Obj}(q:h.get? b=!ob)(n:H b=none)(hx:b∉ex):∃sl,h1.get? b=some { ob with slots:=sl }:=by
 by_cases a:b∈fs
 .exact u.slot b ob q n a hx
 .exact{ob.slots,u.keep b ob q n a hx}
def Un.kept(k:∀b u,h.get? b=!u->h'.get? b=!u):Un fs ex H H h h':=-
 {λb ob q _ _ _=>k b ob q,λb ob q _ _ _=>{ob.slots,k b ob q},λ_ _ _ n _=>n,λb ob q _=>{ob,k b ob q},λ_ _ q=>q,λ_ _ _ q=>q,λ_ ps q=>{#[],by rw[q];simp}}
def Un.refl:Un fs ex H H h h:=-Un.kept λ_ _ q=>q
theorem Un.laid(k:∀b u,h.get? b=!u->h'.get? b=!u)(hp:h.objs.size<=a)(hn:H a=none):Un fs ex H (upd H a o) h h' where
 keep:=λb u q _ _ _=>k b u q
 slot:=λb u q _ _ _=>{u.slots,k b u q}
 free:=λb u q n _=>by rw[aj (aam (aaq (aah q) hp))];exact n
 there:=λb u q _=>{u,k b u q}
 tups:=λb xs q=>by rw[aj (cx q hn)];exact q
 frzs:=λb u xs q=>by rw[aj (cx q hn)];exact q
 tbls:=λb ps q=>{#[],by rw[aj (cx q hn),q];simp}
def Un.write(c:Mut (H x))(j:e=x∨H e=!(.own x))(k:∀b u,b≠e->h.get? b=!u->h'.get? b=!u)(f:∃u,h'.get? e=!u):Un fs ex H (upd H x o) h h':=by
 have g:∀b,H b=none->b≠x:=λb n z=>by subst z;rw[n] at c;exact c
 have i:∀b,H b=none->b≠e:=λb n z=>by
  subst z;rcases j with r|r
  .exact g b n r
  .rw[n] at r;cases r
 have d:∀b u,H b=!u->¬Mut !u->b≠x:=λb u q nm z=>by subst z;rw[q] at c;exact nm c
 refine{λb u q n _ _=>k b u (i b n) q,λb u q n _ _=>{u.slots,k b u (i b n) q},λb u q n _=>by rw[aj (g b n)];exact n,λb u q _=>?_,
  λb xs q=>by rw[aj (d b _ q λz=>z)];exact q,λb u xs q=>by rw[aj (d b _ q λz=>z)];exact q,λb ps q=>{#[],by rw[aj (d b _ q λz=>z),q];simp}}
 by_cases a:b=e
 .subst a;exact f
 .exact{u,k b u a q}
end
def trk(h:Heap)(H:Hp):↥Addr:=(List.range h.objs.size).filter λa=>(H a).isSome
def vV(h:Heap)(H:Hp):Heap:=PySem.W.hideAll h (trk h H)
def qR(h:Heap)(H:Hp):(vV h H).objs.size=h.objs.size:=-PySem.W.hideAll_size _ _
def vW{o:Obj}(e:h.get? b=!o)(n:H b=none):(vV h H).get? b=!o:=-
 PySem.W.hideAll_get _ e λa=>by
  have q:(H b).isSome=true:=(ab3.mp a).2;rw[n] at q;simp at q
def Ba{o:Obj}(e:(vV h H).get? b=!o):h.get? b=!o/\H b=none:=by
 have a:h.get? b=!o:=PySem.W.of_hideAll (trk h H) e;refine{a,?_}
 cases q:H b with
 |none=>rfl
 | some x=>
  have c:b∈trk h H:=ab3.mpr {aca.mpr (aah a),by simp[q]};have z:(vV h H).get? b=none:=PySem.W.hideAll_none (trk h H) c;rw[z] at e;cases e
def Bb(g h:Heap)(L:Addr):↥(Addr×Obj):=(List.range h.objs.size).filterMap λa=>if a=L∨(g.get? a).isSome=true then none else (h.get? a).map λo=>(a,o)
def rest(g h:Heap)(L d:Addr):↥(Addr×Obj):=(Bb g h L).filter λp=>decide (p.1≠d)
structure Mod(K:Frag)(mg:Str->Option Value)(base:Heap):Prop where
 kin:K.In base
 glob:base.Ns mainGlobals mg
 blt:∃mb,base.Ns builtinsNs mb/\∀x:Str,x ≠ "__name__" -> mb x=bootBuiltins x
 nolimit:base.NoLimit
structure Cx where
 prog:Program
 w:World
 K:Frag
 mg:Str->Option Value
 base:Heap
 A:Around
 N:↥Str
 s₀:Shared
 H₀:Hp
 env:Env
 outer:↥Env
 stack:↥Env
 ex:↥Addr
 fn:Str->Bool
 calm:Bool
 pn:↥(Addr×Obj)
 xe:Value->Shared->Prop
variable{X:Cx}
def frs(l:↥Env):↥Addr:=l.filterMap (·.frame)
abbrev Cx.fs(X:Cx):↥Addr:=frs X.outer
def Vis(a:Scope)(x:Str):Prop:=a.names.lookup x=↑.local∨a.names.lookup x=↑.cell∨a.names.lookup x=!.free
def Loc(a:Scope)(x:Str):Prop:=a.names.lookup x=↑.local∨a.names.lookup x=!.cell
def Look(env:Env)(h:Heap)(m:Str->Option Value)(x:Str)(u:Value):Prop:=
 (env.kindOf x=!.local/\m x=!u)∨((env.kindOf x=↑.cell∨env.kindOf x=!.free)/\∃c,env.cells.lookup x=!c/\h.IsCell c !u)
structure Cx.Ok(X:Cx):Prop where
 mod:Mod X.K X.mg X.base
 kind:X.env.scope.kind=.function
 glob:X.env.globals=mainGlobals
 blt:X.env.builtins=builtinsNs
 above:X.s₀.heap.objs.size<=X.env.locals
 inj:∀x y c,X.env.cells.lookup x=!c->X.env.cells.lookup y=!c->x=y
 has:∀x,(X.env.kindOf x=↑.cell∨X.env.kindOf x=!.free)->∃c,X.env.cells.lookup x=!c
 cab:∀x c,X.fn x=true->X.env.cells.lookup x=!c->X.s₀.heap.objs.size<=c
 hd:X.calm=true->X.A.handled=none
 frames:X.A.frames=!X.stack
 stk:X.stack=X.outer∨(X.stack=X.env::X.outer/\X.env.frame=!X.env.locals)
 exf:∀b∈X.ex,b≠X.env.locals/\∀x c,X.env.cells.lookup x=!c->c≠b
 bs:∀b o,X.base.get? b=!o->X.s₀.heap.get? b=!o/\X.H₀ b=none
 bsz:X.base.objs.size<=X.s₀.heap.objs.size
 noex:∀b o,X.base.get? b=!o->b∉X.ex
 exfs:∀b∈X.ex,b∉X.fs
 funs:X.s₀.heap.FunFrames X.base X.outer
 frf:∀b∈X.fs,X.H₀ b=none
structure Inv(X:Cx)(pins:↥(Addr×Obj))(σ:↥(Option V))(H:Hp)(s:Shared):Prop where
 ok:X.Ok
 os:s.os=X.s₀.os
 bare:AllBare s.gens
 base:Un X.fs X.ex X.H₀ H X.s₀.heap s.heap
 loc:∃m,s.heap.Ns X.env.locals m/\∀(i:Nat) (x:Str) (v:V),X.N[i]?=!x->σ[i]?=!!v->Vis X.env.scope x->∃u,RelV v u/\Look X.env s.heap m x u
 cell:∀x c,X.env.cells.lookup x=!c->∃v,s.heap.IsCell c v
 free:H X.env.locals=none
 freeC:∀x c,X.env.cells.lookup x=!c->H c=none
 pin:∀p∈X.pn++pins,s.heap.get? p.1=!p.2/\H p.1=none/\p.1≠X.env.locals/\p.1∉X.fs/\∀v,p.2.data≠.cell v
 hok:HOk X.prog X.w H s.heap
 len:σ.length=X.N.length
section
variable   {σ:↥(Option V)}   
def Cx.Ok.nofr(ok:X.Ok){o:Obj}(e:X.base.get? b=!o):b∉X.fs:=-λa=>by
 have:=(ok.funs.mem a).1;rw[e] at this;cases this
def Inv.bs(I:Inv X pins σ H s):∀b o,X.base.get? b=!o->s.heap.get? b=!o/\H b=none:=-λb o e=>
 {I.base.keep b o (I.ok.bs b o e).1 (I.ok.bs b o e).2 (I.ok.nofr e) (I.ok.noex b o e),I.base.free b o (I.ok.bs b o e).1 (I.ok.bs b o e).2 (I.ok.noex b o e)}
def Inv.bk(I:Inv X pins σ H s):∀b o,X.base.get? b=!o->s.heap.get? b=!o:=-λb o e=>(I.bs b o e).1
def Inv.mod(I:Inv X pins σ H s):Mod X.K X.mg X.base:=-I.ok.mod
def Inv.kIn(I:Inv X pins σ H s):X.K.In s.heap:=-I.ok.mod.kin.keeps I.bk
def Inv.lt(I:Inv X pins σ H s):X.env.locals<s.heap.objs.size:=-let ⟨_,a,_⟩:=I.loc;a.lt
def Inv.sz(I:Inv X pins σ H s):X.s₀.heap.objs.size<=s.heap.objs.size:=-aar I.ok.above (acg I.lt)
def Inv.nofs(I:Inv X pins σ H s)(h:s.heap.objs.size<=a):a∉X.fs:=-λc=>by
 obtain⟨_,o,b,_⟩:=I.ok.funs.mem c;exact absurd (aaq (aah b) (aar I.sz h)) (aaZ _)
def Inv.cne(I:Inv X pins σ H s):∀x c,X.env.cells.lookup x=!c->c≠X.env.locals:=-λx c e z=>by
 obtain⟨v,o,d,hd⟩:=I.cell x c e;obtain⟨m,⟨o',es,ep,a,b,_⟩,_⟩:=I.loc;rw[z,a] at d;cases d;rw[b] at hd;cases hd
def Inv.funs(I:Inv X pins σ H s):s.heap.FunFrames X.base X.outer:=by
 have all:∀(l:↥Env),(∀b∈frs l,b∈X.fs)->X.s₀.heap.FunFrames X.base l->s.heap.FunFrames X.base l:=by
  intro l
  induction l with
  |nil=>intro _ _;trivial
  | cons env r f=>
   intro hs j;obtain⟨k,⟨L,o,a,i,g,hd⟩,hr⟩:=j;have d:L∈X.fs:=hs L (by unfold frs;rw[abu,a];exact aab);obtain⟨sl,e⟩:=I.base.slot L o g (I.ok.frf L d) d λz=>I.ok.exfs L z d;exact{k,{L,_,a,i,e,hd},f (λb c=>hs b (by unfold frs;rw[abu,a];exact aad _ c)) hr}
 exact all X.outer (λ_ c=>c) I.ok.funs
def Inv.stack(I:Inv X pins σ H s):s.heap.FunFrames X.base X.stack:=by
 rcases I.ok.stk with e|⟨e,b⟩
 .rw[e];exact I.funs
 .rw[e];obtain⟨m,a,_⟩:=I.loc;refine .cons (by rw[I.ok.kind];decide) b a ?_ I.funs;exact Heap.get?_none_of_le (aar I.ok.bsz I.ok.above)
def Inv.stkSub(I:Inv X pins σ H s):∀b∈frs X.stack,b∈X.env.locals::X.fs:=-λb a=>by
 rcases I.ok.stk with e|⟨e,c⟩
 .rw[e] at a;exact aad _ a
 .rw[e] at a;unfold frs at a;rw[abu,c] at a;exact a
def Inv.stkFree(I:Inv X pins σ H s):∀b∈frs X.stack,H b=none:=-λb a=>by
 rcases abS.mp (I.stkSub b a) with e|a
 .rw[e];exact I.free
 .obtain⟨_,o,c,_⟩:=I.ok.funs.mem a;exact I.base.free b o c (I.ok.frf b a) λz=>I.ok.exfs b z a
def Inv.step{g':Array GenState}{t':Nat}{d':Drawn}{ch:↥Addr}(I:Inv X pins σ H s)
  (g:∀b∈ch,(b∈X.ex∨X.s₀.heap.objs.size<=b)/\b≠X.env.locals/\(∀x c,X.env.cells.lookup x=!c->c≠b)/\∀p∈X.pn++pins,p.1≠b)
  (keep:∀b o,b≠X.env.locals->b∉X.fs->b∉ch->s.heap.get? b=!o->H b=none->h'.get? b=!o)
  (slot:∀b o,b≠X.env.locals->b∈X.fs->b∉ch->s.heap.get? b=!o->H b=none->∃sl,h'.get? b=some { o with slots:=sl }) (free:∀b o,b∉ch->s.heap.get? b=!o->H b=none->H' b=none)
  (there:∀b o,b∉ch->s.heap.get? b=!o->∃o',h'.get? b=!o')
  (tups:∀b xs,H b=!(.tup xs)->H' b=!(.tup xs)) (frzs:∀b o u,H b=!(.frz o u)->H' b=!(.frz o u)) (tbls:∀b ps,H b=!(.tbl ps)->∃more,H' b=!(.tbl (ps++more)))
  (ns:∀m,s.heap.Ns X.env.locals m->h'.Ns X.env.locals m) (hok:HOk X.prog X.w H' h') (M:AllBare g') :
  Inv X pins σ H' { s with heap:=h',gens:=g',drawn:=d',toks:=t' }:=by
 have B:∀b o,X.s₀.heap.get? b=!o->b≠X.env.locals:=λb o e=>aam (aaq (aah e) I.ok.above)
 have t:∀b o,X.s₀.heap.get? b=!o->b∉X.ex->b∉ch:=λb o e a y=>by
  rcases (g b y).1 with z|z
  .exact a z
  .exact absurd (aaq (aah e) z) (aaZ _)
 have j:∀x c,X.env.cells.lookup x=!c->∀v,s.heap.IsCell c v->h'.IsCell c v:=λx c e v {(o),A,hd}=>by
  have f:c∉ch:=λz=>(g c z).2.2.1 x c e rfl;by_cases G:c∈X.fs
  .obtain⟨sl,q⟩:=slot c o (I.cne x c e) G f A (I.freeC x c e);exact{_,q,hd}
  .exact{o,keep c o (I.cne x c e) G f A (I.freeC x c e),hd}
 refine{I.ok,I.os,M,{λb o e n y a=>?_,λb o e n y a=>?_,λb o e n a=>?_,λb o e a=>?_,λb xs e=>tups b xs (I.base.tups b xs e),λb o xs e=>frzs b o xs (I.base.frzs b o xs e),λb ps e=>?_},?_,λx c e=>?_,?_,λx c e=>?_,λp F=>?_,hok,I.len}
 .exact keep b o (B b o e) y (t b o e a) (I.base.keep b o e n y a) (I.base.free b o e n a)
 .obtain⟨sl,w⟩:=I.base.slot b o e n y a;obtain⟨D,C⟩:=slot b _ (B b o e) y (t b o e a) w (I.base.free b o e n a);exact{(D),C}
 .obtain⟨o',w⟩:=I.base.there b o e a;exact free b o' (t b o e a) w (I.base.free b o e n a)
 .obtain⟨o',w⟩:=I.base.there b o e a;exact there b o' (t b o e a) w
 .obtain⟨J,w⟩:=I.base.tbls b ps e;obtain⟨m2,C⟩:=tbls b _ w;exact{J++m2,by rw[C,Array.append_assoc]}
 .obtain⟨m,K,L⟩:=I.loc;refine{m,ns m K,λi x v w C N=>?_};obtain⟨u,r,l⟩:=L i x v w C N;refine{u,r,?_};rcases l with l|⟨k,c,e,z⟩
  .exact .inl l
  .exact .inr {k,c,e,j x c e _ z}
 .obtain⟨v,z⟩:=I.cell x c e;exact{v,j x c e v z}
 .obtain⟨m,⟨o,_,_,A,_⟩,_⟩:=I.loc;exact free _ o (λz=>(g _ z).2.1 rfl) A I.free
 .obtain⟨v,o,A,hd⟩:=I.cell x c e;exact free c o (λz=>(g c z).2.2.1 x c e rfl) A (I.freeC x c e)
 .obtain⟨e,n,ne,E,d⟩:=I.pin p F;have f:p.1∉ch:=λz=>(g p.1 z).2.2.2 p F rfl;exact{keep p.1 p.2 ne E f e n,free p.1 p.2 f e n,ne,E,d}
def Inv.un(I:Inv X pins σ H s)(u:Un X.fs [] H H' s.heap h')(hok:HOk X.prog X.w H' h'):Inv X pins σ H' { s with heap:=h',toks:=t' }:=by
 obtain⟨m,⟨o,es,ep,g,r⟩,_⟩:=id I.loc;obtain⟨sl,j⟩:=u.any g I.free (by simp)
 exact I.step (g':=s.gens) (d':=s.drawn) (ch:=[]) (λ_ z=>nomatch z) (λb o _ c _ e n=>u.keep b o e n c (by simp)) (λb o _ c _ e n=>u.slot b o e n c (by simp)) (λb o _ e n=>u.free b o e n (by simp)) (λb o _ e=>u.there b o e (by simp)) u.tups u.frzs u.tbls (λk i=>by
  obtain⟨o',d,f,a,r'⟩:=i;rw[g] at a;cases a;exact{_,d,f,j,r'}) hok I.bare
def Inv.call{g':Array GenState}{d':Drawn}(I:Inv X pins σ H s)(u:Un (frs X.stack) ch H H' s.heap h')(hok:HOk X.prog X.w H' h')(q:AllBare g')
  (f:∀b∈ch,(b∈X.ex∨X.s₀.heap.objs.size<=b)/\b≠X.env.locals/\(∀x c,X.env.cells.lookup x=!c->c≠b)/\∀p∈X.pn++pins,p.1≠b) :
  Inv X pins σ H' { s with heap:=h',gens:=g',drawn:=d',toks:=t' }:=by
 obtain⟨m,⟨o,es,ep,k,r⟩,_⟩:=id I.loc;obtain⟨sl,g⟩:=u.any k I.free λz=>(f _ z).2.1 rfl
 exact I.step (ch:=ch) f (λb o g t a e n=>u.keep b o e n (λz=>(abS.mp (I.stkSub b z)).elim g t) a) (λb o _ _ a e n=>u.any e n a) (λb o a e n=>u.free b o e n a) (λb o a e=>u.there b o e a) u.tups u.frzs u.tbls (λv l=>by
  obtain⟨o',i,j,d,r'⟩:=l;rw[k] at d;cases d;exact{_,i,j,g,r'}) hok q
def Inv.turned(I:Inv X pins σ H s)(k:∀b o,b≠it->s.heap.get? b=!o->h'.get? b=!o)(i:H it=none)(f:it≠X.env.locals)
  (h1:it∈X.ex∨X.s₀.heap.objs.size<=it) (h2:∀x c,X.env.cells.lookup x=!c->c≠it) (t:∀p∈X.pn++pins,p.1≠it):Inv X pins σ H { s with heap:=h',toks:=t' }:=by
 have d:∀b u,H b=!u->b≠it:=λb u e z=>by rw[z,i] at e;cases e
 refine I.step (g':=s.gens) (d':=s.drawn) (ch:=[it]) (λb l=>?_) (λb o _ _ a e _=>k b o (λz=>a (by simp[z])) e) (λb o _ _ a e _=>{o.slots,k b o (λz=>a (by simp[z])) e}) (λ_ _ _ _ n=>n)
  (λb o a e=>{o,k b o (λz=>a (by simp[z])) e}) (λ_ _ e=>e) (λ_ _ _ e=>e) (λb ps e=>{#[],by rw[e];simp}) (λm j=>?_) (λb u e=>?_) I.bare
 .have e:b=it:=(by exists l);subst e;exact{(h1),f,h2,t}
 .obtain⟨o,es,ep,g,r⟩:=j;exact{o,es,ep,k _ o (abz f) g,r}
 .refine(I.hok b u e).stay (λc v a q=>k c v ?_ q) (λ_ q=>q) λ_ _ q=>q;rcases a with z|z
  .rw[z];exact d b u e
  .exact d c _ z
def Inv.tok(I:Inv X pins σ H s)(t:Nat):Inv X pins σ H { s with toks:=t }:=-I.un (h':=s.heap) (t':=t) Un.refl I.hok
def Inv.kept(I:Inv X pins σ H s)(k:∀b u,s.heap.get? b=!u->h'.get? b=!u):Inv X pins σ H { s with heap:=h',toks:=t' }:=-I.un (Un.kept k) (I.hok.kept k)
def Inv.laid(I:Inv X pins σ H s)(k:∀b u,s.heap.get? b=!u->h'.get? b=!u)(c:s.heap.objs.size<=a)(new:ObjOk X.prog X.w (upd H a o) h' a o) :
  Inv X pins σ (upd H a o) { s with heap:=h',toks:=t' }:=-I.un (Un.laid k c (I.hok.fresh c)) (I.hok.laid k c new)
def Inv.write{x e:Addr}(I:Inv X pins σ H s)(c:Mut (H x))(d:e=x∨H e=!(.own x))(k:∀b u,b≠e->s.heap.get? b=!u->h'.get? b=!u)(a:∃u,h'.get? e=!u)
  (new:ObjOk X.prog X.w (upd H x o) h' x o):Inv X pins σ (upd H x o) { s with heap:=h',toks:=t' }:=-I.un (Un.write c d k a) (I.hok.write c d k a new)
def Inv.pins_of{a:↥(Addr×Obj)}(I:Inv X pins σ H s)(h:∀p∈a,s.heap.get? p.1=!p.2/\H p.1=none/\p.1≠X.env.locals/\p.1∉X.fs/\∀v,p.2.data≠.cell v):Inv X a σ H s:=-
 {I.ok,I.os,I.bare,I.base,I.loc,I.cell,I.free,I.freeC,λp b=>(abQ.mp b).elim (λz=>I.pin p (aau _ z)) (h p),I.hok,I.len}
def nv(c:N.Nodup)(a:N[i]?=!x)(b:N[j]?=!x):i=j:=by
 obtain⟨h1,e⟩:=List.getElem?_eq_some_iff.mp a;obtain⟨h2,d⟩:=List.getElem?_eq_some_iff.mp b;exact(List.getElem_inj c).mp (e.trans d.symm)
def kP{M:Model}{Q:Unit->Shared->Prop}(I:Inv X pins σ H s)(hN:X.N.Nodup)(hi:X.N[i]?=!x)(hx:Loc X.env.scope x)(r:RelV v u)
  (h:∀s',Inv X pins (σ.set i !v) H s'->(∃a,Heap.SameBut a s.heap s'.heap/\(a=X.env.locals∨X.env.cells.lookup x=!a))->Q PUnit.unit s') (hf:autoParam (X.fn x=true∨X.env.scope.names.lookup x=!.local) L2.aF._auto_1):wpAny M A (storeName X.env x u) Q E s:=by
 obtain⟨m,Z,hl⟩:=id I.loc;have L:(X.env.scope.kind==.class || (X.env.scope.kind==.module&&X.env.locals != X.env.globals))=false:=by rw[I.ok.kind];rfl
 have C:i<σ.length:=by rw[I.len];exact(List.getElem?_eq_some_iff.mp hi).1
 have cne:=I.cne
 have f:∀{a:Addr} {h':Heap},(∃o,s.heap.get? a=!o/\H a=none)->Heap.SameBut a s.heap h'->HOk X.prog X.w H h':=fun {a h'} ha hs b ob e=>by
  obtain⟨_,_,t⟩:=ha;refine(I.hok b ob e).stay (λc P l q=>(hs.2 c ?_).trans q) (λ_ q=>q) λ_ _ q=>q;rintro rfl;rcases l with rfl|l
  .rw[t] at e;cases e
  .rw[t] at l;cases l
 rcases hx with B|B
 .refine wpAny_storeName_local B Z (λh' Y hs=>?_) L;obtain⟨oL,_,_,W,_⟩:=id Z;refine h _ {I.ok,I.os,I.bare,{λb o e n G hx=>?_,λb o e n G hx=>?_,I.base.free,λb o e hx=>?_,I.base.tups,I.base.frzs,I.base.tbls},{_,Y,λj y S g w e3=>?_},λy c e=>?_,I.free,I.freeC,λp V=>?_,f {(oL),W,I.free} hs,by simpa using I.len} {_,hs,.inl rfl}
  .exact(hs.2 b (aam (aaq (aah e) I.ok.above))).trans (I.base.keep b o e n G hx)
  .obtain⟨sl,g⟩:=I.base.slot b o e n G hx;exact{sl,(hs.2 b (aam (aaq (aah e) I.ok.above))).trans g}
  .obtain⟨o',g⟩:=I.base.there b o e hx;exact{o',(hs.2 b (aam (aaq (aah e) I.ok.above))).trans g}
  .by_cases D:j=i
   .subst D;rw[hi] at g;cases g;rw[List.getElem?_set_self C] at w;cases w;exact{u,r,.inl {B,by simp}}
   .rw[List.getElem?_set_ne (abz D)] at w;obtain⟨T,r',q⟩:=hl j y S g w e3;refine{T,r',?_};rcases q with ⟨k,e⟩|⟨k,c,e,z⟩
    .refine .inl {k,?_};have:y≠x:=λe=>D (nv hN g (e ▸ hi));simp[this,e]
    .exact .inr {k,c,e,z.sameBut hs (cne y c e)}
  .obtain⟨P,z⟩:=I.cell y c e;exact{P,z.sameBut hs (cne y c e)}
  .obtain⟨e,n,ne,U,d⟩:=I.pin p V;exact{(hs.2 p.1 ne).trans e,n,ne,U,d}
 .have F:X.fn x=true:=by
   rcases hf with z|z
   .exact z
   .rw[z] at B;cases B
  obtain⟨c,l⟩:=I.ok.has x (.inl B);obtain⟨P,z⟩:=I.cell x c l;refine wpAny_storeName_cell I.ok.kind B l z (λh' O hs=>?_);obtain⟨oc,K,J⟩:=id z;refine h { s with heap:=h' } {I.ok,I.os,I.bare,{λb o e n G hx=>?_,λb o e n G hx=>?_,I.base.free,λb o e hx=>?_,I.base.tups,I.base.frzs,I.base.tbls},{m,Z.sameBut hs (abz (cne x c l)),λj y S g w e3=>?_},λy R e=>?_,I.free,I.freeC,λp V=>?_,f {oc,K,I.freeC x c l} hs,by simpa using I.len} {c,hs,.inr l}
  .exact(hs.2 b (aam (aaq (aah e) (I.ok.cab x c F l)))).trans (I.base.keep b o e n G hx)
  .obtain⟨sl,g⟩:=I.base.slot b o e n G hx;exact{sl,(hs.2 b (aam (aaq (aah e) (I.ok.cab x c F l)))).trans g}
  .obtain⟨o',g⟩:=I.base.there b o e hx;exact{o',(hs.2 b (aam (aaq (aah e) (I.ok.cab x c F l)))).trans g}
  .by_cases D:j=i
   .subst D;rw[hi] at g;cases g;rw[List.getElem?_set_self C] at w;cases w;exact{u,r,.inr {.inl B,c,l,O}}
   .rw[List.getElem?_set_ne (abz D)] at w;obtain⟨T,r',q⟩:=hl j y S g w e3;refine{T,r',?_};rcases q with q|⟨k,R,e,z'⟩
    .exact .inl q
    .refine .inr {k,R,e,z'.sameBut hs ?_};rintro rfl;exact D (nv hN g (I.ok.inj _ _ _ e l ▸ hi))
  .by_cases N:R=c
   .subst N;exact{_,O}
   .obtain⟨w2,z2⟩:=I.cell y R e;exact{w2,z2.sameBut hs N}
  .obtain⟨e,n,ne,U,d⟩:=I.pin p V;refine{(hs.2 p.1 ?_).trans e,n,ne,U,d};intro q;rw[q,K] at e;have q':oc=p.2:=aak e;exact d P (by rw[← q'];exact J)
def ny{M:Model}{Q:Unit->Shared->Prop}(I:Inv X pins σ H s)(b:X.N.Nodup)(hi:X.N[i]?=!x)(hx:Loc X.env.scope x)(r:RelV v u)
  (h:∀s',Inv X pins (σ.set i !v) H s'->Q PUnit.unit s') (a:autoParam (X.fn x=true∨X.env.scope.names.lookup x=!.local) L2.aF._auto_1):wpAny M A (storeName X.env x u) Q E s:=-
 kP I b hi hx r (λs' c _=>h s' c) a
def Inv.call'(I:Inv X pins σ H s)(d:s'.os=s.os)(u:Un (frs X.stack) ch H H' s.heap s'.heap)(hok:HOk X.prog X.w H' s'.heap)(f:AllBare s'.gens)
  (a:∀b∈ch,(b∈X.ex∨X.s₀.heap.objs.size<=b)/\b≠X.env.locals/\(∀x c,X.env.cells.lookup x=!c->c≠b)/\∀p∈X.pn++pins,p.1≠b):Inv X pins σ H' s':=by
 obtain⟨h',g',g,t',o'⟩:=s';have e:o'=s.os:=d;subst e;exact I.call (g':=g') (t':=t') (d':=g) u hok f a
end
abbrev XK:=Value->Option Addr->Hp->Prop
abbrev St:=↥(Option V)
variable{σ:St}
abbrev VK:=V->Hp->Prop
abbrev TE:=St->Hp->VK->Prop
variable{ta tb te tl:TE}
abbrev TT:=St->Hp->(Bool->Hp->Prop)->Prop
variable{tc:TT}
abbrev TA:=St->Hp->(↥V->Hp->Prop)->Prop
variable{t:TA}
structure Ends where
 nx:St->Hp->Prop
 rt:VK
 bk:St->Hp->Prop:=λ_ _=>False
 ct:St->Hp->Prop:=λ_ _=>False
abbrev TS:=Ends->St->Hp->Prop
def EP(X:Cx)(pins:↥(Addr×Obj))(σ:St)(Q:VK)(u:Value)(s':Shared):Prop:=∃v H',Inv X pins σ H' s'/\RelV v u/\Q v H'
def TP(X:Cx)(pins:↥(Addr×Obj))(σ:St)(Q:Bool->Hp->Prop)(b:Bool)(s':Shared):Prop:=∃H',Inv X pins σ H' s'/\Q b H'
def AP(X:Cx)(pins:↥(Addr×Obj))(σ:St)(Q:↥V->Hp->Prop)(us:↥Value)(s':Shared):Prop:=∃vs H',Inv X pins σ H' s'/\Vals vs us/\Q vs H'
def SP(X:Cx)(pins:↥(Addr×Obj))(D:Ends)(f:Flow)(s':Shared):Prop:=
 match f with
 |.next=>∃a H',Inv X pins a H' s'/\D.nx a H'
 |.brk=>∃a H',Inv X pins a H' s'/\D.bk a H'
 |.cont=>∃a H',Inv X pins a H' s'/\D.ct a H'
 |.ret u=>∃v a H',Inv X pins a H' s'/\RelV v u/\D.rt v H'
def PE(X:Cx)(e:Expr)(t:TE):Prop:=
 ∀(pins:↥(Addr×Obj)) (s:Shared) (σ:St) (H:Hp) (Q:VK),Inv X pins σ H s->t σ H Q->wpAny (model X.prog X.w) X.A (eval e X.env) (EP X pins σ Q) X.xe s
def PT(X:Cx)(e:Expr)(t:TT):Prop:=
 ∀(pins:↥(Addr×Obj)) (s:Shared) (σ:St) (H:Hp) (Q:Bool->Hp->Prop),Inv X pins σ H s->t σ H Q->wpAny (model X.prog X.w) X.A (isTrue e X.env (eval e X.env)) (TP X pins σ Q) X.xe s
def PW(X:Cx)(e:Expr)(t:TT):Prop:=
 ∀(whole:Sem Value) (pins:↥(Addr×Obj)) (s:Shared) (σ:St) (H:Hp) (Q:Bool->Hp->Prop),Inv X pins σ H s->t σ H Q->wpAny (model X.prog X.w) X.A (isTrue e X.env whole) (TP X pins σ Q) X.xe s
def PW.pt{t:TT}(h:PW X e t):PT X e t:=-h _
def PA(X:Cx)(es:↥Expr)(t:TA):Prop:=
 ∀(pos:Pos) (pins:↥(Addr×Obj)) (s:Shared) (σ:St) (H:Hp) (Q:↥V->Hp->Prop),Inv X pins σ H s->t σ H Q->wpAny (model X.prog X.w) X.A (spliced (backTo pos (starEach es X.env))) (AP X pins σ Q) X.xe s
def PS(X:Cx)(st:Stmt)(t:TS):Prop:=
 ∀(pins:↥(Addr×Obj)) (s:Shared) (σ:St) (H:Hp) (D:Ends),Inv X pins σ H s->t D σ H->wpAny (model X.prog X.w) X.A (exec st X.env) (SP X pins D) X.xe s
def PSs(X:Cx)(st:↥Stmt)(t:TS):Prop:=
 ∀(pins:↥(Addr×Obj)) (s:Shared) (σ:St) (H:Hp) (D:Ends),Inv X pins σ H s->t D σ H->wpAny (model X.prog X.w) X.A (execs st X.env) (SP X pins D) X.xe s
def thn{t:Sem α}{Q Q':α->Shared->Prop}{M:Model}(h:wpAny M A t Q E s)(b:∀a s,Q a s->Q' a s):wpAny M A t Q' E s:=-abv h b λ_ _ x=>x
section
def bin{a b:Expr}(o:PE X a ta)(n:PE X b tb)(I:Inv X pins σ H s)(h:ta σ H λx H1=>tb σ H1 λy H2=>R x y H2)
   {Q:α->Shared->Prop} {f:Value->Value->Sem α}
  (m:∀v u e x y H2,Inv X pins σ H2 e->RelV x v->RelV y u->R x y H2->wpAny (model X.prog X.w) X.A (f v u) Q X.xe e) :
  wpAny (model X.prog X.w) X.A (eval a X.env) (λv d=>wpAny (model X.prog X.w) X.A (eval b X.env) (λu c=>wpAny (model X.prog X.w) X.A (f v u) Q X.xe c) X.xe d) X.xe s:=by
 refine thn (o pins s σ H _ I h) λv g z=>?_;obtain⟨x,H1,q,j,l⟩:=z;refine thn (n pins g σ H1 _ q l) λu e t=>?_;obtain⟨y,H2,p,i,k⟩:=t;exact m v u e x y H2 p j i k
def cV(i:Nat):TE:=λσ H Q=>∃v,σ[i]?=!!v/\Q v H
def tC(v:V):TE:=λ_ H Q=>Q v H
def Gd(o:X.N[i]?=!x)(g:Vis X.env.scope x)(hd:autoParam ((x==("__debug__" : Str))=false) L2.aD._auto_1)(d:autoParam ((x==("__classdict__" : Str))=false) L2.aD._auto_1):PE X (.Name x pos) (cV i):=by
 intro pins s σ H Q I h;obtain⟨v,e,h⟩:=h;obtain⟨m,j,n⟩:=I.loc;obtain⟨u,r,l⟩:=n i x v o e g;have fin:EP X pins σ Q u s:={(v),H,I,r,h};rcases l with ⟨b,k⟩|⟨b,c,f,a⟩
 .exact wpAny_Name (wpAny_loadName_local I.ok.kind b j k fin) hd
 .rcases b with b|b
  .exact wpAny_Name (wpAny_loadName_cell I.ok.kind b f a fin) hd
  .exact wpAny_Name (wpAny_loadName_free I.ok.kind b f a fin d) hd
def Ge{i j pos}:PE X (.Constant (.int i) j pos) (tC (.int i)):=-λ_ _ _ H _ I h=>wpAny_Constant_int {.int i,H,I.tok _,{_,rfl},h}
def KW{b j pos}:PE X (.Constant (.bool b) j pos) (tC (.bl b)):=-λ_ _ _ H _ I h=>Constant_bool {.bl b,H,I,rfl,h}
def Gf{j pos}:PE X (.Constant .none j pos) (tC .non):=-λ_ _ _ H _ I h=>Constant_none {.non,H,I,rfl,h}
def Gg{x j pos}:PE X (.Constant (.str x) j pos) (tC (.str x)):=-λ_ _ _ H _ I h=>Calls.Constant_str {.str x,H,I.tok _,{_,rfl},h}
def Gl(X:Cx)(x:Str):Prop:=X.env.kindOf x=!.globalImplicit
def mv(I:Inv X pins σ H s)(b:Gl X x)(a:X.mg x=!u)(h:Q u s)
  (hd:autoParam ((x==("__debug__" : Str))=false) L2.aD._auto_1):wpAny (model X.prog X.w) X.A (eval (.Name x pos) X.env) Q E s:=-
 Calls.Name_function_global I.ok.kind b (Calls.loadGlobal_global (by rw[I.ok.glob];exact I.mod.glob.keeps I.bk) a h) hd
def gW(I:Inv X pins σ H s)(d:Gl X x)(c:X.mg x=none)(a:bootBuiltins x=!u)(h:Q u s)
  (b:autoParam (x ≠ "__name__") L2.aD._auto_1) (hd:autoParam ((x==("__debug__" : Str))=false) L2.aD._auto_1):wpAny (model X.prog X.w) X.A (eval (.Name x pos) X.env) Q E s:=by
 obtain⟨e,h1,h2⟩:=I.mod.blt;exact Calls.Name_function_global I.ok.kind d (Calls.loadGlobal_builtin (by rw[I.ok.glob];exact I.mod.glob.keeps I.bk) c (by rw[I.ok.blt];exact h1.keeps I.bk) ((h2 x b).trans a) h) hd
def Bc(b:Gl X x)(a:X.mg x=!u)(r:RelV v u)(hd:autoParam ((x==("__debug__" : Str))=false) L2.aD._auto_1):PE X (.Name x pos) (tC v):=-
 λ_ _ _ H _ I h=>mv I b a {(v),H,I,r,h} hd
def Bd(d:Gl X x)(c:X.mg x=none)(a:bootBuiltins x=!u)(r:RelV v u)(b:autoParam (x ≠ "__name__") L2.aD._auto_1)(hd:autoParam ((x==("__debug__" : Str))=false) L2.aD._auto_1):PE X (.Name x pos) (tC v):=-
 λ_ _ _ H _ I h=>gW I d c a {(v),H,I,r,h} b hd
variable {a b:Expr}  
def PC(X:Cx)(op:CmpOp)(a b:Expr)(t:TE):Prop:=
 ∀(pins:↥(Addr×Obj)) (s:Shared) (σ:St) (H:Hp) (Q:VK),Inv X pins σ H s->t σ H Q ->
  wpAny (model X.prog X.w) X.A (eval a X.env) (λv d=>wpAny (model X.prog X.w) X.A (eval b X.env) (λu c=>wpAny (model X.prog X.w) X.A (compareOp op v u) (EP X pins σ Q) X.xe c) X.xe d) X.xe s
def tB(t:TE):TT:=λσ H Q=>t σ H λx H1=>∃c,x=.bl c/\Q c H1
def MF{t:TE}(h:PC X op a b t)(h1:behindInMarks op b=false:=by first|exact e _ (by decide) (by decide)|rfl):PT X (.Compare a [op] [b] pos) (tB t):=by
 intro pins s σ H Q I i;refine wpAny_isTrue_Compare1 (thn (h pins s σ H _ I i) λv m h1=>thn h1 λu l h2=>thn h2 λc k y=>?_) h1;obtain⟨x,H1,j,f,g⟩:=y;obtain⟨d,rfl,q⟩:=g;cases f;exact aaL {(H1),j,q}
def Gh{t:TE}(h:PE X e t)(f:autoParam (∀whole,isTrue e X.env whole=(do let v ← whole;standAt e.pos;holding [v] (truthy v))) L2.aI._auto_1):PT X e (tB t):=by
 intro pins s σ H Q I c;refine isTrue_plain (thn (h pins s σ H _ I c) λv i y=>?_) (f _);obtain⟨x,H1,g,a,b⟩:=y;obtain⟨d,rfl,q⟩:=b;cases a;exact aaL {(H1),g,q}
variable {tA tB':TT} {rest:↥Expr}
def KY(t u:TT):TT:=λσ H Q=>t σ H λc H1=>if c=true then u σ H1 Q else Q false H1
def tOr(t u:TT):TT:=λσ H Q=>t σ H λc H1=>if c=true then Q true H1 else u σ H1 Q
def KZ(t:TT):TT:=λσ H Q=>t σ H λc H1=>Q (⇑c) H1
def Be(b:PT X a tA):PW X (.BoolOp .And [a] pos) tA:=by
 intro d pins s σ H Q I h;refine isTrue_and (thn (b pins s σ H Q I h) λc f e=>?_)
 cases c with
 |true=>exact isTrue_and_nil e
 |false=>exact e
def Gi(b:PT X a tA):PW X (.BoolOp .Or [a] pos) tA:=by
 intro d pins s σ H Q I h;refine isTrue_or (thn (b pins s σ H Q I h) λc f e=>?_)
 cases c with
 |false=>exact isTrue_or_nil e
 |true=>exact e
def Gj(j:PT X a tA)(i:PW X (.BoolOp .And (b::rest) pos) tB'):PW X (.BoolOp .And (a::b::rest) pos) (KY tA tB'):=by
 intro f pins s σ H Q I h;refine isTrue_and (thn (j pins s σ H _ I h) λc g y=>?_);obtain⟨H1,e,d⟩:=y
 cases c with
 |true=>exact i f pins g σ H1 Q e d
 |false=>exact{(H1),e,d}
def K0(j:PT X a tA)(i:PW X (.BoolOp .Or (b::rest) pos) tB'):PW X (.BoolOp .Or (a::b::rest) pos) (tOr tA tB'):=by
 intro f pins s σ H Q I h;refine isTrue_or (thn (j pins s σ H _ I h) λc g y=>?_);obtain⟨H1,e,d⟩:=y
 cases c with
 |true=>exact{(H1),e,d}
 |false=>exact i f pins g σ H1 Q e d
def Gk(b:PT X a tA):PT X (.UnaryOp .Not a pos) (KZ tA):=by
 intro pins s σ H Q I h;exact isTrue_not (b pins s σ H (λc H1=>Q (⇑c) H1) I h)
def Bf(ta tb:TE):TE:=λσ H Q=>ta σ H λx H1=>∃c,x=.bl c/\if c=true then tb σ H1 Q else Q (.bl false) H1
def K1(ta tb:TE):TE:=λσ H Q=>ta σ H λx H1=>∃c,x=.bl c/\if c=true then Q (.bl true) H1 else tb σ H1 Q
def Bg(ta:TE):TE:=λσ H Q=>ta σ H λx H1=>∃c,x=.bl c/\Q (.bl (⇑c)) H1
def Gm{op}{t:TE}(h:PE X a t):PE X (.BoolOp op [a] pos) t:=-λpins s σ H Q I b=>BoolOp_one (h pins s σ H Q I b)
def Gn(j:PE X a ta)(i:PE X (.BoolOp .And (b::rest) pos) tb):PE X (.BoolOp .And (a::b::rest) pos) (Bf ta tb):=by
 intro pins s σ H Q I h;refine BoolOp_and (thn (j pins s σ H _ I h) λv f y=>?_);obtain⟨x,H1,e,g,d⟩:=y;obtain⟨c,rfl,d⟩:=d;cases g;refine aaL ?_
 cases c with
 |true=>exact i pins f σ H1 Q e d
 |false=>exact{.bl false,H1,e,rfl,d}
def K3(j:PE X a ta)(i:PE X (.BoolOp .Or (b::rest) pos) tb):PE X (.BoolOp .Or (a::b::rest) pos) (K1 ta tb):=by
 intro pins s σ H Q I h;refine BoolOp_or (thn (j pins s σ H _ I h) λv f y=>?_);obtain⟨x,H1,e,g,d⟩:=y;obtain⟨c,rfl,d⟩:=d;cases g;refine aaL ?_
 cases c with
 |false=>exact i pins f σ H1 Q e d
 |true=>exact{.bl true,H1,e,rfl,d}
def Go(e:PE X a ta):PE X (.UnaryOp .Not a pos) (Bg ta):=by
 intro pins s σ H Q I h;refine UnaryOp_ (thn (e pins s σ H _ I h) λv g y=>?_);obtain⟨x,H1,f,d,b⟩:=y;obtain⟨c,rfl,b⟩:=b;cases d;exact not_of (aaL {.bl (⇑c),H1,f,rfl,b})
def tIf(t:TT)(ta tb:TE):TE:=λσ H Q=>t σ H λc H1=>if c=true then ta σ H1 Q else tb σ H1 Q
def vX(i:PT X c tA)(k:PE X a ta)(j:PE X b tb):PE X (.IfExp c a b pos) (tIf tA ta tb):=by
 intro pins s σ H Q I h;refine wpAny_IfExp (thn (i pins s σ H _ I h) λd e y=>?_);obtain⟨H1,g,f⟩:=y
 cases d with
 |true=>exact k pins e σ H1 Q g f
 |false=>exact j pins e σ H1 Q g f
end
def SqL(K:Frag)(H:Hp)(a:Addr)(xs:↥V):Prop:=
 Rd H a (.lst xs) ∨
  ∃(o:Obj) (its:Array Value) (n:Nat),K.lookup a=!o/\o.cls=.type "list" /\ o.dict=none/\o.data=.seq its n/\its.size<=sizeLine/\Vals xs its.toList
def SqT(K:Frag)(H:Hp)(a:Addr)(xs:↥V):Prop:=
 Rd H a (.tup xs) ∨
  ∃(o:Obj) (its:Array Value) (n:Nat),K.lookup a=!o/\o.cls=.type "tuple" /\ o.data=.seq its n/\its.size<=sizeLine/\Vals xs its.toList
def absV:Value->Option V
 |.none=>!.non
 |.bool b=>!(.bl b)
 |.int i _=>!(.int i)
 |.str x _=>!(.str x)
 |.bytes b _=>!(.byt b)
 |.float b _=>!(.flt b)
 |.ref a=>!(.ref a)
 |.type n=>!(.ty n)
 |_=>none
def RelV.abs{x:V}(r:RelV x u):absV u=!x:=by
 cases x with
 |non=>cases r;rfl
 |bl _=>cases r;rfl
 |int _=>obtain⟨t,rfl⟩:=r;rfl
 |str _=>obtain⟨t,rfl⟩:=r;rfl
 |byt _=>obtain⟨t,rfl⟩:=r;rfl
 |flt _=>obtain⟨t,rfl⟩:=r;rfl
 |ref _=>cases r;rfl
 |ty _=>cases r;rfl
def RelV.inj{x y:V}{u:Value}(r:RelV x u)(q:RelV y u):x=y:=-aak (r.abs.symm.trans q.abs)
def Vals.inj{xs ys:↥V}{us:↥Value}(h:Vals xs us)(h':Vals ys us):xs=ys:=by
 induction h generalizing ys with
 |nil=>cases h';rfl
 |cons r t a=>cases h' with|cons r' t'=>rw[r.inj r',a t']
section
variable       {ys:↥V}
def SqL.of{K:Frag}(h:H a=!(.lst xs)):SqL K H a xs:=-.inl (.inl h)
def SqT.of{K:Frag}(h:H a=!(.tup xs)):SqT K H a xs:=-.inl (.inl h)
def Inv.list(I:Inv X pins σ H s)(h:SqL X.K H a xs):∃its:↥Value,Vals xs its/\PlainL s.heap a its.toArray/\xs.length<=sizeLine:=by
 rcases h with h|⟨o,its,n,b,c,hd,hs,d,r⟩
 .obtain⟨z,its,n,r,e⟩:=h.ok I.hok;exact{its,r,{_,n,e,rfl,rfl,rfl},z}
 .refine{its.toList,r,{o,n,I.kIn a o b,c,hd,(by exists hs)},?_};have e:=r.length;simp only[Array.length_toList] at e;nofun
def Inv.tuple(I:Inv X pins σ H s)(h:SqT X.K H a xs):∃its:↥Value,Vals xs its/\IsTup s.heap a its.toArray/\xs.length<=sizeLine:=by
 rcases h with h|⟨o,its,n,b,c,hs,d,r⟩
 .obtain⟨z,its,r,p⟩:=h.ok I.hok;exact{(its),r,p,z}
 .refine{its.toList,r,{o,I.kIn a o b,c,n,(by exists hs)},?_};have e:=r.length;simp only[Array.length_toList] at e;nofun
def Inv.list_inj(I:Inv X pins σ H s)(h:SqL X.K H a xs)(h':SqL X.K H a ys):xs=ys:=by
 obtain⟨its,r,⟨o,n,e,_,_,d⟩,_⟩:=I.list h;obtain⟨its',r',⟨o',g,b,_,_,c⟩,_⟩:=I.list h';rw[e] at b;cases b;rw[d] at c;injection c with f _
 have:its=its':=by simpa using congrArg Array.toList f
 subst this;exact r.inj r'
def Inv.tuple_inj(I:Inv X pins σ H s)(h:SqT X.K H a xs)(h':SqT X.K H a ys):xs=ys:=by
 obtain⟨its,r,⟨o,e,_,n,d⟩,_⟩:=I.tuple h;obtain⟨its',r',⟨o',b,_,g,c⟩,_⟩:=I.tuple h';rw[e] at b;cases b;rw[d] at c;injection c with f _
 have:its=its':=by simpa using congrArg Array.toList f
 subst this;exact r.inj r'
end
abbrev Cx.wish(X:Cx)(E:Value->Shared->Prop):Cx:={ X with xe:=E }
abbrev Cx.nox(X:Cx):Cx:=X.wish λ_ _=>False
def Cx.Ok.wish(ok:X.Ok)(E:Value->Shared->Prop):(X.wish E).Ok:=-
 {(ok.mod),ok.kind,ok.glob,ok.blt,ok.above,ok.inj,ok.has,ok.cab,ok.hd,ok.frames,ok.stk,ok.exf,ok.bs,ok.bsz,ok.noex,ok.exfs,ok.funs,ok.frf}
def Cx.Ok.unwish(ok:(X.wish E).Ok):X.Ok:=-
 {(ok.mod),ok.kind,ok.glob,ok.blt,ok.above,ok.inj,ok.has,ok.cab,ok.hd,ok.frames,ok.stk,ok.exf,ok.bs,ok.bsz,ok.noex,ok.exfs,ok.funs,ok.frf}
def Inv.wish(I:Inv X pins σ H s)(E:Value->Shared->Prop):Inv (X.wish E) pins σ H s:=-{I.ok.wish E,I.os,I.bare,I.base,I.loc,I.cell,I.free,I.freeC,I.pin,I.hok,I.len}
def Inv.unwish(I:Inv (X.wish E) pins σ H s):Inv X pins σ H s:=-{(I.ok.unwish),I.os,I.bare,I.base,I.loc,I.cell,I.free,I.freeC,I.pin,I.hok,I.len}
def SP.unwish{D:Ends}{f:Flow}(h:SP (X.wish E) pins D f s'):SP X pins D f s':=by
 cases f with
 |next=>obtain⟨a,H',I,q⟩:=h;exact{(a),H',I.unwish,q}
 |brk=>obtain⟨a,H',I,q⟩:=h;exact{(a),H',I.unwish,q}
 |cont=>obtain⟨a,H',I,q⟩:=h;exact{(a),H',I.unwish,q}
 |ret u=>obtain⟨v,a,H',I,r,q⟩:=h;exact{(v),a,H',I.unwish,r,q}
def PSs.nox{st:↥Stmt}{t:TS}(h:PSs X.nox st t):PSs X st t:=-λpins s σ H D I a=>
 abv (h pins s σ H D (I.wish _) a) (λ_ _ q=>q.unwish) λ_ _ z=>False.elim z
section
variable  {st:Stmt} {rest:↥Stmt} {t u:TS}   
def Bh:TS:=λD σ H=>D.nx σ H
def K4(t u:TS):TS:=λD σ H=>t { D with nx:=u D } σ H
def Bi:PSs X [] Bh:=-λ_ _ σ H _ I h=>wpAny_execs_nil {(σ),H,I,h}
def vY(h1:PS X st t)(h2:PSs X rest u):PSs X (st::rest) (K4 t u):=by
 intro pins s σ H D I h;refine wpAny_execs_cons (thn (h1 pins s σ H { D with nx:=u D } I h) λf b q=>?_)
 cases f with
 | next=>
  obtain⟨a,H',c,q⟩:=q;exact h2 pins b a H' D c q
 |ret v=>exact q
 |brk=>exact q
 |cont=>exact q
def Bj(h1:PS X st t):PSs X [st] t:=by
 intro pins s σ H D I h;refine wpAny_execs_cons (thn (h1 pins s σ H D I h) λf a q=>?_)
 cases f with
 |next=>exact wpAny_execs_nil q
 |ret v=>exact q
 |brk=>exact q
 |cont=>exact q
def qS:TS:=λD σ H=>D.bk σ H
def Bk:TS:=λD σ H=>D.ct σ H
def vZ:PS X (.Break pos) qS:=-λ_ _ σ H _ I h=>wpAny_Break {(σ),H,I,h}
def my:PS X (.Continue pos) Bk:=-λ_ _ σ H _ I h=>wpAny_Continue {(σ),H,I,h}
def Inv.quiet(I:Inv X pins σ H s):interactive X.env=false:=by simp[interactive,I.ok.kind]
def v6(te:TE):TS:=λD σ H=>te σ H λ_ H1=>D.nx σ H1
def Bl(b:PE X e te)(hs:autoParam (swapsWith e none pos.line X.env=pure false) L2.aR._auto_1):PS X (.Expr e pos) (v6 te):=by
 intro pins s σ H D I h;exact wpAny_Expr_any (thn (b pins s σ H _ I h) λv d {(x),H1,c,f,a}=>{(σ),H1,c,a}) I.quiet hs
def K5(te:TE):TS:=λD σ H=>te σ H D.rt
def Gp(c:PE X e te):PS X (.Return ↑e pos) (K5 te):=by
 intro pins s σ H D I h;exact wpAny_Return_some (thn (c pins s σ H _ I h) λv f {(x),H1,d,a,b}=>{(x),σ,H1,d,a,b})
def Bm:TS:=λD _ H=>D.rt .non H
def Bn:PS X (.Return none pos) Bm:=-λ_ _ σ H _ I h=>wpAny_Return_none {.non,σ,H,I,rfl,h}
def K6(c:TT)(t u:TS):TS:=λD σ H=>c σ H λb H1=>if b=true then t D σ H1 else u D σ H1
def K8{a b:↥Stmt}(i:PT X c tc)(k:PSs X a t)(j:PSs X b u):PS X (.If c a b pos) (K6 tc t u):=by
 intro pins s σ H D I h;refine wpAny_If (thn (i pins s σ H _ I h) λd e y=>?_);obtain⟨H1,g,f⟩:=y
 cases d with
 |true=>exact k pins e σ H1 D g f
 |false=>exact j pins e σ H1 D g f
def qT:TS:=λ_ _ _=>False
def v7:PS X st qT:=-λ_ _ _ _ _ _ h=>h.elim
end
abbrev TG:=V->St->Hp->(St->Hp->Prop)->Prop
abbrev TGs:=↥V->St->Hp->(St->Hp->Prop)->Prop
def PG(X:Cx)(target:Expr)(t:TG):Prop:=
 ∀(pins:↥(Addr×Obj)) (s:Shared) (σ:St) (H:Hp) (v:V) (u:Value) (Q:St->Hp->Prop),Inv X pins σ H s->RelV v u->t v σ H Q ->
  wpAny (model X.prog X.w) X.A (assign target X.env u) (λ_ s'=>∃a H',Inv X pins a H' s'/\Q a H') X.xe s
def PGs(X:Cx)(b:↥Expr)(t:TGs):Prop:=
 ∀(pins:↥(Addr×Obj)) (s:Shared) (σ:St) (H:Hp) (vs:↥V) (us:↥Value) (Q:St->Hp->Prop),Inv X pins σ H s->Vals vs us->t vs σ H Q ->
  wpAny (model X.prog X.w) X.A (assignInOrder ((assignEach b X.env).map (·.2)) us) (λ_ s'=>∃a H',Inv X pins a H' s'/\Q a H') X.xe s
abbrev K9:=V->V->V->Hp->(Hp->Prop)->Prop
def MG(X:Cx)(t:K9):Prop:=
 ∀(pins:↥(Addr×Obj)) (s:Shared) (σ:St) (H:Hp) (o i v:V) (ov a u:Value) (Q:Hp->Prop),Inv X pins σ H s->RelV o ov->RelV i a->RelV v u->t o i v H Q ->
  wpAny (model X.prog X.w) X.A (setItem ov a u) (λ_ s'=>∃H',Inv X pins σ H' s'/\Q H') X.xe s
def eQ(i:Nat):TG:=λv σ H Q=>Q (σ.set i !v) H
def Bo(b:X.N.Nodup)(hi:X.N[i]?=!x)(hx:Loc X.env.scope x)(a:autoParam (X.fn x=true∨X.env.scope.names.lookup x=!.local) L2.aF._auto_1):PG X (.Name x pos) (eQ i):=by
 intro pins s σ H v u Q I r h;exact wpAny_assign_Name (ny I b hi hx r (λs' c=>{_,H,c,h}) a)
def Kw:TGs:=λvs σ H Q=>vs=[]/\Q σ H
def pH(t:TG)(u:TGs):TGs:=λvs σ H Q=>∃v r,vs=v::r/\t v σ H λa H'=>u r a H' Q
def Bp:PGs X [] Kw:=by
 intro pins s σ H vs us Q I r h;obtain⟨e,h⟩:=h;subst e;cases r;exact assignInOrder_nil {(σ),H,I,h}
def v8{t:TG}{u:TGs}(h1:PG X e t)(h2:PGs X es u)
  (hs:autoParam ((assignEach (e::es) X.env).map (·.2)=assign e X.env::(assignEach es X.env).map (·.2)) L2.aR._auto_1):PGs X (e::es) (pH t u):=by
 intro pins s σ H vs us Q I r h;obtain⟨v,i,f,h⟩:=h;subst f
 cases r with
 | cons r c=>
  rw[hs];refine assignInOrder_cons (thn (h1 pins s σ H _ _ _ I r h) λ_ b y=>?_);obtain⟨a,H1,g,d⟩:=y;exact h2 pins b a H1 _ _ Q g c d
def Gq(K:Frag)(n:Nat)(t:TGs):TG:=λv σ H Q=>∃a xs,v=.ref a/\SqT K H a xs/\xs.length=n/\t xs σ H Q
def Gr{t:TGs}(p:X.calm=true)(h:PGs X es t)
  (l:autoParam ((assignEach es X.env).length=n) L2.aR._auto_1) (d:autoParam ((assignEach es X.env).findIdx? (·.1)=none) L2.aR._auto_1):PG X (.Tuple es k pos) (Gq X.K n t):=by
 intro pins s σ H v u Q I r c;obtain⟨a,xs,q,j,m,c⟩:=c;subst q;cases r;obtain⟨its,f,i,x⟩:=I.tuple j;refine assign_Tuple_tuple (I.ok.hd p) i (by simp[l,← m,f.length]) d λh' g=>?_;have w:Inv X pins σ H { s with heap:=h' }:=I.kept (t':=s.toks) λb o e=>g b o (aam (aah e)) e;exact h pins _ σ H xs _ Q w (by exists f) c
def La(to a:TE)(t:K9):TG:=λv σ H Q=>to σ H λo H1=>a σ H1 λi H2=>t o i v H2 λb=>Q σ b
def Gs{o i:Expr}{to b:TE}{t:K9}(l:PE X o to)(hi:PE X i b)(hs:MG X t)
  (m:autoParam (∀v,assign (.Subscript o i pos) X.env v=(do
   let ov ← holding [v] (eval o X.env)
   let a ← holding [v,ov] (eval i X.env)
   standAt pos
   holding [v,ov,a] (setItem ov a v)
   release [v,ov,a] [])) L2.aI._auto_1):PG X (.Subscript o i pos) (La to b t):=by
 intro pins s σ H v u Q I r h;rw[m];refine aaa (aaS (thn (l pins s σ H _ I h) λov d A=>?_));obtain⟨x,H1,q,f,k⟩:=A;refine aaa (aaS (thn (hi pins d σ H1 _ q k) λa c B=>?_));obtain⟨y,H2,p,e,j⟩:=B;refine aaa (wpAny_standAt (aaa (aaS (thn (hs pins c σ H2 x y v ov a u _ p f e r j) λ_ z C=>?_))));obtain⟨w,n,g⟩:=C;exact wpAny_release {(σ),w,n,g}
def pJ(te:TE)(g:TG):TS:=λD σ H=>te σ H λx H1=>g x σ H1 D.nx
def Gu{g:TG}(i:PE X e te)(f:PG X tg g)(hs:autoParam (swapsWithSole [tg] e pos.line X.env=pure false) L2.aR._auto_1)(d:autoParam (swappedStores [tg] e X.env=pure none) L2.aR._auto_1)
  (h1:autoParam ((assignEach [tg] X.env).map (·.2)=[assign tg X.env]) L2.aR._auto_1):PS X (.Assign [tg] e pos) (pJ te g):=by
 intro pins s σ H D I h;refine wpAny_Assign_stores (thn (i pins s σ H _ I h) λv a y=>?_) hs d;obtain⟨x,H1,j,b,c⟩:=y;rw[h1];exact thn (f pins a σ H1 x v _ j b c) λ_ k q=>q
def Gv(f:X.N.Nodup)(hi:X.N[i]?=!x)(hx:Loc X.env.scope x)(d:PE X e te)(hs:autoParam (swapsWith e ↑(.Name x pos') pos.line X.env=pure false) L2.aR._auto_1)(c:autoParam (X.fn x=true∨X.env.scope.names.lookup x=!.local) L2.aF._auto_1) :
  PS X (.Assign [.Name x pos'] e pos) (pJ te (eQ i)):=by
 intro pins s σ H D I h;refine wpAny_Assign_Name (thn (d pins s σ H _ I h) λv l z=>?_) hs;obtain⟨y,H1,j,a,b⟩:=z;exact ny j f hi hx a (λk g=>{_,H1,g,b}) c
def qU(c:TT)(tb:TS):TS:=λD σ H=>∃W:Nat->St->Hp->Prop,(∃m,W m σ H)/\∀m σ H,W m σ H ->
 c σ H λb H1=>if b=true then ∃N:St->Hp->Prop,(∀a H',N a H'->∃d,d<m/\W d a H')/\tb { D with nx:=N,ct:=N,bk:=D.nx } σ H1 else D.nx σ H1
def v9{tb:TS}(r:PassesOwn (model X.prog X.w) X.A X.env X.xe)(B:PT X c tc)(C:PSs X body tb):PS X (.While c body [] pos) (qU tc tb):=by
 intro pins s σ H D I h;obtain⟨W,⟨A,x⟩,g⟩:=h;refine wpAny_While (codeAny_whileLoop (λn s'=>∃e H',Inv X pins e H' s'/\W n e H') ?_ A {(σ),H,I,x});rintro n z ⟨d,H1,E,w⟩;refine abg r (thn (B pins z d H1 _ E (g n d H1 w)) λb y G=>?_);obtain⟨H2,u,k⟩:=G
 cases b with
 | true=>
  obtain⟨N,t,k⟩:=k;rw[if_pos rfl];refine abg r (thn (C pins y d H2 _ u k) λf F j=>?_)
  cases f with
  | next=>
   obtain⟨a,i,q,m⟩:=j;obtain⟨o,p,l⟩:=t a i m;exact{(o),p,a,i,q,l}
  | cont=>
   obtain⟨a,i,q,m⟩:=j;obtain⟨o,p,l⟩:=t a i m;exact{(o),p,a,i,q,l}
  |brk=>exact j
  |ret v=>exact j
 | false=>
  rw[if_neg abU];exact wpAny_execs_nil {(d),H2,u,k}
structure It where
 go:Nat->Hp->Prop
 yld:Nat->Hp->V->Hp->Prop
 stop:Nat->Hp->Prop
def qV(X:Cx)(pins:↥(Addr×Obj))(H:Hp)(b:Addr):Prop:=
 H b=none/\b≠X.env.locals/\b∉X.fs/\(b∈X.ex∨X.s₀.heap.objs.size<=b)/\(∀x c,X.env.cells.lookup x=!c->c≠b)/\∀p∈X.pn++pins,p.1≠b
def Inv.fpOk(I:Inv X pins σ H s)(a:s.heap.objs.size<=b)(f:H' b=none):qV X pins H' b:=by
 refine{f,Nat.ne_of_gt (aaq I.lt a),I.nofs a,.inr (aar I.sz a),λx c e z=>?_,λp d z=>?_}
 .obtain⟨v,q⟩:=I.cell x c e;exact absurd (aaq q.lt (by rw[z];exact a)) (aaZ _)
 .exact absurd (aaq (aah (I.pin p d).1) (by rw[z];exact a)) (aaZ _)
structure Turn(P:Program)(w:World)(K:Frag)(tg:Expr)(J:It)(fp:↥Addr)(it:Addr)(tn:Nat->Heap->Prop):Prop where
 mem:it∈fp
 obj:∀i h,tn i h->∀b∈fp,∃o,h.get? b=!o/\∀v,o.data≠.cell v
 keep:∀i h h',tn i h->(∀b∈fp,∀o,h.get? b=!o->h'.get? b=!o)->tn i h'
 item:∀(X:Cx),X.prog=P->X.w=w->X.K=K->X.calm=true->∀(i:Nat) (pins:↥(Addr×Obj)) (s:Shared) (σ:St) (H:Hp) (E:Value->Shared->Prop),Inv X pins σ H s->(∀b∈fp,qV X pins H b)->tn i s.heap->J.go i H ->
  wpAny (model P w) X.A (pyNext (.ref it)) (λr s1=>∃u,r=↑u /\
   wpAny (model P w) X.A (letOwnedTupleGo tg (.ref it) u) (λ_ s2=>∃x H',Inv X pins σ H' s2/\RelV x u/\J.yld i H x H'/\tn (i+1) s2.heap/\∀b∈fp,H' b=none) E s1) E s
 done:∀(X:Cx),X.prog=P->X.w=w->X.K=K->X.calm=true->∀(i:Nat) (pins:↥(Addr×Obj)) (s:Shared) (σ:St) (H:Hp) (E:Value->Shared->Prop),Inv X pins σ H s->(∀b∈fp,qV X pins H b)->tn i s.heap->J.stop i H ->
  wpAny (model P w) X.A (pyNext (.ref it)) (λr s1=>r=none/\Inv X pins σ H s1) E s
 self:∀(A:Around) (i:Nat) (s:Shared) (Q:Value->Shared->Prop) (E:Value->Shared->Prop),tn i s.heap->Q (.ref it) s->wpAny (model P w) A (pyIter (.ref it)) Q E s
abbrev TI:=St->Hp->(It->Hp->Prop)->Prop
def PIE(X:Cx)(pins:↥(Addr×Obj))(σ:St)(tg:Expr)(R:It->Hp->Prop)(a:Value)(c:Shared):Prop:=
 ∃(it:Addr) (fp:↥Addr) (tn:Nat->Heap->Prop) (J:It) (H':Hp),a=.ref it/\Inv X pins σ H' c/\Turn X.prog X.w X.K tg J fp it tn/\tn 0 c.heap/\(∀b∈fp,qV X pins H' b)/\R J H'
def PI(X:Cx)(tg iter:Expr)(wi:TI):Prop:=
 ∀(pins:↥(Addr×Obj)) (s:Shared) (σ:St) (H:Hp) (R:It->Hp->Prop),Inv X pins σ H s->wi σ H R ->
  wpAny (model X.prog X.w) X.A (eval iter X.env) (λv a=>wpAny (model X.prog X.w) X.A (pyIter v) (PIE X pins σ tg R) X.xe a) X.xe s
def i9{M:Model}{o:Obj}{n:String}{vs:Array Value}{Q:Unit->Shared->Prop}(b:s.heap.get? it=!o)(d:o.cls=.type n)(hd:o.data=.fields vs)
    (c:["enumerate", "zip", "dict_itemiterator", "dict_reverseitemiterator", "odict_iterator", "itertools.zip_longest", "itertools.pairwise"].contains n=false) (a:Q PUnit.unit s):wpAny M A (letOwnedTupleGo tg (.ref it) u) Q E s:=by
  unfold letOwnedTupleGo
  cases tg <;> first
    |exact aaf a
    | (cases u <;> first
        |exact aaf a
        | (refine aaa (wpAny_load b ?_)
           rw[d,hd];show wpAny M A (if (["enumerate", "zip", "dict_itemiterator", "dict_reverseitemiterator", "odict_iterator", "itertools.zip_longest", "itertools.pairwise"].contains n&&vs[0]?==!(rawInt _))=true then _ else _) Q E s;rw[if_neg (by intro h;rw[c,Bool.false_and] at h;cases h)];exact aaf a))
def Itl(K:Frag)(a:Addr):It:=
 {λi H=>∃xs x,SqL K H a xs/\xs[i]?=!x,λi H x H'=>H'=H/\∀xs,SqL K H a xs->xs[i]?=!x,λi H=>∃xs,SqL K H a xs/\xs.length<=i}
def Itt(K:Frag)(a:Addr):It:=
 {λi H=>∃xs x,SqT K H a xs/\xs[i]?=!x,λi H x H'=>H'=H/\∀xs,SqT K H a xs->xs[i]?=!x,λi H=>∃xs,SqT K H a xs/\xs.length<=i}
def Itr(lo:Int)(n:Nat):It:={λi _=>i<n,λi H x H'=>H'=H/\x=.int (lo+i),λi _=>n<=i}
theorem qW{K:Frag}(a it:Addr):Turn P w K tg (Itl K a) [it] it (λi h=>h.IsListIter it a i) where
 mem:=by simp
 obj:=λi h st b hb=>by
  have e:b=it:=(by exists hb);subst e;obtain⟨o,e,c,d⟩:=st;exact{o,e,λv z=>by rw[d] at z;cases z}
 keep:=λi h h' st k=>st.at λo e=>k it (by simp) o e
 item:=by
  intro X hP hw hK hc i pins s σ H E I hf st hg;subst hP hw hK;obtain⟨xs,x,hq,hx⟩:=hg;obtain⟨its,rv,p,hz⟩:=I.list hq;obtain⟨u,hu,ru⟩:=rv.get hx;obtain⟨f0,f1,f2,f3,f4,f5⟩:=hf it (by simp);refine wpAny_pyNext_list_item st p.isList (x:=u) (by exists hu) λh' st' sb=>?_;have I1:Inv X pins σ H { s with heap:=h' }:=I.turned (t':=s.toks) (λb o hb e=>(sb.2 b hb).trans e) f0 f1 f3 f4 f5;obtain⟨o,e,c,d⟩:=id st';exact{u,rfl,i9 (s:={ s with heap:=h' }) e c d (by decide) {x,H,I1,ru,{rfl,λys hy=>by rw[I.list_inj hy hq];exact hx},st',λb hb=>(hf b hb).1}}
 done:=by
  intro X hP hw hK hc i pins s σ H E I hf st hg;subst hP hw hK;obtain⟨xs,hq,hx⟩:=hg;obtain⟨its,rv,p,hz⟩:=I.list hq;obtain⟨f0,f1,f2,f3,f4,f5⟩:=hf it (by simp);have hl:=rv.length;exact wpAny_pyNext_list_end (I.ok.hd hc) st p.isList (by simp;nofun) λh' eb=>{rfl,I.turned (t':=s.toks) (λb o hb e=>eb b o hb e) f0 f1 f3 f4 f5}
 self:=λ_ _ _ _ _ st h=>wpAny_pyIter_listiter st h
theorem pK{K:Frag}(a it:Addr):Turn P w K tg (Itt K a) [it] it (λi h=>h.IsTupleIter it a i) where
 mem:=by simp
 obj:=λi h st b hb=>by
  have e:b=it:=(by exists hb);subst e;obtain⟨o,e,c,d⟩:=st;exact{o,e,λv z=>by rw[d] at z;cases z}
 keep:=λi h h' st k=>st.at λo e=>k it (by simp) o e
 item:=by
  intro X hP hw hK hc i pins s σ H E I hf st hg;subst hP hw hK;obtain⟨xs,x,hq,hx⟩:=hg;obtain⟨its,rv,p,hz⟩:=I.tuple hq;obtain⟨u,hu,ru⟩:=rv.get hx;obtain⟨f0,f1,f2,f3,f4,f5⟩:=hf it (by simp);refine wpAny_pyNext_tuple_item st (show s.heap.IsTuple a its.toArray from p) (x:=u) (by exists hu) λh' st' sb=>?_;have I1:Inv X pins σ H { s with heap:=h' }:=I.turned (t':=s.toks) (λb o hb e=>(sb.2 b hb).trans e) f0 f1 f3 f4 f5;obtain⟨o,e,c,d⟩:=id st';exact{u,rfl,i9 (s:={ s with heap:=h' }) e c d (by decide) {x,H,I1,ru,{rfl,λys hy=>by rw[I.tuple_inj hy hq];exact hx},st',λb hb=>(hf b hb).1}}
 done:=by
  intro X hP hw hK hc i pins s σ H E I hf st hg;subst hP hw hK;obtain⟨xs,hq,hx⟩:=hg;obtain⟨its,rv,p,hz⟩:=I.tuple hq;obtain⟨f0,f1,f2,f3,f4,f5⟩:=hf it (by simp);have hl:=rv.length;exact wpAny_pyNext_tuple_end (I.ok.hd hc) st (show s.heap.IsTuple a its.toArray from p) (by simp;nofun) λh' eb=>{rfl,I.turned (t':=s.toks) (λb o hb e=>eb b o hb e) f0 f1 f3 f4 f5}
 self:=λ_ _ _ _ _ st h=>wpAny_pyIter_tupleiter st h
theorem pL{K:Frag}(it:Addr)(lo:Int)(n:Nat):Turn P w K tg (Itr lo n) [it] it (λi h=>IsRangeIter h it (lo+(i:Nat)*1) ((n:Int) - (i:Nat)) 1) where
 mem:=by simp
 obj:=λi h st b hb=>by
  have e:b=it:=(by exists hb);subst e
  exact{_,st,λv z=>by
   have z':Data.fields _=Data.cell v:=z;cases z'}
 keep:=λi h h' st k=>k it (by simp) _ st
 item:=by
  intro X hP hw hK hc i pins s σ H E I hf st hg;subst hP hw hK;obtain⟨f0,f1,f2,f3,f4,f5⟩:=hf it (by simp);have W:=Walks.range (prog:=X.prog) (w:=X.w) (I.ok.hd hc) it lo 1 n;refine W.item i s _ _ hg st λv h' tk hv st' kk=>?_;obtain⟨t,rfl⟩:=hv;have I1:Inv X pins σ H { s with heap:=h',toks:=tk }:=I.turned (λb o hb e=>kk b o (by exists hb) e) f0 f1 f3 f4 f5;refine{_,rfl,i9 (s:={ s with heap:=h',toks:=tk }) (n := "range_iterator") st' rfl rfl (by decide) {.int (lo+i),H,I1,{t,?_},{(rfl),rfl},st',λb hb=>(hf b hb).1}};rw[Int.mul_one]
 done:=by
  intro X hP hw hK hc i pins s σ H E I hf st hg;subst hP hw hK;obtain⟨f0,f1,f2,f3,f4,f5⟩:=hf it (by simp);exact wpAny_pyNext_range_end (I.ok.hd hc) st (by have:n<=i:=hg;nofun) λh' eb=>{rfl,I.turned (t':=s.toks) (λb o hb e=>eb b o hb e) f0 f1 f3 f4 f5}
 self:=λ_ _ _ _ _ st h=>wpAny_pyIter_rangeiter st h
def mz(K:Frag)(tl:TE):TI:=λσ H R=>tl σ H λx H1=>∃a,x=.ref a/\(∃xs,SqL K H1 a xs)/\R (Itl K a) H1
def Kx(K:Frag)(tl:TE):TI:=λσ H R=>tl σ H λx H1=>∃a,x=.ref a/\(∃xs,SqT K H1 a xs)/\R (Itt K a) H1
def Bq(j:PE X l tl):PI X tg l (mz X.K tl):=by
 intro pins s σ H R I h;refine thn (j pins s σ H _ I h) λv c y=>?_;obtain⟨x,H1,d,f,g⟩:=y;obtain⟨a,e,⟨xs,i⟩,q⟩:=g;subst e;cases f;obtain⟨its,m,p,n⟩:=d.list i;refine wpAny_pyIter_list p.isList ?_;refine{c.heap.objs.size,[c.heap.objs.size],_,_,H1,rfl,d.kept (t':=c.toks) λb o e=>Heap.get?_push_of_some _ e,qW a _,{_,Heap.get?_push_size _ rfl,rfl,rfl},λb k=>?_,q};have e:b=c.heap.objs.size:=(by exists k);subst e;exact d.fpOk (aac _) (d.hok.fresh (aac _))
def Gw(j:PE X l tl):PI X tg l (Kx X.K tl):=by
 intro pins s σ H R I h;refine thn (j pins s σ H _ I h) λv c y=>?_;obtain⟨x,H1,d,f,g⟩:=y;obtain⟨a,e,⟨xs,i⟩,q⟩:=g;subst e;cases f;obtain⟨its,m,p,n⟩:=d.tuple i;refine wpAny_pyIter_tuple (show c.heap.IsTuple a its.toArray from p) ?_;refine{c.heap.objs.size,[c.heap.objs.size],_,_,H1,rfl,d.kept (t':=c.toks) λb o e=>Heap.get?_push_of_some _ e,pK a _,{_,Heap.get?_push_size _ rfl,rfl,rfl},λb k=>?_,q};have e:b=c.heap.objs.size:=(by exists k);subst e;exact d.fpOk (aac _) (d.hok.fresh (aac _))
def nD{R:It->Hp->Prop}{lo hi:Int}{t u v:Tok}{tk:Nat}(I:Inv X pins σ H s)(h1:-(2 ^ 62)<=lo)(h2:lo<2 ^ 62)(f:-(2 ^ 62)<=hi)(d:hi<2 ^ 62)
  (q:R (Itr lo (hi - lo).toNat) H):wpAny (model X.prog X.w) X.A (pyIter (.ref s.heap.objs.size)) (PIE X pins σ tg R) E { s with heap:=s.heap.push { cls:=.type "range", data:=.fields #[.int lo t,.int hi u,.int 1 v] },toks:=tk }:=by
 refine wpAny_pyIter_range (IsRange.new ..) (small_one h1 h2 f d) ?_;have a:Inv X pins σ H { s with heap:=s.heap.push { cls:=.type "range", data:=.fields #[.int lo t,.int hi u,.int 1 v] },toks:=tk }:=I.kept λb o e=>Heap.get?_push_of_some _ e
 refine{(s.heap.push { cls:=.type "range", data:=.fields #[.int lo t,.int hi u,.int 1 v] }).objs.size,[(s.heap.push { cls:=.type "range", data:=.fields #[.int lo t,.int hi u,.int 1 v] }).objs.size],_,_,H,rfl,
  a.kept (t':=tk) λb o e=>Heap.get?_push_of_some _ e,pL _ lo (hi - lo).toNat,?_,λb c=>?_,q}
 .have i:lo+((0:Nat):Int)*1=lo:=by simp
  have g:(((hi - lo).toNat:Nat):Int) - ((0:Nat):Int)=Builtin.Range.rangeSize lo hi 1:=by rw[rangeSize_one];split <;> nofun
  show IsRangeIter _ _ (lo+((0:Nat):Int)*1) ((((hi - lo).toNat:Nat):Int) - ((0:Nat):Int)) 1;rw[i,g];exact Heap.get?_push_size _ rfl
 .have e:b=(s.heap.push { cls:=.type "range", data:=.fields #[.int lo t,.int hi u,.int 1 v] }).objs.size:=(by exists c);subst e;exact a.fpOk (aac _) (a.hok.fresh (aac _))
def Br(ta:TA):TI:=λσ H R=>ta σ H λvs H1=>∃j:Int,vs=[.int j]/\-(2 ^ 62)<=j/\j<2 ^ 62/\R (Itr 0 j.toNat) H1
def Bs(ta:TA):TI:=λσ H R=>ta σ H λvs H1=>∃i j:Int,vs=[.int i,.int j]/\(-(2 ^ 62)<=i/\i<2 ^ 62/\-(2 ^ 62)<=j/\j<2 ^ 62)/\R (Itr i (j - i).toNat) H1
def qX{a:Expr}{ta:TA}(i:Gl X "range")(g:X.mg "range" = none)(k:PA X [a] ta)(hs:autoParam (starEach [a] X.env=[(false,eval a X.env)]) L2.aR._auto_1):PI X tg (.Call (.Name "range" p) [a] [] pos) (Br ta):=by
 intro pins s σ H R I h;refine Call_ (gW I i g boot_range (aa2 (thn (k pos pins s σ H _ I h) λus m y=>?_) hs rfl));obtain⟨vs,H1,l,d,b⟩:=y;obtain⟨j,e,b,f,q⟩:=b;subst e
 cases d with
 | cons r c=>
  cases c;obtain⟨t,rfl⟩:=r;exact call_range_1 (nD l () () b f (by exists q))
def qY{a b:Expr}{ta:TA}(o:Gl X "range")(n:X.mg "range" = none)(u:PA X [a,b] ta)(hs:autoParam (starEach [a,b] X.env=[(false,eval a X.env),(false,eval b X.env)]) L2.aR._auto_1)(c:autoParam (starEach [b] X.env=[(false,eval b X.env)]) L2.aR._auto_1) :
  PI X tg (.Call (.Name "range" p) [a,b] [] pos) (Bs ta):=by
 intro pins s σ H R I h;refine Call_ (gW I o n boot_range (aa2 (thn (u pos pins s σ H _ I h) λus w y=>?_) (by rw[hs,c]) (by rw[c];rfl)));obtain⟨vs,H1,v,g,f⟩:=y;obtain⟨i,j,e,⟨f,m,l,k⟩,q⟩:=f;subst e
 cases g with
 | cons r d=>
  cases d with
  | cons r' d=>
   cases d;obtain⟨t,rfl⟩:=r;obtain⟨t',rfl⟩:=r';exact call_range_2 (nD v f m l k q)
def Lb(wi:TI)(g:TG)(tb:TS):TS:=λD σ H=>wi σ H λJ H1=>∃W:Nat->Nat->St->Hp->Prop,(∃m,W 0 m σ H1)/\∀i m σ H,W i m σ H ->
 (J.stop i H/\D.nx σ H)∨(J.go i H/\∃N:St->Hp->Prop,(∀a H',N a H'->∃c,c<m/\W (i+1) c a H')/\∀x H',J.yld i H x H'->g x σ H' λb H2=>tb { D with nx:=N,ct:=N,bk:=D.nx } b H2)
def jm(fp:↥Addr)(h:Heap):↥(Addr×Obj):=fp.filterMap λb=>(h.get? b).map λo=>(b,o)
def eI{o:Obj}(a:b∈fp)(e:h.get? b=!o):(b,o)∈jm fp h:=-List.mem_filterMap.mpr {b,a,by rw[e];rfl}
def qZ{p:Addr×Obj}(a:p∈jm fp h):p.1∈fp/\h.get? p.1=!p.2:=by
 obtain⟨b,c,e⟩:=List.mem_filterMap.mp a
 cases q:h.get? b with
 |none=>rw[q] at e;cases e
 | some o=>
  rw[q] at e;have d:(b,o)=p:=aak e;subst d;exact{(c),q}
def Inv.pinned(I:Inv X pins σ H s)(i:∀b∈fp,qV X pins H b)(g:∀b∈fp,∃o,s.heap.get? b=!o/\∀v,o.data≠.cell v):Inv X (pins++jm fp s.heap) σ H s:=-
 I.pins_of λp f=>(abQ.mp f).elim (λz=>I.pin p (aal _ z)) λz=>by
  obtain⟨a,e⟩:=qZ z;obtain⟨j,f1,f2,_⟩:=i p.1 a;obtain⟨o,c,d⟩:=g p.1 a;rw[e] at c;cases c;exact{(e),j,f1,f2,d}
def Inv.unpinned{pl:↥(Addr×Obj)}(I:Inv X (pins++pl) σ H s):Inv X pins σ H s:=-I.pins_of λp a=>I.pin p (aal _ (aau _ a))
def Gx{iter:Expr}{wi:TI}{g:TG}{tb:TS}(E:PassesOwn (model X.prog X.w) X.A X.env X.xe)(Z:X.calm=true)(hi:PI X tg iter wi)(hg:PG X tg g)(l:PSs X body tb)
  (hs:autoParam (∀x,foldedSetIterable iter X.env x=pure x) L2.aI._auto_1):PS X (.For tg iter body [] pos) (Lb wi g tb):=by
 intro pins s σ H D I h;refine wpAny_For (thn (hi pins s σ H _ I h) λv s1 h1=>thn h1 λitv s2 h2=>?_) hs;obtain⟨it,fp,tn,J,H2,e,I2,T,O,f2,W,⟨m0,w0⟩,z⟩:=h2;subst e
 -- S M true of L w B through L Y
 have k:∀{H':Hp},(∀b∈fp,H' b=none)->∀b∈fp,qV X pins H' b:=λhn b l=>{hn b l,(f2 b l).2};refine codeAny_forLoop_any (λn s'=>∃i j H',Inv X pins j H' s'/\tn i s'.heap/\(∀b∈fp,H' b=none)/\W i n j H') ?_ m0 {0,σ,H2,I2,O,λb l=>(f2 b l).1,w0};rintro n V ⟨i,c,G,I3,A,F,w3⟩;rcases z i n c G w3 with ⟨stop,qn⟩|⟨go,N,hN,step⟩
 .refine abg E (thn (T.done X rfl rfl rfl Z i pins V c G X.xe I3 (k F) A stop) λr s4 r=>?_);obtain⟨hr,I4⟩:=r;subst hr;exact wpAny_execs_nil {(c),G,I4,qn}
 .refine abg E (thn (T.item X rfl rfl rfl Z i pins V c G X.xe I3 (k F) A go) λr s4 x0=>?_);obtain⟨u,hr,h4⟩:=x0;subst hr;refine abg E (thn h4 λ_ U x1=>?_);obtain⟨x,H5,I5,r5,y5,y,Q⟩:=x1;have R:=I5.pinned (k Q) (T.obj _ _ y);refine abg E (thn (hg _ U c H5 x u _ R r5 (step x H5 y5)) λ_ s6 x2=>?_);obtain⟨K,H6,I6,q6⟩:=x2;refine abg E (thn (l _ s6 K H6 _ I6 q6) λf P t=>?_)
  have again:∀{a:St} {q:Hp},Inv X (pins++jm fp U.heap) a q P->N a q->∃m,m<n/\∃i j H',Inv X pins j H' P/\tn i P.heap/\(∀b∈fp,H' b=none)/\W i m j H':=fun {a q} p C=>by
   obtain⟨m',hm,w7⟩:=hN a q C;refine{m',hm,i+1,a,q,p.unpinned,T.keep _ _ _ y λb l o e=>(p.pin (b,o) (aal _ (aal _ (eI l e)))).1,λb l=>?_,w7};obtain⟨o,e,d⟩:=T.obj _ _ y b l;exact(p.pin (b,o) (aal _ (aal _ (eI l e)))).2.1
  cases f with
  |next=>obtain ⟨a,q,p,C⟩:=t;exact again p C
  |cont=>obtain ⟨a,q,p,C⟩:=t;exact again p C
  |brk=>obtain ⟨a,q,p,t⟩:=t;exact {(a),q,p.unpinned,t}
  |ret v=>obtain ⟨x7,a,q,p,r7,t⟩:=t;exact {(x7),a,q,p.unpinned,r7,t}
abbrev R2:=V->V->Hp->VK->Prop
variable{r r':R2}
def OpR(X:Cx)(f:Value->Value->Sem Value)(r:R2):Prop:=
 ∀(pins:↥(Addr×Obj)) (s:Shared) (σ:St) (H:Hp) (x y:V) (v u:Value) (Q:VK),Inv X pins σ H s->RelV x v->RelV y u->r x y H Q ->
  wpAny (model X.prog X.w) X.A (f v u) (EP X pins σ Q) X.xe s
def UnR(X:Cx)(f:Value->Sem Value)(r:V->Hp->VK->Prop):Prop:=
 ∀(pins:↥(Addr×Obj)) (s:Shared) (σ:St) (H:Hp) (x:V) (v:Value) (Q:VK),Inv X pins σ H s->RelV x v->r x H Q ->
  wpAny (model X.prog X.w) X.A (f v) (EP X pins σ Q) X.xe s
def CallR(X:Cx)(f:Value)(r:↥V->Hp->VK->Prop):Prop:=
 ∀(pins:↥(Addr×Obj)) (s:Shared) (σ:St) (H:Hp) (xs:↥V) (us:↥Value) (Q:VK),Inv X pins σ H s->Vals xs us->r xs H Q ->
  wpAny (model X.prog X.w) X.A (call f us) (EP X pins σ Q) X.xe s
def TruR(X:Cx)(r:V->Hp->(Bool->Hp->Prop)->Prop):Prop:=
 ∀(pins:↥(Addr×Obj)) (s:Shared) (σ:St) (H:Hp) (x:V) (v:Value) (Q:Bool->Hp->Prop),Inv X pins σ H s->RelV x v->r x H Q ->
  wpAny (model X.prog X.w) X.A (truthy v) (TP X pins σ Q) X.xe s
def tOp(r:R2)(ta tb:TE):TE:=λσ H Q=>ta σ H λx H1=>tb σ H1 λy H2=>r x y H2 Q
def tUn(r:V->Hp->VK->Prop)(ta:TE):TE:=λσ H Q=>ta σ H λx H1=>r x H1 Q
def rI(C:Int->Int->Prop)(g:Int->Int->V):R2:=λx y H Q=>∃i j,x=.int i/\y=.int j/\C i j/\Q (g i j) H
def rI0(g:Int->Int->V):R2:=λx y H Q=>∃i j,x=.int i/\y=.int j/\Q (g i j) H
def rU(g:Int->V):V->Hp->VK->Prop:=λx H Q=>∃i,x=.int i/\Q (g i) H
section
variable  {a b:Expr} {tc:TE} 
def Lc(o:PE X a ta)(n:PE X b tb)(I:Inv X pins σ H s)
  (h:ta σ H λx H1=>tb σ H1 λy H2=>R x y H2)  
  (m:∀v u e x y H2,Inv X pins σ H2 e->RelV x v->RelV y u->R x y H2->wpAny (model X.prog X.w) X.A (f v u) Q X.xe e) :
  wpAny (model X.prog X.w) X.A (eval a X.env) (λv d=>wpAny (model X.prog X.w) X.A (eval b X.env) (λu c=>wpAny (model X.prog X.w) X.A (f v u) Q X.xe c) X.xe d) X.xe s:=by
 refine thn (o pins s σ H _ I h) λv g z=>?_;obtain⟨x,H1,q,j,l⟩:=z;refine thn (n pins g σ H1 _ q l) λu e t=>?_;obtain⟨y,H2,p,i,k⟩:=t;exact m v u e x y H2 p j i k
def Ld{op:Operator}(f:OpR X (binaryOp op) r)(i:PE X a ta)(g:PE X b tb):PE X (.BinOp a op b pos) (tOp r ta tb):=by
 intro pins s σ H Q I h;exact wpAny_BinOp (Lc i g I h λv u c x y H2 j e d q=>f pins c σ H2 x y v u Q j e d q)
def Le{op:UnaryOp}{r:V->Hp->VK->Prop}(e:UnR X (unaryOp op) r)(f:PE X a ta):PE X (.UnaryOp op a pos) (tUn r ta):=by
 intro pins s σ H Q I h;exact UnaryOp_ (thn (f pins s σ H _ I h) λv b {(x),H1,g,c,d}=>e pins b σ H1 x v Q g c d)
def opI{C:Int->Int->Prop}
  (rule:∀(i j:Int) (t u:Tok) (s:Shared) (Q:Value->Shared->Prop) (E:Value->Shared->Prop),C i j->Q (.int (g i j) s.toks) { s with toks:=s.toks+1 }->wpAny (model X.prog X.w) X.A (f (.int i t) (.int j u)) Q E s) :
  OpR X f (rI C λi j=>.int (g i j)):=by
 intro pins s σ H x y v u Q I b a h;obtain⟨i,j,rfl,rfl,c,q⟩:=h;obtain⟨t,rfl⟩:=b;obtain⟨t',rfl⟩:=a;exact rule i j t t' s _ _ c {.int (g i j),H,I.tok _,{_,rfl},q}
def MH 
  (rule:∀(i j:Int) (t u:Tok) (s:Shared) (Q:Value->Shared->Prop) (E:Value->Shared->Prop),Q (.int (g i j) s.toks) { s with toks:=s.toks+1 }->wpAny (model X.prog X.w) X.A (f (.int i t) (.int j u)) Q E s) :
  OpR X f (rI0 λi j=>.int (g i j)):=by
 intro pins s σ H x y v u Q I b a h;obtain⟨i,j,rfl,rfl,q⟩:=h;obtain⟨t,rfl⟩:=b;obtain⟨t',rfl⟩:=a;exact rule i j t t' s _ _ {.int (g i j),H,I.tok _,{_,rfl},q}
def Ky{g:Int->Int->Bool}
  (rule:∀(i j:Int) (t u:Tok) (s:Shared) (Q:Value->Shared->Prop) (E:Value->Shared->Prop),Q (.bool (g i j)) s->wpAny (model X.prog X.w) X.A (f (.int i t) (.int j u)) Q E s) :
  OpR X f (rI0 λi j=>.bl (g i j)):=by
 intro pins s σ H x y v u Q I b a h;obtain⟨i,j,rfl,rfl,q⟩:=h;obtain⟨t,rfl⟩:=b;obtain⟨t',rfl⟩:=a;exact rule i j t t' s _ _ {.bl (g i j),H,I,rfl,q}
def FR(i j:Int):Prop:=0<j/\j<1073741824
def FU(i j:Int):Prop:=0<=j/\j<=1000000/\i.natAbs<2 ^ 64
def CMul(i j:Int):Prop:=(-(2 ^ 64)<i/\i<2 ^ 64)∨(-(2 ^ 64)<j/\j<2 ^ 64)
def CMul.ok{i j:Int}(h:CMul i j):IntMulOk i j:=by
 rcases h with ⟨h1,h2⟩|⟨h1,h2⟩
 .exact .of_left (intBits_le_64 h1 h2)
 .exact .of_right (intBits_le_64 h1 h2)
def Gy:OpR X (binaryOp .Add) (rI0 λi j=>.int (i+j)):=-MH λ_ _ _ _ _ _ _ q=>add_int q
def Gz:OpR X (binaryOp .Sub) (rI0 λi j=>.int (i - j)):=-MH λ_ _ _ _ _ _ _ q=>sub_int q
def GA:OpR X (binaryOp .Mult) (rI CMul λi j=>.int (i*j)):=-opI λ_ _ _ _ _ _ _ a q=>mul_int q a.ok
def Bt:OpR X (binaryOp .FloorDiv) (rI FR λi j=>.int (i / j)):=-opI λi j _ _ _ _ _ a q=>by
 have h1:(0:Int)<j:=a.1;have h2:j<1073741824:=a.2;exact floordiv_int () (by rw[Int.fdiv_eq_ediv_of_nonneg i ()];exact q) (.inl (PyProof.noPylong_small ()))
def GB:OpR X (binaryOp .Mod) (rI (λ_ j=>0<j) λi j=>.int (i % j)):=-opI λi j _ _ _ _ _ a q=>by
 have h1:(0:Int)<j:=a;exact mod_int' () (by rw[Int.fmod_eq_emod_of_nonneg i ()];exact q)
def GC:OpR X (binaryOp .Pow) (rI FU λi j=>.int (i ^ j.toNat)):=-opI λ_ _ _ _ _ _ _ a q=>pow_int_small a.1 a.2.1 a.2.2 q
def unI{f:Value->Sem Value}{g:Int->Int}
  (rule:∀(i:Int) (t:Tok) (s:Shared) (Q:Value->Shared->Prop) (E:Value->Shared->Prop),Q (.int (g i) s.toks) { s with toks:=s.toks+1 }->wpAny (model X.prog X.w) X.A (f (.int i t)) Q E s) :
  UnR X f (rU λi=>.int (g i)):=by
 intro pins s σ H x v Q I a h;obtain⟨i,rfl,q⟩:=h;obtain⟨t,rfl⟩:=a;exact rule i t s _ _ {.int (g i),H,I.tok _,{_,rfl},q}
def GD:UnR X (unaryOp .USub) (rU λi=>.int (-i)):=-unI λ_ _ _ _ _ q=>neg_int q
end
def MI:V->V->Bool
 |.non,.non=>true|.non,.int _=>true|.int _,.non=>true|.non,.bl _=>true|.bl _,.non=>true|.non,.str _=>true|.str _,.non=>true
 |.int _,.int _=>true|.bl _,.bl _=>true|.str _,.str _=>true|.byt _,.byt _=>true
 |.int _,.str _=>true|.str _,.int _=>true|.bl _,.str _=>true|.str _,.bl _=>true
 |_,_=>false
def rEq:R2:=λx y H Q=>MI x y=true/\Q (.bl (decide (x=y))) H
def rNe:R2:=λx y H Q=>MI x y=true/\Q (.bl (⇑(decide (x=y)))) H
def q0{i j:Int}:decide (V.int i=V.int j)=(i==j):=by
 rw[abj,decide_eq_true_iff,beq_iff_eq];exact{λh=>by cases h;rfl,λh=>by rw[h]}
def zS{i j:Bool}:decide (V.bl i=V.bl j)=(i==j):=by
 rw[abj,decide_eq_true_iff,beq_iff_eq];exact{λh=>by cases h;rfl,λh=>by rw[h]}
def ra{i j:Str}:decide (V.str i=V.str j)=(i==j):=by
 rw[abj,decide_eq_true_iff,beq_iff_eq];exact{λh=>by cases h;rfl,λh=>by rw[h]}
def rb{i j:Array UInt8}:decide (V.byt i=V.byt j)=(i.toList==j.toList):=by
 rw[abj,decide_eq_true_iff,beq_iff_eq];exact{λh=>by cases h;rfl,λh=>by rw[Array.toList_inj.mp h]}
section
variable  {a b:Expr} {tc:TE} 
def aU{Q:VK}{k k':Bool}(I:Inv X pins σ H s)(q:Q (.bl k) H)(e:k=k'):EP X pins σ Q (.bool k') s:=by
 subst e;exact{.bl k,H,I,rfl,q}
def Lf:OpR X (compareOp .Eq) rEq:=by
 intro pins s σ H x y v u Q I b a h;obtain⟨hs,q⟩:=h
 cases x with
 | non=>
  cases b
  cases y with
  |non=>cases a;exact PySem.EqNone.eq_none_none (aU I q (by simp))
  |bl j=>cases a;exact PySem.EqNone.eq_none_bool (aU I q (by simp))
  |int j=>obtain ⟨t',rfl⟩:=a;exact PySem.EqNone.eq_none_int (aU I q (by simp))
  |str j=>obtain ⟨t',rfl⟩:=a;exact PySem.EqNone.eq_none_str (aU I q (by simp))
  |_=>exact absurd (show false=true from hs) abU
 | bl i=>
  cases b
  cases y with
  |non=>cases a;exact PySem.EqNone.eq_bool_none (aU I q (by simp))
  |bl j=>cases a;exact eq_bool (aU I q zS)
  |str j=>obtain ⟨t',rfl⟩:=a;exact PySem.EqMixed.eq_bool_str (aU I q (by simp))
  |_=>exact absurd (show false=true from hs) abU
 | int i=>
  obtain⟨t,rfl⟩:=b
  cases y with
  |non=>cases a;exact PySem.EqNone.eq_int_none (aU I q (by simp))
  |int j=>obtain ⟨t',rfl⟩:=a;exact eq_int (aU I q q0)
  |str j=>obtain ⟨t',rfl⟩:=a;exact PySem.EqMixed.eq_int_str (aU I q (by simp))
  |_=>exact absurd (show false=true from hs) abU
 | str i=>
  obtain⟨t,rfl⟩:=b
  cases y with
  |non=>cases a;exact PySem.EqNone.eq_str_none (aU I q (by simp))
  |bl j=>cases a;exact PySem.EqMixed.eq_str_bool (aU I q (by simp))
  |int j=>obtain ⟨t',rfl⟩:=a;exact PySem.EqMixed.eq_str_int (aU I q (by simp))
  |str j=>obtain ⟨t',rfl⟩:=a;exact eq_str (aU I q ra)
  |_=>exact absurd (show false=true from hs) abU
 | byt i=>
  obtain⟨t,rfl⟩:=b
  cases y with
  |byt j=>obtain ⟨t',rfl⟩:=a;exact PySem.W.eq_bytes (aU I q rb)
  |_=>exact absurd (show false=true from hs) abU
 |_=>cases y <;> exact absurd (show false=true from hs) abU
def Lg:OpR X (compareOp .NotEq) rNe:=by
 intro pins s σ H x y v u Q I b a h;obtain⟨hs,q⟩:=h
 cases x with
 | non=>
  cases b
  cases y with
  |non=>cases a;exact PySem.EqNone.ne_none_none (aU I q (by simp))
  |bl j=>cases a;exact PySem.EqNone.ne_none_bool (aU I q (by simp))
  |int j=>obtain ⟨t',rfl⟩:=a;exact PySem.EqNone.ne_none_int (aU I q (by simp))
  |str j=>obtain ⟨t',rfl⟩:=a;exact PySem.EqNone.ne_none_str (aU I q (by simp))
  |_=>exact absurd (show false=true from hs) abU
 | bl i=>
  cases b
  cases y with
  |non=>cases a;exact PySem.EqNone.ne_bool_none (aU I q (by simp))
  |bl j=>cases a;exact ne_bool (aU I q (congrArg not zS))
  |str j=>obtain ⟨t',rfl⟩:=a;exact PySem.EqMixed.ne_bool_str (aU I q (by simp))
  |_=>exact absurd (show false=true from hs) abU
 | int i=>
  obtain⟨t,rfl⟩:=b
  cases y with
  |non=>cases a;exact PySem.EqNone.ne_int_none (aU I q (by simp))
  |int j=>obtain ⟨t',rfl⟩:=a;exact ne_int (aU I q (congrArg not q0))
  |str j=>obtain ⟨t',rfl⟩:=a;exact PySem.EqMixed.ne_int_str (aU I q (by simp))
  |_=>exact absurd (show false=true from hs) abU
 | str i=>
  obtain⟨t,rfl⟩:=b
  cases y with
  |non=>cases a;exact PySem.EqNone.ne_str_none (aU I q (by simp))
  |bl j=>cases a;exact PySem.EqMixed.ne_str_bool (aU I q (by simp))
  |int j=>obtain ⟨t',rfl⟩:=a;exact PySem.EqMixed.ne_str_int (aU I q (by simp))
  |str j=>obtain ⟨t',rfl⟩:=a;exact ne_str (aU I q (congrArg not ra))
  |_=>exact absurd (show false=true from hs) abU
 | byt i=>
  obtain⟨t,rfl⟩:=b
  cases y with
  |byt j=>obtain ⟨t',rfl⟩:=a;exact PySem.W.ne_bytes (aU I q (congrArg not rb))
  |_=>exact absurd (show false=true from hs) abU
 |_=>cases y <;> exact absurd (show false=true from hs) abU
def Li:OpR X (compareOp .Lt) (rI0 λi j=>.bl (decide (i<j))):=-Ky λ_ _ _ _ _ _ _ q=>lt_int q
def Lj:OpR X (compareOp .LtE) (rI0 λi j=>.bl (decide (i<=j))):=-Ky λ_ _ _ _ _ _ _ q=>le_int q
def Lk:OpR X (compareOp .Gt) (rI0 λi j=>.bl (decide (j<i))):=-Ky λ_ _ _ _ _ _ _ q=>gt_int q
def Ll:OpR X (compareOp .GtE) (rI0 λi j=>.bl (decide (j<=i))):=-Ky λ_ _ _ _ _ _ _ q=>ge_int q
def rc:OpR X (compareOp .In) (λx y H Q=>∃i j,x=.str i/\y=.str j/\Q (.bl (⇑((Builtin.Str.occurrences j i 0 j.length 1).isEmpty))) H):=by
 intro pins s σ H x y v u Q I b a h;obtain⟨i,j,rfl,rfl,q⟩:=h;obtain⟨t,rfl⟩:=b;obtain⟨t',rfl⟩:=a;exact in_str (aU I q rfl)
def GE:OpR X (compareOp .Is) (λx y H Q=>y=.non/\Q (.bl (decide (x=.non))) H):=by
 intro pins s σ H x y v u Q I a b h;obtain⟨rfl,q⟩:=h;cases b;refine is_none_gen (aU I q ?_)
 cases x <;> first
  |(cases a;rfl)
  |(obtain ⟨t,rfl⟩:=a;rfl)
def Bu:OpR X (compareOp .IsNot) (λx y H Q=>y=.non/\Q (.bl (⇑(decide (x=.non)))) H):=by
 intro pins s σ H x y v u Q I a b h;obtain⟨rfl,q⟩:=h;cases b;refine isnot_none_gen (aU I q ?_)
 cases x <;> first
  |(cases a;rfl)
  |(obtain ⟨t,rfl⟩:=a;rfl)
def OpR.or(h:OpR X f r)(h':OpR X f r'):OpR X f (λx y H Q=>r x y H Q∨r' x y H Q):=by
 intro pins s σ H x y v u Q I b a q;rcases q with q|q
 .exact h pins s σ H x y v u Q I b a q
 .exact h' pins s σ H x y v u Q I b a q
def Bv(f:OpR X (compareOp op) r)(j:PE X a ta)(i:PE X b tb)(g:behindInMarks op b=false):PE X (.Compare a [op] [b] pos) (tOp r ta tb):=by
 intro pins s σ H Q I h;exact wpAny_Compare1 (Lc j i I h λv u c x y H2 k e d q=>f pins c σ H2 x y v u Q k e d q) g
def re(t:TE):TT:=λσ H Q=>t σ H λx H'=>∃k,x=.bl k/\Q k H'
def Bw(o:OpR X (compareOp op) r)(t:PE X a ta)(q:PE X b tb)(p:behindInMarks op b=false):PT X (.Compare a [op] [b] pos) (re (tOp r ta tb)):=by
 intro pins s σ H Q I h
 refine wpAny_isTrue_Compare1 (thn (t pins s σ H _ I h) λv f {(x),H1,B,j,n}=>thn (q pins f σ H1 _ B n) λu d {(y),H2,A,i,m}=>
  thn (o pins d σ H2 x y v u _ A j i m) λc D {(z),C,w,g,k,e,l}=>?_) p
 subst e;cases g;exact aaL {(C),w,l}
def kQ(r r':R2)(ta tb tc:TE):TE:=λσ H Q=>ta σ H λx H1=>tb σ H1 λy H2=>r x y H2 λz a=>∃k,z=.bl k /\
 (if k=true then tc σ a λb c=>r' y b c Q else Q (.bl false) a)
def wa(F:OpR X (compareOp op) r)(f:OpR X (compareOp op') r')(L:PE X a ta)(K:PE X b tb)(J:PE X c tc)
  (G:lastMarks [op,op'] [b,c]=false:=by with_unfolding_all rfl):PE X (.Compare a [op,op'] [b,c] pos) (kQ r r' ta tb tc):=by
 intro pins s σ H Q I h
 refine Compare_chain (thn (L pins s σ H _ I h) λv t {(x),H1,O,B,E}=>chain_link (thn (K pins t σ H1 _ O E) λu q {(y),H2,N,g,D}=>
  thn (F pins q σ H2 x y v u _ N B g D) λd p {(z),l,j,A,k,e,i}=>?_)) G
 subst e;cases A;refine aaL ?_
 cases k with
 |false=>exact ite_ff {.bl false,l,j,rfl,i}
 |true=>exact ite_tt (chain_last (thn (J pins p σ l _ j i) λn o {(m),P,M,w,C}=>f pins o σ P y m u n Q M g w C))
def wc(K:OpR X (compareOp op) r)(f:OpR X (compareOp op') r')(O:PE X a ta)(N:PE X b tb)(M:PE X c tc)
  (L:lastMarks [op,op'] [b,c]=false:=by with_unfolding_all rfl):PT X (.Compare a [op,op'] [b,c] pos) (re (kQ r r' ta tb tc)):=by
 intro pins s σ H Q I h
 refine isTrue_chain (thn (O pins s σ H _ I h) λv t {(x),H1,V,C,G}=>test_link (thn (N pins t σ H1 _ V G) λu q {(y),H2,U,g,F}=>
  thn (K pins q σ H2 x y v u _ U C g F) λd p {(z),l,j,B,k,e,i}=>?_)) L
 subst e;cases B;refine aaL ?_
 cases k with
 | false=>
  obtain⟨k',R,J⟩:=i;cases R;exact ite_ff {(l),j,J}
 | true=>
  refine ite_tt (test_last (thn (M pins p σ l _ j i) λn o {(m),Y,T,A,E}=>thn (f pins o σ Y y m u n _ T g A E) λd' s5 d=>?_));obtain⟨Z,W,S,w,k2,P,D⟩:=d;subst P;cases w;exact aaL {(W),S,D}
def Kz(K:Frag)(x:V)(H:Hp)(k:Bool):Prop:=
 match x with
 |.non=>k=false
 |.bl b=>k=b
 |.int i=>k=(i != 0)
 |.str y=>y.length<=sizeLine/\k=((y.length:Int) != 0)
 |.byt y=>y.size<=sizeLine/\k=((y.size:Int) != 0)
 |.ref p=>(∃xs,SqL K H p xs/\k=⇑xs.isEmpty)∨(∃xs,SqT K H p xs/\k=⇑xs.isEmpty)∨∃kvs,H p=!(.dK kvs)/\k=⇑kvs.isEmpty
 |_=>False
def pM{κ:Type}{kvs:↥(κ×V)}{vs:↥(κ×Value)}(r:KV kvs vs):(⇑vs.isEmpty)=⇑kvs.isEmpty:=by
 cases r <;> rfl
def jn{its:↥Value}(r:Vals xs its):(⇑its.toArray.isEmpty)=⇑xs.isEmpty:=by
 cases r <;> simp
def gX:(sizeLine:Nat)<2 ^ 63:=by rw[sizeLine_eq];decide
def GG:TruR X (λx H Q=>∃k,Kz X.K x H k/\Q k H):=by
 intro pins s σ H x v Q I d h;obtain⟨k,e,q⟩:=h;have n:=gX;have hs:sizeLine=16777216:=sizeLine_eq
 cases x with
 | non=>
  cases d;have a:k=false:=e;subst a;exact truthy_none {(H),I,q}
 | bl b=>
  cases d;have a:k=b:=e;subst a;exact aaL {(H),I,q}
 | int i=>
  obtain⟨t,rfl⟩:=d;have a:k=(i != 0):=e;subst a;exact PySem.P.truthy_int {(H),I,q}
 | str y=>
  obtain⟨t,rfl⟩:=d;obtain⟨j,a⟩:y.length<=sizeLine/\k=((y.length:Int) != 0):=e;subst a;exact PySem.P.truthy_str () {H,I.tok _,q}
 | byt y=>
  obtain⟨t,rfl⟩:=d;obtain⟨j,a⟩:y.size<=sizeLine/\k=((y.size:Int) != 0):=e;subst a;exact PySem.W.truthy_bytes () {H,I.tok _,q}
 | ref p=>
  cases d;have a:(∃xs,SqL X.K H p xs/\k=⇑xs.isEmpty)∨(∃xs,SqT X.K H p xs/\k=⇑xs.isEmpty)∨∃kvs,H p=!(.dK kvs)/\k=⇑kvs.isEmpty:=e;rcases a with ⟨xs,f,a⟩|⟨xs,f,a⟩|⟨kvs,f,a⟩
  .subst a;obtain⟨its,r,pl,g⟩:=I.list f;have c:=r.length;exact wpAny_truthy_list pl.isList (by simp only[List.size_toArray];nofun) {H,I.tok _,by rw[jn r];exact q}
  .subst a;obtain⟨its,r,pl,g⟩:=I.tuple f;have c:=r.length;exact truthy_tuple pl (by simp only[List.size_toArray];nofun) {H,I.tok _,by rw[jn r];exact q}
  .subst a;obtain⟨g,l,vs,r,m⟩:kvs.length<=sizeLine/\(p==sysModules)=false/\∃vs,KV kvs vs/\s.heap.DictOf (aw X.prog X.w) p vs:=I.hok p _ f;have c:kvs.length=vs.length:=aa4 r;exact wpAny_truthy_dict l m () {H,I.tok _,by rw[pM r];exact q}
 |_=>exact(show False from e).elim
def nE(f:PE X a ta)(e:∀whole,isTrue a X.env whole=(do let v ← whole;standAt a.pos;holding [v] (truthy v))) :
  PT X a (λσ H Q=>ta σ H λx H'=>∃k,Kz X.K x H' k/\Q k H'):=by
 intro pins s σ H Q I h;exact isTrue_plain (thn (f pins s σ H _ I h) λv b {(x),H1,g,c,d}=>GG pins b σ H1 x v Q g c d) (e _)
def pN:OpR X (binaryOp .Add) (λx y H Q=>∃i j,x=.str i/\y=.str j/\i.length+j.length<=sizeLine/\Q (.str (i++j)) H):=by
 intro pins s σ H x y v u Q I b a h;obtain⟨i,j,rfl,rfl,c,q⟩:=h;obtain⟨t,rfl⟩:=b;obtain⟨t',rfl⟩:=a;exact add_str (λt' tk=>{.str (i++j),H,I.tok _,{_,rfl},q}) c
def dS{x:V}(r:Vals [x] us):∃u,us=[u]/\RelV x u:=by
 cases r with
 |cons b a=>cases a;exact{_,rfl,b}
def we{x:V}(r:Vals [x,y] us):∃u a,us=[u,a]/\RelV x u/\RelV y a:=by
 cases r with
 | cons e d=>
  cases d with
  |cons c b=>cases b;exact {_,_,rfl,e,c}
def rf(b:X.calm=true):CallR X (.builtin "max") (λxs H Q=>∃i j,xs=[.int i,.int j]/\Q (.int (if j > i then j else i)) H):=by
 intro pins s σ H xs us Q I r h;obtain⟨i,j,rfl,q⟩:=h;obtain⟨u,c,rfl,⟨t,rfl⟩,⟨t',rfl⟩⟩:=we r;refine max_two_ints (I.ok.hd b) λh' tk k=>{_,H,I.kept k,?_,q};by_cases a:j > i
 .rw[if_pos a,if_pos a];exact{_,rfl}
 .rw[if_neg a,if_neg a];exact{_,rfl}
def rh(b:X.calm=true):CallR X (.builtin "min") (λxs H Q=>∃i j,xs=[.int i,.int j]/\Q (.int (if j<i then j else i)) H):=by
 intro pins s σ H xs us Q I r h;obtain⟨i,j,rfl,q⟩:=h;obtain⟨u,c,rfl,⟨t,rfl⟩,⟨t',rfl⟩⟩:=we r;refine min_two_ints (I.ok.hd b) λh' tk k=>{_,H,I.kept k,?_,q};by_cases a:j<i
 .rw[if_pos a,if_pos a];exact{_,rfl}
 .rw[if_neg a,if_neg a];exact{_,rfl}
def rj:CallR X (.type "int") (λxs H Q=>(∃i,xs=[.int i]/\Q (.int i) H)∨∃k,xs=[.bl k]/\Q (.int (if k then 1 else 0)) H):=by
 intro pins s σ H xs us Q I r h;rcases h with ⟨i,rfl,q⟩|⟨k,rfl,q⟩
 .obtain⟨u,rfl,t,rfl⟩:=dS r;exact call_int_int {.int i,H,I,{_,rfl},q}
 .obtain⟨u,rfl,a⟩:=dS r;cases a;exact call_int_bool {.int (if k then 1 else 0),H,I.tok _,{_,rfl},q}
end
structure ObjM(h:Heap)(x dx C:Addr)(mA:Str->Option Value):Prop where
 obj:h.get? x=!(PySem.W.instObj C dx)
 ns:h.Ns1 dx mA
 ne:dx≠x
def rl(n:h.Ns1 dx mA):∃od,h.get? dx=!od/\∀name,PySem.W.lookIn name od=!(mA name):=by
 obtain⟨o,es,ep,d,hd,g,_,f⟩:=n;refine{o,d,λname=>?_};have e:=f name;unfold nsFind findBy at e;rw[← Array.find?_toList] at e;unfold PySem.W.lookIn;rw[hd];dsimp only;split
 .rename_i y q;rw[q] at e;exact congrArg some e
 .rename_i q;rw[q] at e
  have a:es.toList.any (·.refKey)=false:=by
   rw[List.any_eq_false];intro y c;obtain⟨z,t,b⟩:=g y (Array.mem_toList_iff.mp c);simp[DictEntry.refKey,b]
  have i:¬es.toList.any (·.refKey)=true:=by rw[a];exact abU
  rw[if_neg i];exact congrArg some e
def ObjM.look{x:Addr}(I:ObjM h x dx C mA):∃od,PySem.W.InstAt h x (PySem.W.instObj C dx) C !od/\∀name,PySem.W.lookIn name od=!(mA name):=-
 let ⟨od,a,b⟩:=rl I.ns
 {od,{(I.obj),rfl,rfl,a},b}
section
variable      {K:Frag} {x f:Addr}   {v:Value}
def Bx{expr:Bool}(X:K.In s.heap)(I:ObjM s.heap x dx C mA)(d:PySem.W.plainGet K C name=true)(hh:PySem.W.hasDictIn K C=true)
  (e:PySem.W.findIn K (.ref C) name=!none) (b:mA name=!v) (a:PySem.W.handedIn v=true) (h:Q v { s with toks:=s.toks+1 }) :
  wpAny (model prog w) A (getAttr (.ref x) name expr) Q E s:=by
 obtain⟨od,J,c⟩:=I.look;exact PySem.W.get_value X J (PySem.W.plainGet_of d).1 (PySem.W.findObj_own hh e rfl (by rw[c,b])) a h
def wf{Q:Value×↥Value->Shared->Prop}(X:K.In s.heap)(I:ObjM s.heap x dx C mA)(a:PySem.W.plainGet K C name=true)
  (e:PySem.W.findIn K (.ref C) name=!!(.ref f)) (c:PySem.W.isFn K (.ref f)=true) (b:mA name=none) (h:Q (.ref f,[.ref x]) s) :
  wpAny (model prog w) A (getMethod (.ref x) name pl) Q E s:=by
 obtain⟨od,J,d⟩:=I.look;exact PySem.W.method_fn X J (PySem.W.plainGet_of a).1 (PySem.W.plainGet_of a).2 e (beq_iff_eq.mp c) (by show (PySem.W.lookIn name od).map (·.isSome)=!false;rw[d,b];rfl) h
def By{ns:↥Str}{Q:Unit->Shared->Prop}(X:K.In s.heap)(I:ObjM s.heap x dx C mA)
  (hs:PySem.W.findIn K (.ref C) "__setattr__" = !!(.builtin "object.__setattr__")) (m:PySem.W.plainOver K C=true) (l:PySem.W.takerIn K C name=!none) (hh:PySem.W.hasDictIn K C=true)
  (k:PySem.Within mA ns) (hsz:ns.length<=sizeLine)
  (h:∀h',ObjM h' x dx C (λy=>if y=name then ↑v else mA y)->Heap.SameBut dx s.heap h'->Q PUnit.unit { s with heap:=h',toks:=s.toks+2 }) :
  wpAny (model prog w) A (setAttr (.ref x) name v) Q E s:=by
 obtain⟨od,J,t⟩:=I.look;refine PySem.W.set_plain X J hs (PySem.W.osa_open (s:={ s with toks:=s.toks+1 }) (r:=none) X J m l λb=>?_);obtain⟨u,n,g⟩:=PySem.W.any_some hh;have j:s.heap.get? x=!{.ref C,!dx,.plain,#[]}:=I.obj;refine aaa (aaf (aaa (aaa (wpAny_loadPart j (aaa (PySem.W.Looks.here (s:={ s with toks:=s.toks+1 }) (PySem.W.looks_clsIn X n) ?_))))));rw[g];refine aaf (a:=!dx) (aaa (aaf (aaa ?_)));refine wpAny_nsSet1 (s:={ s with toks:=s.toks+1 }) I.ns λh' d c=>?_;obtain⟨q,o,p,e,f,i⟩:=d.count (PySem.Within.cons name v k);refine aaa (wpAny_lookBehind e (by rw[f];exact pastItsLine_dict (aar i (by rw[abX];nofun))) ?_);exact aaf (h _ {(c.2 _ (abz I.ne)).trans I.obj,d,I.ne} c)
def wg{R:Result->Shared->Prop}{vs:↥Value}(X:K.In s.heap)(a:PySem.W.makesIn K C=true)
  (hi:PySem.W.findIn K (.ref C) "__init__" = !!(.ref f)) (b:PySem.W.typeIn K (.ref f)=!(.type "function"))
  (h:codeAny (model prog w) (A.under (.builtin "type.__call__" {.ref C::vs,kw})) (.call (.ref f) {.ref (s.heap.objs.size+1)::vs,kw}) (PySem.W.InitBack (s.heap.objs.size+1) R)
   { s with heap:=(s.heap.push PySem.W.emptyDict).push (PySem.W.instObj C s.heap.objs.size) }) :
  codeAny (model prog w) A (.call (.ref C) {(vs),kw}) R s:=by
 obtain⟨hh,g,d,t,os⟩:=s;exact PySem.W.make_core (PySem.W.makes_of X a) (PySem.W.looks_findIn X hi) (λself=>PySem.W.bind_fn X self b) (.inl rfl) h
end
def fq(f:Str)(v:V):↥(Str×V)->↥(Str×V)
 |[]=>[(f,v)]
 |(g,x)::r=>if g=f then (g,v)::r else (g,x)::fq f v r
theorem gY(f g:Str)(v:V):∀fs:↥(Str×V),(fq f v fs).lookup g=if g=f then ↑v else fs.lookup g
 | []=>by
  show List.lookup g [(f,v)]=_;by_cases h:g=f
  .have a:(g==f)=true:=beq_iff_eq.mpr h;simp only[List.lookup,a,if_pos h]
  .have a:(g==f)=false:=beq_eq_false_iff_ne.mpr h;simp only[List.lookup,a,if_neg h]
 | (k,x)::r=>by
  have c:=gY f g v r;rw[show fq f v ((k,x)::r)=(if k=f then (k,v)::r else (k,x)::fq f v r) from rfl];by_cases b:k=f
  .rw[if_pos b];by_cases h:g=k
   .have a:(g==k)=true:=beq_iff_eq.mpr h;simp only[List.lookup,a,if_pos (h.trans b)]
   .have a:(g==k)=false:=beq_eq_false_iff_ne.mpr h;simp only[List.lookup,a,if_neg (λe:g=f=>h (e.trans b.symm))]
  .rw[if_neg b];by_cases h:g=k
   .have a:(g==k)=true:=beq_iff_eq.mpr h;simp only[List.lookup,a,if_neg (λe:g=f=>b (h.symm.trans e))]
   .have a:(g==k)=false:=beq_eq_false_iff_ne.mpr h;simp only[List.lookup,a];exact c
theorem gZ(f:Str)(v:V):∀fs:↥(Str×V),f∈(fq f v fs).map (·.1)/\∀g,g∈fs.map (·.1)->g∈(fq f v fs).map (·.1)
 |[]=>{by simp[fq],λg h=>by simp at h}
 | (k,x)::r=>by
  obtain⟨c,b⟩:=gZ f v r;rw[show fq f v ((k,x)::r)=(if k=f then (k,v)::r else (k,x)::fq f v r) from rfl];by_cases a:k=f
  .rw[if_pos a];subst a;exact{by simp,λg h=>(by exists h)}
  .rw[if_neg a];refine{?_,λg h=>?_}
   .rw[abT];exact aad _ c
   .rw[abT] at h ⊢;rcases abS.mp h with e|e
    .exact abS.mpr (.inl e)
    .exact aad _ (b g e)
theorem g0(f:Str)(v:V):∀fs:↥(Str×V),(fq f v fs).length<=fs.length+1
 |[]=>by simp[fq]
 | (k,x)::r=>by
  have b:=g0 f v r;rw[show fq f v ((k,x)::r)=(if k=f then (k,v)::r else (k,x)::fq f v r) from rfl];by_cases a:k=f
  .rw[if_pos a,abX,abX];nofun
  .rw[if_neg a,abX,abX];nofun
def RelO.some_of{o:Option Value}(r:RelO ↑v o):∃u,o=!u/\RelV v u:=by
 cases o with
 |none=>exact(show False from r).elim
 |some u=>exact{(u),rfl,r}
def RelO.none_of{o:Option Value}(r:RelO none o):o=none:=by
 cases o with
 |none=>rfl
 |some u=>exact(show False from r).elim
def rm(r:RelV v u):PySem.W.handedIn u=true:=by
 cases v with
 |non=>cases (show u=Value.none from r);rfl
 |bl b=>cases (show u=Value.bool b from r);rfl
 |int i=>obtain⟨t,e⟩:=(show ∃t,u=Value.int i t from r);cases e;rfl
 |str x=>obtain⟨t,e⟩:=(show ∃t,u=Value.str x t from r);cases e;rfl
 |byt b=>obtain⟨t,e⟩:=(show ∃t,u=Value.bytes b t from r);cases e;rfl
 |flt b=>obtain⟨t,e⟩:=(show ∃t,u=Value.float b t from r);cases e;rfl
 |ref a=>cases (show u=Value.ref a from r);rfl
 |ty n=>cases (show u=Value.type n from r);rfl
section
variable      {fs fs':↥(Str×V)}
def jP(hok:HOk P w H h)(e:H a=!(.ins C dx fs)):∃mA,ObjM h a dx C mA/\(∀f,RelO (fs.lookup f) (mA f))/\PySem.Within mA (fs.map (·.1))/\fs.length<=1000/\H dx=!(.own a):=by
 obtain⟨d,z,ne,ob,mA,n,r,q⟩:=(show ObjOk P w H h a (.ins C dx fs) from hok a _ e);exact{mA,{(ob),n,ne},r,q,z,d}
end
structure Cls(K:Frag)(C:Addr):Prop where
 pg:PySem.W.plainGet K C Str.empty=true
 hd:PySem.W.hasDictIn K C=true
 po:PySem.W.plainOver K C=true
 sa:PySem.W.findIn K (.ref C) "__setattr__" = !!(.builtin "object.__setattr__")
def Cls.get{K:Frag}(c:Cls K C)(f:Str):PySem.W.plainGet K C f=true:=-c.pg
def NoAttr(K:Frag)(C:Addr)(f:Str):Prop:=PySem.W.findIn K (.ref C) f=!none
def NoAttr.taker{K:Frag}{f:Str}(n:NoAttr K C f):PySem.W.takerIn K C f=!none:=by
 unfold PySem.W.takerIn;rw[show PySem.W.findIn K (.ref C) f=↑none from n];rfl
structure Meth(K:Frag)(C:Addr)(m:Str)(f:Addr):Prop where
 at_:PySem.W.findIn K (.ref C) m=!!(.ref f)
 fn:PySem.W.isFn K (.ref f)=true
 kp:PySem.W.keepIn K (.ref f)=true
section
variable       {fs:↥(Str×V)} {f:Str}   
def jo{b:Bool}(I:Inv X pins σ H s)(e:H a=!(.ins C dx fs))(c:Cls X.K C)(n:NoAttr X.K C f)(l:fs.lookup f=!v)
  (h:∀u s',Inv X pins σ H s'->RelV v u->Q u s'):wpAny (model X.prog X.w) A (getAttr (.ref a) f b) Q E s:=by
 obtain⟨mA,O,r,_,_,_⟩:=jP I.hok e;obtain⟨u,g,d⟩:=RelO.some_of (v:=v) (o:=mA f) (by rw[← l];exact r f);exact Bx I.kIn O (c.get f) c.hd n g (rm d) (h u _ (I.tok _) d)
def fO{g:Addr}{Q:Value×↥Value->Shared->Prop}(I:Inv X pins σ H s)(e:H a=!(.ins C dx fs))(c:Cls X.K C)(k:Meth X.K C m g)(l:fs.lookup m=none)
  (h:Q (.ref g,[.ref a]) s):wpAny (model X.prog X.w) A (getMethod (.ref a) m pl) Q E s:=by
 obtain⟨mA,O,r,_,_,_⟩:=jP I.hok e;have b:mA m=none:=RelO.none_of (by rw[← l];exact r m);exact wf I.kIn O (c.get m) k.at_ k.fn b h
def jp{Q:Unit->Shared->Prop}(I:Inv X pins σ H s)(e:H a=!(.ins C dx fs))(c:Cls X.K C)(n:NoAttr X.K C f)(v:fs.length<1000)(k:RelV y u)
  (h:∀s',Inv X pins σ (upd H a (.ins C dx (fq f y fs))) s'->Q PUnit.unit s'):wpAny (model X.prog X.w) A (setAttr (.ref a) f u) Q E s:=by
 obtain⟨mA,O,r,wi,_,i⟩:=jP I.hok e;have l:(fs.map (·.1)).length<=sizeLine:=by rw[abP,sizeLine_eq];nofun
 refine By I.kIn O c.sa c.po n.taker c.hd wi l λh' d j=>h _ ?_;have hd:∃o,h'.get? dx=!o:=let ⟨o,_,_,t,_⟩:=d.ns;{(o),t};refine I.write (x:=a) (e:=dx) (by rw[e];exact True.intro) (.inr i) (λb q p z=>(j.2 b p).trans z) hd ?_;refine{by rw[aj O.ne];exact i,?_,O.ne,d.obj,_,d.ns,λg=>?_,λg m=>?_}
 .have:=g0 f y fs;nofun
 .show RelO ((fq f y fs).lookup g) (if g=f then ↑u else mA g);rw[gY];by_cases q:g=f
  .rw[if_pos q,if_pos q];exact k
  .rw[if_neg q,if_neg q];exact r g
 .by_cases q:g=f
  .rw[q];exact(gZ f y fs).1
  .refine(gZ f y fs).2 g (wi g λz=>m ?_);show (if g=f then ↑u else mA g)=none;rw[if_neg q];exact z
def Inv.made(I:Inv X pins σ H s):Inv X pins σ (upd (upd H s.heap.objs.size (.own (s.heap.objs.size+1))) (s.heap.objs.size+1) (.ins C s.heap.objs.size []))
  { s with heap:=(s.heap.push PySem.W.emptyDict).push (PySem.W.instObj C s.heap.objs.size) }:=by
 have c:(s.heap.push PySem.W.emptyDict).get? s.heap.objs.size=!PySem.W.emptyDict:=Heap.get?_push_size s.heap rfl
 have i:((s.heap.push PySem.W.emptyDict).push (PySem.W.instObj C s.heap.objs.size)).get? (s.heap.objs.size+1)=!(PySem.W.instObj C s.heap.objs.size):=by
  have:=Heap.get?_push_size (s.heap.push PySem.W.emptyDict) (o:=PySem.W.instObj C s.heap.objs.size) rfl
  rwa [aa0] at this
 have g:(s.heap.push PySem.W.emptyDict).Ns s.heap.objs.size (λ_=>none):={PySem.W.emptyDict,#[],_,c,rfl,(λe f=>absurd f (by simp)),λ_=>rfl};have j:=I.laid (a:=s.heap.objs.size) (o:=.own (s.heap.objs.size+1)) (h':=s.heap.push PySem.W.emptyDict) (t':=s.toks) (λb u q=>Heap.get?_push_of_some _ q) (aac _) {_,c};refine j.laid (a:=s.heap.objs.size+1) (o:=.ins C s.heap.objs.size []) (t':=s.toks) (λb u q=>Heap.get?_push_of_some _ q) (Nat.le_of_eq (aa0 _ _)) ?_;have ne:s.heap.objs.size≠s.heap.objs.size+1:=aam (aaD _);refine{by rw[aj ne,ag],aan _,ne,i,λ_=>none,(Heap.Ns1.of_empty g).at λo q=>Heap.get?_push_of_some _ q,λ_=>True.intro,λy d=>absurd rfl d}
def Bz{env:Env}(b:attributeBase e f env (eval e env)=eval e env)
  (h:wpAny (model prog w) A (eval e env) (λo a=>wpAny (model prog w) A (getAttr o f true) Q E a) E s):wpAny (model prog w) A (eval (.Attribute e f pos) env) Q E s:=-
 Attribute_any_ h (by rw[arm_eval_Attribute,b])
end
def wj(K:Frag)(ta:TE)(f:Str):TE:=λσ H Q=>ta σ H λx H1=>∃a C dx fs v,x=.ref a/\H1 a=!(.ins C dx fs)/\Cls K C/\NoAttr K C f/\fs.lookup f=!v/\Q v H1
def KA(K:Frag)(ta tv:TE)(f:Str):TS:=λD σ H=>tv σ H λy H1=>ta σ H1 λx H2=>∃a C dx fs,x=.ref a/\H2 a=!(.ins C dx fs)/\Cls K C/\NoAttr K C f/\fs.length<1000 /\
 D.nx σ (upd H2 a (.ins C dx (fq f y fs)))
def MJ(X:Cx)(op:Operator)(rd:V->V->Hp->VK->Prop):Prop:=
 ∀(pins:↥(Addr×Obj)) (s:Shared) (σ:St) (H:Hp) (x y:V) (u v:Value) (Q:VK),Inv X pins σ H s->RelV x u->RelV y v->rd x y H Q->wpAny (model X.prog X.w) X.A (inplaceOp op u v) (EP X pins σ Q) X.xe s
def mD(K:Frag)(ta tv:TE)(rd:V->V->Hp->VK->Prop)(f:Str):TS:=λD σ H=>ta σ H λx H1=>∃a C dx fs v,x=.ref a/\H1 a=!(.ins C dx fs)/\Cls K C/\NoAttr K C f/\fs.lookup f=↑v /\
 tv σ H1 λy H2=>rd v y H2 λz c=>∃b fs',c a=!(.ins C b fs')/\fs'.length<1000/\D.nx σ (upd c a (.ins C b (fq f z fs')))
section
variable  {o value:Expr} {f:Str} {tpos:Pos} {tv:TE}
def GH(g:PE X e ta)(i:attributeBase e f X.env (eval e X.env)=eval e X.env):PE X (.Attribute e f pos) (wj X.K ta f):=by
 intro pins s σ H Q I h;refine Bz i (thn (g pins s σ H _ I h) λu r y=>?_);obtain⟨x,H1,m,b,a,C,dx,fs,v,ex,j,c,n,l,q⟩:=y;subst ex;obtain rfl:u=Value.ref a:=b;exact jo m j c n l λo p k d=>{(v),H1,k,d,q}
def GI(j:PE X o ta)(i:PE X value tv)(hs:swapsWith value ↑(.Attribute o f pos') pos.line X.env=pure false):PS X (.Assign [.Attribute o f pos'] value pos) (KA X.K ta tv f):=by
 intro pins s σ H D I h;refine plainObj_wpAny_Assign_Attribute (thn (i pins s σ H _ I h) λu b {(y),H1,r,d,q}=>thn (j pins b σ H1 _ r q) λov v z=>?_) hs;obtain⟨x,H2,p,e,a,C,dx,fs,ex,k,c,n,l,g⟩:=z;subst ex;obtain rfl:ov=Value.ref a:=e;exact jp p k c n l d λt m=>{σ,_,m,g}
def rn{op:Operator}{rd:V->V->Hp->VK->Prop}(B:PE X o ta)(A:PE X value tv)(b:MJ X op rd):PS X (.AugAssign (.Attribute o f tpos) op value pos) (mD X.K ta tv rd f):=by
 intro pins s σ H D I h;refine wpAny_AugAssign_AttributeAny (thn (B pins s σ H _ I h) λov Q N=>?_);obtain⟨x,H1,M,m,a,C,dx,fs,v,ex,E,c,n,l,q⟩:=N;subst ex;obtain rfl:ov=Value.ref a:=m;refine jo M E c n l λu i L p=>thn (A pins i σ H1 _ L q) λe g {(y),H2,K,k,t}=>thn (b pins g σ H2 v y u e _ K p k t) λN P O=>?_;obtain⟨z,R,J,j,F,fs',d,w,r⟩:=O;exact jp J d c n w j λO G=>{σ,_,G,r}
def Lm:V->V->Hp->VK->Prop:=λx y H Q=>∃i j,x=.int i/\y=.int j/\Q (.int (i+j)) H
def GJ:MJ X .Add Lm:=by
 rintro pins s σ H x y u v Q I b a ⟨i,j,rfl,rfl,q⟩;obtain⟨t,rfl⟩:=(show ∃t,u=Value.int i t from b);obtain⟨t',rfl⟩:=(show ∃t',v=Value.int j t' from a);exact PyProof.Rows.iadd_int {.int (i+j),H,I.tok _,{_,rfl},q}
def BB{args:↥Expr}(n:PE X e te)(I:Inv X pins σ H s)
  (h:te σ H λx H1=>∃a C dx fs g,x=.ref a/\H1 a=!(.ins C dx fs)/\Cls X.K C/\Meth X.K C m g/\fs.lookup m=none /\
   ∀b,Inv X pins σ H1 b->wpAny (model X.prog X.w) X.A (callWith pos (.ref g) [.ref a] (backTo pos (starEach args X.env)) (backToKw pos (keywordEach [] X.env))) Q X.xe b)
  (j:eval (.Call (.Attribute e m apos) args [] pos) X.env=(do
   let ov ← eval e X.env
   standAt apos.atName
   let (f,first) ← holding [ov] (getMethod ov m pl)
   callWith pos f first (backTo pos (starEach args X.env)) (backToKw pos (keywordEach [] X.env)))) :
  wpAny (model X.prog X.w) X.A (eval (.Call (.Attribute e m apos) args [] pos) X.env) Q X.xe s:=by
 refine PySem.W.methodCall_KW (pl:=pl) (thn (n pins s σ H _ I h) λu b y=>?_) j;obtain⟨x,H1,d,i,a,C,dx,fs,g,ex,o,c,k,l,q⟩:=y;subst ex;obtain rfl:u=Value.ref a:=i;exact fO d o c k l (q b d)
end
section
variable         {c:Value} {b:Bool}
inductive TyOf(K:Frag)(H:Hp):V->Value->Prop where
 |non:TyOf K H .non (.type "NoneType")
 |bl (x:Bool):TyOf K H (.bl x) (.type "bool")
 |int (i:Int):TyOf K H (.int i) (.type "int")
 |str (x:Str):TyOf K H (.str x) (.type "str")
 |flt (x:UInt64):TyOf K H (.flt x) (.type "float")
 |lst {a:Addr} {xs:↥V} (e:H a=!(.lst xs)):TyOf K H (.ref a) (.type "list")
 |frz {a:Addr} {o:Obj} {xs:↥V} (e:H a=!(.frz o (.lst xs))):TyOf K H (.ref a) (.type "list")
 |tup {a:Addr} {xs:↥V} (e:H a=!(.tup xs)):TyOf K H (.ref a) (.type "tuple")
 |dK {a:Addr} {kvs:↥(Key×V)} (e:H a=!(.dK kvs)):TyOf K H (.ref a) (.type "dict")
 |dT {a:Addr} {kvs:↥(↥Key×V)} (e:H a=!(.dT kvs)):TyOf K H (.ref a) (.type "dict")
 | ins {a C dx:Addr} {fs:↥(Str×V)} (e:H a=!(.ins C dx fs)) (cl:Cls K C) (ha:PySem.W.findIn K (.ref C) "__class__" = !!(.builtin "object.__class__"))
   (hn:PySem.W.specialIn K (.builtin "object.__class__") "__get__" = !!(.builtin "getset_descriptor.__get__")) (htk:PySem.W.takesIn K (.builtin "object.__class__")=!true)
   (hm:PySem.W.mroIn K C (.type "object")=!true):TyOf K H (.ref a) (.ref C)
def fu{x:V}{t:Value}(I:Inv X pins σ H s)(d:RelV x u)(ty:TyOf X.K H x t)(e:PySem.W.kitOne X.K t c=!b)(h:∀tk,Q (.bool b) { s with toks:=tk }) :
  wpAny (model X.prog X.w) A (call (.builtin "isinstance") [u,c]) Q E s:=by
 cases ty with
 |non=>cases (show u=Value.none from d);exact aaz PySem.W.kitx_none I.kIn True.intro e (λz=>nomatch z) h
 |bl y=>cases (show u=Value.bool y from d);exact aaz PySem.W.kitx_bool I.kIn True.intro e (λz=>nomatch z) h
 |int i=>obtain⟨t,q⟩:=(show ∃t,u=Value.int i t from d);cases q;exact aaz PySem.W.kitx_int I.kIn True.intro e (λz=>nomatch z) h
 |str y=>obtain⟨t,q⟩:=(show ∃t,u=Value.str y t from d);cases q;exact aaz PySem.W.kitx_str I.kIn True.intro e (λz=>nomatch z) h
 |flt y=>obtain⟨t,q⟩:=(show ∃t,u=Value.float y t from d);cases q;exact aaz PySem.W.kitx_float I.kIn True.intro e (λz=>nomatch z) h
 | @lst a xs f=>
  cases (show u=Value.ref a from d);obtain⟨_,_,n,_,h1⟩:=(show ObjOk X.prog X.w H s.heap a (.lst xs) from I.hok a _ f);exact aaz PySem.W.kitx_list I.kIn {_,h1,rfl} e (λz=>nomatch z) h
 | @frz a ob xs f=>
  cases (show u=Value.ref a from d);obtain⟨_,_,_,n,_,h1⟩:=(show ObjOk X.prog X.w H s.heap a (.frz ob (.lst xs)) from I.hok a _ f);exact aaz PySem.W.kitx_list I.kIn {_,h1,rfl} e (λz=>nomatch z) h
 | @tup a xs f=>
  cases (show u=Value.ref a from d);obtain⟨_,_,_,p⟩:=(show ObjOk X.prog X.w H s.heap a (.tup xs) from I.hok a _ f);obtain⟨o,h1,h2,_⟩:=p;exact aaz PySem.W.kitx_tuple I.kIn {(o),h1,h2} e (λz=>nomatch z) h
 | @dK a kvs f=>
  cases (show u=Value.ref a from d);obtain⟨_,_,vs,_,p⟩:=(show ObjOk X.prog X.w H s.heap a (.dK kvs) from I.hok a _ f);obtain⟨o,es,ep,h1,h2,_⟩:=p;exact aaz abF I.kIn {(o),h1,h2.1} e (λz=>nomatch z) h
 | @dT a kvs f=>
  cases (show u=Value.ref a from d);obtain⟨_,_,xs,_,o,es,ep,h1,h2,_⟩:=(show ObjOk X.prog X.w H s.heap a (.dT kvs) from I.hok a _ f);exact aaz abF I.kIn {(o),h1,h2.1} e (λz=>nomatch z) h
 | @ins a C dx fs f cl l j g k=>
  cases (show u=Value.ref a from d);obtain⟨mA,O,_⟩:=jP I.hok f;obtain⟨od,J,_⟩:=O.look;exact aaz (PySem.W.kitx_own (cl.get _) cl.hd l j g k) I.kIn J e (λz=>nomatch z) h
end
structure Room(k:Nat)(A:Around):Prop where
 hd:A.handled=none
 dp:A.depth+3*k+5<recursionLimit
 un:A.units+16*k+200<cLine
 gd:A.guards=![]
def Room.mono(r:Room k A)(h:j<=k):Room j A:=-{r.hd,by have:=r.dp;nofun,by have:=r.un;nofun,r.gd}
def Room.deeper(r:Room (k+1) A)(env:Env):Room k (A.deeper env):=-
 {r.hd,by have:=r.dp;show A.depth+1+3*k+5<_;nofun,by have:=r.un;show A.units+3+16*k+200<_;nofun,r.gd}
def pO :(A.under (.builtin "type.__call__" {.ref C::us,kw})).depth=A.depth+1:=by
 first|rfl|simp[Around.under,Code.weight,Code.isCreation,Code.isGuard,Code.isCaller,Code.frames,Code.isFrame,guardIds]
def pP :(A.under (.builtin "type.__call__" {.ref C::us,kw})).units=A.units+1:=by
 first|rfl|simp[Around.under,Code.cUnits,Code.frames,Code.isFrame]
def Room.make(r:Room (k+1) A)(C:Addr)(us:↥Value)(kw:↥(Str×Value)):Room k (A.under (.builtin "type.__call__" {.ref C::us,kw})):=-
 {r.hd,by have:=r.dp;rw[pO];nofun,by have:=r.un;rw[pP];nofun,r.gd}
def Room.depth(r:Room k A):A.depth<recursionLimit:=by have:=r.dp;nofun
def Room.units(r:Room k A):A.units+64<cLine:=by have:=r.un;nofun
def ja:TA:=λ_ H Q=>Q [] H
def cQ(ta:TE)(a:TA):TA:=λσ H Q=>ta σ H λx H1=>a σ H1 λxs H2=>Q (x::xs) H2
def GK:PA X [] ja:=-λ_ _ _ _ H Q I h=>Calls.spliced_nil {[],H,I,.nil,h}
def BC(g:PE X e te)(hr:PA X es t)(hs:autoParam (starEach (e::es) X.env=(false,eval e X.env)::starEach es X.env) L2.aR._auto_1):PA X (e::es) (cQ te t):=by
 intro pos pins s σ H Q I h;rw[hs];show wpAny _ _ (spliced ((false,eval e X.env)::backTo pos (starEach es X.env))) _ _ s;refine Calls.spliced_cons (thn (g pins s σ H _ I h) λu a y=>?_);obtain⟨x,H1,j,c,f⟩:=y;exact thn (hr pos pins a σ H1 _ j f) λus k {(xs),H2,i,b,d}=>{x::xs,H2,i,.cons c b,d}
def KB(t:TA):TE:=λσ H Q=>t σ H λxs H1=>xs.length<=sizeLine/\∀p,H1 p=none->Q (.ref p) (upd H1 p (.tup xs))
def KC(t:TA):TE:=λσ H Q=>t σ H λxs H1=>xs.length<=sizeLine/\∀p,H1 p=none->Q (.ref p) (upd H1 p (.lst xs))
def GL{d}(h:PA X es t):PE X (.Tuple es d pos) (KB t):=by
 intro pins s σ H Q I f;refine wpAny_Tuple_spliced (thn (h pos pins s σ H _ I f) λus a {(xs),H1,c,r,z,q}=>{by rw[← r.length];exact z,?_});have g:H1 a.heap.objs.size=none:=c.hok.fresh (aac _);refine{.ref a.heap.objs.size,upd H1 a.heap.objs.size (.tup xs),c.laid (t':=a.toks) (λb u e=>Heap.get?_push_of_some _ e) (aac _) ?_,rfl,q _ g};exact{z,us,r,{_,Heap.get?_push_size _ rfl,rfl,_,rfl}}
def GM(h:PA X es t):PE X (.List es pos) (KC t):=by
 intro pins s σ H Q I d;refine wpAny_List_spliced (thn (h pos pins s σ H _ I d) λus a {(xs),H1,c,r,z,q}=>{by rw[← r.length];exact z,?_});have f:H1 a.heap.objs.size=none:=c.hok.fresh (aac _);refine{.ref a.heap.objs.size,upd H1 a.heap.objs.size (.lst xs),c.laid (t':=a.toks) (λb u e=>Heap.get?_push_of_some _ e) (aac _) ?_,rfl,q _ f};exact{z,us,0,r,Heap.get?_push_size _ rfl}
abbrev Sp:=↥V->Hp->VK->XK->Prop
variable{sp:Sp}
abbrev CXT:=↥Env->Hp->Shared->XK->Value->Shared->Prop
variable{CX:CXT}
structure Env0(P:Program)(w:World)(K:Frag)(mg:Str->Option Value)(base:Heap)(A:Around)(outer:↥Env)(s:Shared)(H:Hp):Prop where
 frames:A.frames=!outer
 mod:Mod K mg base
 bs:∀b o,base.get? b=!o->s.heap.get? b=!o/\H b=none
 bsz:base.objs.size<=s.heap.objs.size
 funs:s.heap.FunFrames base outer
 frf:∀b∈frs outer,H b=none
 hok:HOk P w H s.heap
 bare:AllBare s.gens
def CE(outer:↥Env)(P:Program)(w:World)(H:Hp)(s:Shared)(Q:VK)(u:Value)(s':Shared):Prop:=
 ∃v H',s'.os=s.os/\AllBare s'.gens/\Un (frs outer) [] H H' s.heap s'.heap/\HOk P w H' s'.heap/\RelV v u/\Q v H'
def CR(CX:CXT)(outer:↥Env)(P:Program)(w:World)(H:Hp)(s:Shared)(Q:VK)(E:XK)(r:Result)(s':Shared):Prop:=
 match r with
 |.ok (.ret u)=>CE outer P w H s Q u s'
 |.ok _=>False
 |.error e=>CX outer H s E e s'
structure FnOk(P:Program)(w:World)(K:Frag)(mg:Str->Option Value)(base:Heap)(CX:CXT)(k:Nat)(f:Addr)(fd:FuncData)(ps:↥Str)(sp:Sp):Prop where
 len:∀vs H Q E,sp vs H Q E->vs.length=ps.length
 run:∀(A:Around) (outer:↥Env) (s:Shared) (H:Hp) (args:Args) (us:↥Value) (vs:↥V) (Q:VK) (E:XK),Room k A->Env0 P w K mg base A outer s H->BindsTo s fd args (ps.zip us)->Vals vs us->sp vs H Q E ->
  codeAny (model P w) A (.call (.ref f) args) (CR CX outer P w H s Q E) s
def FnOk.imp{K:Frag}{f:Addr}{a:Sp}(F:FnOk P w K mg base CX k f fd ps sp)
  (h:∀vs H Q E,a vs H Q E->sp vs H Q E):FnOk P w K mg base CX k f fd ps a:=-
 {λvs H Q E q=>F.len vs H Q E (h _ _ _ _ q),λA outer s H args us vs Q E hr c d b hs=>F.run A outer s H args us vs Q E hr c d b (h _ _ _ _ hs)}
def Env0.make{K:Frag}(e:Env0 P w K mg base A outer s H)(C:Addr)(us:↥Value)(kw:↥(Str×Value)) :
  Env0 P w K mg base (A.under (.builtin "type.__call__" {.ref C::us,kw})) outer s H:=-{by first|exact e.frames|(simpa [Around.under,Code.envs,Code.isFrame,pushEnvs] using e.frames),e.mod,e.bs,e.bsz,e.funs,e.frf,e.hok,e.bare}
def Inv.env0(I:Inv X pins σ H s):Env0 X.prog X.w X.K X.mg X.base X.A X.stack s H:=-
 {I.ok.frames,I.ok.mod,I.bs,aar I.ok.bsz I.sz,I.stack,I.stkFree,I.hok,I.bare}
def Inv.after{Q:VK}(I:Inv X pins σ H s)(h:CE X.stack X.prog X.w H s Q u s'):EP X pins σ Q u s':=by
 obtain⟨v,H',os,bare,un,hok,r,q⟩:=h;obtain⟨hh,g,d,t,a⟩:=s';obtain rfl:a=s.os:=os;exact{v,H',I.call (h':=hh) (g':=g) (d':=d) (t':=t) (ch:=[]) un hok bare (λb z=>absurd z (by simp)),r,q}
def kS(sp:Sp)(dvs:↥V)(E:XK)(t:TA):TE:=λσ H Q=>t σ H λvs H1=>sp (vs++dvs) H1 Q E
def pQ(C:Addr)(m:Str)(sp:Sp)(dvs:↥V)(E:XK)(ta:TE)(t:TA):TE:=λσ H Q=>ta σ H λx H1=>∃a dx fs,x=.ref a/\H1 a=!(.ins C dx fs)/\fs.lookup m=none /\
 t σ H1 λvs H2=>sp (x::(vs++dvs)) H2 Q E
def BD(C:Addr)(sp:Sp)(dvs:↥V)(E:XK)(t:TA):TE:=λσ H Q=>t σ H λvs H1=>∀x dx,H1 x=none->H1 dx=none->dx≠x ->
 sp (.ref x::(vs++dvs)) (upd (upd H1 dx (.own x)) x (.ins C dx [])) (λv H2=>v=.non/\Q (.ref x) H2) E
def Binds(K:Frag)(fd:FuncData)(ps:↥Str)(ds:↥Value):Prop:=
 ∀(s:Shared) (us:↥Value),K.In s.heap->(us++ds).length=ps.length->BindsTo s fd {us,[]} (ps.zip (us++ds))
def Binds.all{K:Frag}(h:∀us:↥Value,us.length=ps.length->bindArgs fd {us,[]}=pure (ps.zip us)):Binds K fd ps []:=-λs us _ a=>by
 rw[aaw] at a ⊢;exact .of_eq (h us a)
def hJ(CX:CXT)(X:Cx)(E:XK):Prop:=∀(pins:↥(Addr×Obj)) (σ:St) (H:Hp) (s:Shared) (e:Value) (s':Shared),Inv X pins σ H s->CX X.stack H s E e s'->X.xe e s'
section
variable    {f:Addr}    {dvs:↥V} {ds:↥Value} {E:XK}   {o:Expr}   
def rp{Q:VK}(F:FnOk X.prog X.w X.K X.mg X.base CX k f fd ps sp)(hr:Room k X.A)(d:Binds X.K fd ps ds)(hd:Vals dvs ds)(hx:hJ CX X E)
  (I:Inv X pins σ H s) (r:Vals vs us) (h:sp (vs++dvs) H Q E):wpAny (model X.prog X.w) X.A (call (.ref f) us) (EP X pins σ Q) X.xe s:=by
 have b:Vals (vs++dvs) (us++ds):=r.append hd;have c:(us++ds).length=ps.length:=by rw[← b.length];exact F.len _ _ _ _ h
 refine wpAny_call (codeAny_mono (F.run X.A X.stack s H {us,[]} (us++ds) (vs++dvs) Q E hr I.env0 (d s us I.kIn c) b h) λr s' a=>?_)
 cases r with
 |error e=>exact hx pins σ H s e s' I a
 | ok fl=>
  cases fl with
  |ret u=>exact I.after a
  |next=>exact False.elim a
  |brk=>exact False.elim a
  |cont=>exact False.elim a
def BF(F:FnOk X.prog X.w X.K X.mg X.base CX k f fd ps sp)(hr:Room k X.A)(i:Gl X x)(d:X.mg x=!(.ref f))(g:PySem.W.keepIn X.K (.ref f)=true)(l:Binds X.K fd ps ds)(hd:Vals dvs ds)(hx:hJ CX X E)
  (m:PA X (e::es) t) (b:autoParam ((x==("__debug__" : Str))=false) L2.aD._auto_1) (j:autoParam (starEach (e::es) X.env=(false,eval e X.env)::starEach es X.env) L2.aR._auto_1) (a:autoParam ((backTo pos (starEach es X.env)).any (·.1)=false) L2.aR._auto_1) :
  PE X (.Call (.Name x p) (e::es) [] pos) (kS sp dvs E t):=by
 intro pins s σ H Q I h;refine wpAny_Call_Name_kw (mv I i d ?_ b);refine PySem.W.callWith_K (h₀:=X.base) I.ok.mod.kin g (thn (m pos pins s σ H _ I h) λus n {(vs),H1,c,r,q}=>{c.kIn,?_}) j a;exact rp F hr l hd hx c r q
def BH(y:PE X o ta)(c:Cls X.K C)(g:Meth X.K C m f)(F:FnOk X.prog X.w X.K X.mg X.base CX k f fd ps sp)(hr:Room k X.A)(z:Binds X.K fd ps ds)(hd:Vals dvs ds)(hx:hJ CX X E)(A:PA X (e::es) t)
  (b:autoParam (starEach (e::es) X.env=(false,eval e X.env)::starEach es X.env) L2.aR._auto_1) (d:autoParam ((backTo pos (starEach es X.env)).any (·.1)=false) L2.aR._auto_1)
  (w:autoParam (eval (.Call (.Attribute o m apos) (e::es) [] pos) X.env=(do
   let ov ← eval o X.env
   standAt apos.atName
   let (f,first) ← holding [ov] (getMethod ov m pl)
   callWith pos f first (backTo pos (starEach (e::es) X.env)) (backToKw pos (keywordEach [] X.env)))) L2.aR._auto_1) :
  PE X (.Call (.Attribute o m apos) (e::es) [] pos) (pQ C m sp dvs E ta t):=by
 intro pins s σ H Q I h;refine PySem.W.methodCall_KW (pl:=pl) (thn (y pins s σ H _ I h) λu n G=>?_) w;obtain⟨x,H1,j,p,a,dx,fs,ex,B,l,q⟩:=G;subst ex;obtain rfl:u=Value.ref a:=p;refine fO j B c g l ?_;refine PySem.W.callWith_K (first:=[.ref a]) (h₀:=X.base) I.ok.mod.kin g.kp (thn (A pos pins n σ H1 _ j q) λus D {(vs),H2,i,r,v}=>{i.kIn,?_}) b d;exact rp (us:=.ref a::us) (vs:=.ref a::vs) F hr z hd hx i (.cons rfl r) v
def wl(i:PE X o ta)(c:Cls X.K C)(d:Meth X.K C m f)(F:FnOk X.prog X.w X.K X.mg X.base CX k f fd ps sp)(hr:Room k X.A)(j:Binds X.K fd ps ds)(hd:Vals dvs ds)(hx:hJ CX X E)
  (g:autoParam (eval (.Call (.Attribute o m apos) [] [] pos) X.env=(do
   let ov ← eval o X.env
   standAt apos.atName
   let (f,first) ← holding [ov] (getMethod ov m pl)
   callWith pos f first (backTo pos (starEach [] X.env)) (backToKw pos (keywordEach [] X.env)))) L2.aR._auto_1) :
  PE X (.Call (.Attribute o m apos) [] [] pos) (pQ C m sp dvs E ta ja):=by
 intro pins s σ H Q I h;refine PySem.W.methodCall_KW (pl:=pl) (thn (i pins s σ H _ I h) λu p y=>?_) g;obtain⟨x,H1,b,e,a,dx,fs,ex,n,l,q⟩:=y;subst ex;obtain rfl:u=Value.ref a:=e;refine fO b n c d l ?_;exact PySem.W.callWith_K0 (first:=[.ref a]) b.kIn d.kp (rp (us:=[.ref a]) (vs:=[.ref a]) F hr j hd hx b (.cons rfl .nil) q)
structure Mk(K:Frag)(C f:Addr):Prop where
 makes:PySem.W.makesIn K C=true
 init:PySem.W.findIn K (.ref C) "__init__" = !!(.ref f)
 fn:PySem.W.isFn K (.ref f)=true
 kp:PySem.W.keepIn K (.ref C)=true
def wm{Q:VK}(M:Mk X.K C f)(F:FnOk X.prog X.w X.K X.mg X.base CX k f fd ps sp)(hr:Room (k+1) X.A)(l:Binds X.K fd ps ds)(hd:Vals dvs ds)
  (hx:hJ CX X E) (I:Inv X pins σ H s) (r:Vals vs us)
  (h:∀x dx,H x=none->H dx=none->dx≠x->sp (.ref x::(vs++dvs)) (upd (upd H dx (.own x)) x (.ins C dx [])) (λv H2=>v=.non/\Q (.ref x) H2) E) :
  wpAny (model X.prog X.w) X.A (call (.ref C) us) (EP X pins σ Q) X.xe s:=by
 have d:=h (s.heap.objs.size+1) s.heap.objs.size (I.hok.fresh (aa7 _)) (I.hok.fresh (aac _)) (aam (aaD _));have b:=Inv.made (C:=C) I;have c:Vals (V.ref (s.heap.objs.size+1)::(vs++dvs)) (Value.ref (s.heap.objs.size+1)::(us++ds)):=.cons rfl (r.append hd)
 have j:(Value.ref (s.heap.objs.size+1)::us++ds).length=ps.length:=by
  have e:=c.length;rw[F.len _ _ _ _ d] at e;exact e.symm
 refine wpAny_call (wg (f:=f) I.kIn M.makes M.init (beq_iff_eq.mp M.fn) (codeAny_mono (F.run _ X.stack _ _ {Value.ref (s.heap.objs.size+1)::us,[]} (Value.ref (s.heap.objs.size+1)::(us++ds)) _ _ E (hr.make C us [])
  (b.env0.make C us []) (l _ (Value.ref (s.heap.objs.size+1)::us) b.kIn j) c d) λr s' a=>?_))
 cases r with
 |error e=>exact hx pins σ _ _ e s' b a
 | ok fl=>
  cases fl with
  | ret u=>
   obtain⟨v,H',n,g,m,i⟩:=b.after a;subst m;exact{g,{V.ref (s.heap.objs.size+1),H',n,rfl,i}}
  |next=>exact False.elim a
  |brk=>exact False.elim a
  |cont=>exact False.elim a
def BJ(M:Mk X.K C f)(F:FnOk X.prog X.w X.K X.mg X.base CX k f fd ps sp)(hr:Room (k+1) X.A)(g:Gl X x)(d:X.mg x=!(.ref C))(j:Binds X.K fd ps ds)(hd:Vals dvs ds)(hx:hJ CX X E)
  (l:PA X (e::es) t) (b:autoParam ((x==("__debug__" : Str))=false) L2.aD._auto_1) (i:autoParam (starEach (e::es) X.env=(false,eval e X.env)::starEach es X.env) L2.aR._auto_1) (a:autoParam ((backTo pos (starEach es X.env)).any (·.1)=false) L2.aR._auto_1) :
  PE X (.Call (.Name x p) (e::es) [] pos) (BD C sp dvs E t):=by
 intro pins s σ H Q I h;refine wpAny_Call_Name_kw (mv I g d ?_ b);refine PySem.W.callWith_K (h₀:=X.base) I.ok.mod.kin M.kp (thn (l pos pins s σ H _ I h) λus m {(vs),H1,c,r,q}=>{c.kIn,?_}) i a;exact wm M F hr j hd hx c r q
end
section
variable    {f:Addr}  {ks:↥Str}  {E:XK}  {kpos:Pos} {o:Expr}  {kws:↥Keyword}  {tk:TA} {nm:Option Str}
variable {g:↥Value->↥Value->↥Value} {gV:↥V->↥V->↥V}
end
structure FnScope(N P:↥Str)(sc:Scope):Prop where
 kind:sc.kind=.function
 co:sc.isCoroutine=false
 gen:sc.isGenerator=false
 nd:N.Nodup
 pre:N.take P.length=P
 par:∀x∈P,sc.names.lookup x=↑.local∨sc.names.lookup x=!.cell
 nofree:∀y∈sc.names,y.2≠.free
theorem kT{kindOf:Str->Option NameKind}{x:Str}:∀{binds:↥(Str×Value)} {m:Str->Option Value},(∀v,(x,v)∉binds)->bindL kindOf binds m x=m x
 |[],_,_=>rfl
 | (n,v)::r,m,h=>by
  unfold bindL;rw[kT λw a=>h w (aad _ a)];split
  .have:x≠n:=by rintro rfl;exact h v aab
   simp[this]
  .rfl
theorem kU{kindOf:Str->Option NameKind}{x:Str}:∀{binds:↥(Str×Value)} {m:Str->Option Value},(∀v,(x,v)∉binds)->bindC kindOf binds m x=m x
 |[],_,_=>rfl
 | (n,v)::r,m,h=>by
  unfold bindC;rw[kU λw a=>h w (aad _ a)];split
  .rfl
  .have:x≠n:=by rintro rfl;exact h v aab
   simp[this]
theorem kW{kindOf:Str->Option NameKind}{x:Str}{v:Value}:∀{P:↥Str} {vs:↥Value} {i:Nat} {m:Str->Option Value},P.Nodup->P[i]?=!x->vs[i]?=!v->kindOf x=↑.local ->
  bindL kindOf (P.zip vs) m x=!v
 |[],_,_,_,_,h,_,_=>by simp at h
 |_::_,[],_,_,_,_,h,_=>by simp at h
 | p::P,w::vs,0,m,nd,h1,h2,a=>by
  simp at h1 h2;subst h1;subst h2;show bindL kindOf ((p,w)::P.zip vs) m p=_;unfold bindL;rw[kT λv b=>(List.nodup_cons.mp nd).1 (List.of_mem_zip b).1,if_pos a];simp
 | p::P,w::vs,i+1,m,nd,h1,h2,a=>by
  show bindL kindOf ((p,w)::P.zip vs) m x=_;unfold bindL;exact kW (i:=i) (abV.mp nd).2 (by exists h1) (by exists h2) a
theorem kX{kindOf:Str->Option NameKind}{x:Str}{v:Value}:∀{P:↥Str} {vs:↥Value} {i:Nat} {m:Str->Option Value},P.Nodup->P[i]?=!x->vs[i]?=!v->kindOf x≠↑.local ->
  bindC kindOf (P.zip vs) m x=!v
 |[],_,_,_,_,h,_,_=>by simp at h
 |_::_,[],_,_,_,_,h,_=>by simp at h
 | p::P,w::vs,0,m,nd,h1,h2,a=>by
  simp at h1 h2;subst h1;subst h2;show bindC kindOf ((p,w)::P.zip vs) m p=_;unfold bindC;rw[kU λv b=>(List.nodup_cons.mp nd).1 (List.of_mem_zip b).1,if_neg a];simp
 | p::P,w::vs,i+1,m,nd,h1,h2,a=>by
  show bindC kindOf ((p,w)::P.zip vs) m x=_;unfold bindC;exact kX (i:=i) (abV.mp nd).2 (by exists h1) (by exists h2) a
def start(N:↥Str)(vs:↥V):St:=vs.map some++List.replicate (N.length - vs.length) none
def rA(CX:CXT)(P:Program)(w:World)(K:Frag)(mg:Str->Option Value)(base:Heap)(N:↥Str)(qual:Str)(scope:Scope)(f:Addr)(cd:Value)(A:Around)(outer:↥Env)(s:Shared)(H:Hp)(E:XK):Cx where
 prog:=P
 w:=w
 K:=K
 mg:=mg
 base:=base
 A:=A.deeper (envOfC qual scope s.heap.objs.size f cd)
 N:=N
 s₀:=s
 H₀:=H
 env:=envOfC qual scope s.heap.objs.size f cd
 outer:=outer
 stack:=envOfC qual scope s.heap.objs.size f cd::outer
 ex:=[]
 calm:=true
 fn:=λ_=>true
 pn:=[]
 xe:=λe s'=>wpAny (model P w) (A.deeper (envOfC qual scope s.heap.objs.size f cd)) (leaving (envOfC qual scope s.heap.objs.size f cd) e) (λ_ s''=>CX outer H s E e s'') (λe' s''=>CX outer H s E e' s'') s'
def nF{a:Scope}(h:a.names.lookup x=!.cell):∃c,(cellsFrom n a.names []).lookup x=!c:=by
 have q:=PySem.W.cellsFrom_some a.names n [] (.inl h);exact ab4.mp q
def rB{K:Frag}{f:Addr}{o:Value}{t:Shared}{E:XK}
  (S:FnScope N ps scope) (hd:A.handled=none) (d:Env0 P w K mg base A outer s H) (I:vs.length=ps.length) (r:Vals vs us)
  (x:InCallC s s.heap.objs.size (bindL (envOfC qual scope s.heap.objs.size f o).kindOf (ps.zip us) λ_=>none) (cellsFrom (s.heap.objs.size+1) scope.names []) (bindC (envOfC qual scope s.heap.objs.size f o).kindOf (ps.zip us) λ_=>none) t) :
  Inv (rA CX P w K mg base N qual scope f o A outer s H E) [] (start N vs) H t:=by
 have F:ps.length<=N.length:=by have:=congrArg List.length S.pre;rw[aao] at this;nofun
 obtain⟨h1,tk,rfl,C⟩:=x.done;have g:∀b:Addr,b∉(rA CX P w K mg base N qual scope f o A outer s H E).ex:=λb z=>absurd (show b∈([]:↥Addr) from z) (by simp)
 refine{{d.mod,S.kind,rfl,rfl,aac _,λy z c h1 h2=>?_,λy j=>?_,λy c _ h=>?_,λ_=>hd,Around.frames_deeper d.frames,.inr {(rfl),rfl},λb z=>absurd z (g b),d.bs,d.bsz,λb _ _=>g b,λb z=>absurd z (g b),d.funs,d.frf},
  rfl,d.bare,Un.kept C,{_,x.toInCall.ns,λi y v h1 h2 J=>?_},λy c h=>{_,x.cell y c h},d.hok.fresh (aac _),λy c h=>?_,λp m=>absurd (show p∈([]:↥(Addr×Obj)) from m) (by simp),d.hok.kept C,?_}
 .exact name_of_addr x.apart (aaU h1) (aaU h2)
 .have j:scope.names.lookup y=↑.cell∨scope.names.lookup y=!.free:=j;rcases j with j|j
  .exact nF j
  .exact absurd rfl (S.nofree _ (aaU j))
 .exact acg (x.above y c (aaU h))
 .have hi:i<vs.length:=by
   unfold start at h2;by_cases hi:i<vs.length
   .exact hi
   .rw[List.getElem?_append_right (by exists hi)] at h2;rw[List.getElem?_replicate] at h2;split at h2 <;> cases h2
  have G:vs[i]?=!v:=by
   unfold start at h2;rw[List.getElem?_append_left (by exists hi),List.getElem?_map] at h2
   cases e:vs[i]? with
   |none=>rw[e] at h2;cases h2
   |some a=>rw[e] at h2;cases h2;rfl
  obtain⟨u,B,D⟩:=r.get G
  have m:ps[i]?=!y:=by
   rw[← S.pre,List.getElem?_take_of_lt ()];exact h1
  have l:ps.Nodup:=by rw[← S.pre];exact S.nd.sublist (aa1 _ _)
  refine{u,D,?_};rcases S.par y (List.mem_of_getElem? m) with k|k
  .exact .inl {k,kW l m B k}
  .obtain⟨c,e⟩:=nF (n:=s.heap.objs.size+1) k;refine .inr {.inl k,c,e,?_};have q:=x.cell y c e;rw[kX l m B (by show scope.names.lookup y≠_;rw[k];decide)] at q;exact q
 .exact d.hok.fresh (acg (x.above y c (aaU h)))
 .unfold start;show _=N.length;rw[aag,abP,aaE];nofun
def Ln{K:Frag}{f:Addr}{a:Arguments}{B kV doc pm cdv ct oc:Value}{an od:Option Addr}
  {osl:Array (Option Value)}   (lk:K.lookup f=!{oc,od,.func (PySem.W.fnOf name qual a body scope B kV doc pm an cdv ct),osl}) (p:PySem.W.codeIn K cdv qual=true) (S:FnScope N ps scope)
  (len:∀vs H Q E,sp vs H Q E->vs.length=ps.length)
  (g:∀(A:Around) (outer:↥Env) (s:Shared) (H:Hp) (vs:↥V) (Q:VK) (E:XK),Room k (A.deeper (envOfC qual scope s.heap.objs.size f cdv))->sp vs H Q E ->
   ∃t,PSs (rA CX P w K mg base N qual scope f cdv A outer s H E) body t/\t { nx:=λ_ H'=>Q .non H',rt:=Q } (start N vs) H) :
  FnOk P w K mg base CX (k+1) f (PySem.W.fnOf name qual a body scope B kV doc pm an cdv ct) ps sp:=by
 refine{len,λA outer s H args us vs Q E hr j O r i=>?_};have L:=len _ _ _ _ i;have C:K.In s.heap:=j.mod.kin.keeps λb o e=>(j.bs b o e).1;have m:s.heap.NoLimit:=j.mod.nolimit.keeps λb o e=>(j.bs b o e).1
 have d:∀y∈ps.zip us,scope.names.lookup y.1=↑.local∨(scope.names.lookup y.1=!.cell/\((cellsFrom (s.heap.objs.size+1) scope.names []).lookup y.1).isSome=true):=fun⟨n,v⟩ D=>by
  rcases S.par n (List.of_mem_zip D).1 with q|q
  .exact .inl q
  .exact .inr {q,PySem.W.cellsFrom_some _ _ _ (.inl q)}
 refine codeAny_call_function hr.depth (C _ _ lk) rfl S.co S.gen rfl (PySem.W.codeRec_of C p) (O _ _ _ _ ?_);refine wpAny_newFunctionEnv_cells S.kind d λenv M z x=>?_;subst M;refine{m.keeps x.toInCall.keep,codeAny_func ?_};obtain⟨t,F,G⟩:=g A outer s H vs Q E (hr.deeper _) i;have I:Inv (rA CX P w K mg base N qual scope f cdv A outer s H E) [] (start N vs) H z:=rB S hr.hd j L r x;refine abv (F [] z (start N vs) H _ I G) (λfl s' hs=>?_) λe s' hs=>hs
 have fin:∀{c:St} {H':Hp} {v:V} {u:Value},Inv (rA CX P w K mg base N qual scope f cdv A outer s H E) [] c H' s'->RelV v u->Q v H'->CE outer P w H s Q u s':=
  fun {c H' v u} J l q=>{(v),H',J.os,J.bare,J.base,J.hok,l,q}
 cases fl with
 | ret u=>
  obtain⟨v,c,H',J,l,q⟩:=hs;exact fin J l q
 | next=>
  obtain⟨c,H',J,q⟩:=hs;exact fin (v:=V.non) (u:=Value.none) J rfl q
 | brk=>
  obtain⟨_,_,_,q⟩:=hs;exact False.elim q
 | cont=>
  obtain⟨_,_,_,q⟩:=hs;exact False.elim q
section
variable       {id T:String} {r:↥V->Hp->VK->Prop}
def tCB(r:↥V->Hp->VK->Prop)(t:TA):TE:=λσ H Q=>t σ H λvs H1=>r vs H1 Q
def wn(m:CallR X (.builtin id) r)(k:Gl X x)(j:X.mg x=none)(g:bootBuiltins x=!(.builtin id))(n:PA X (e::es) t)(i:autoParam (x ≠ "__name__") L2.aD._auto_1)(b:autoParam ((x==("__debug__" : Str))=false) L2.aD._auto_1)
  (l:autoParam (starEach (e::es) X.env=(false,eval e X.env)::starEach es X.env) L2.aR._auto_1) (a:autoParam ((backTo pos (starEach es X.env)).any (·.1)=false) L2.aR._auto_1):PE X (.Call (.Name x p) (e::es) [] pos) (tCB r t):=by
 intro pins s σ H Q I h;refine wpAny_Call_Name_kw (gW I k j g ?_ i b);exact PyProof.Rows.callWith_builtin1 (thn (n pos pins s σ H _ I h) λus c {(vs),H1,o,d,f}=>m pins c σ H1 vs us Q o d f) l a
def rC(m:CallR X (.type T) r)(k:Gl X x)(j:X.mg x=none)(g:bootBuiltins x=!(.type T))(n:PA X (e::es) t)(i:autoParam (x ≠ "__name__") L2.aD._auto_1)(b:autoParam ((x==("__debug__" : Str))=false) L2.aD._auto_1)
  (l:autoParam (starEach (e::es) X.env=(false,eval e X.env)::starEach es X.env) L2.aR._auto_1) (a:autoParam ((backTo pos (starEach es X.env)).any (·.1)=false) L2.aR._auto_1):PE X (.Call (.Name x p) (e::es) [] pos) (tCB r t):=by
 intro pins s σ H Q I h;refine wpAny_Call_Name_kw (gW I k j g ?_ i b);exact aa2 (thn (n pos pins s σ H _ I h) λus c {(vs),H1,o,d,f}=>m pins c σ H1 vs us Q o d f) l a
end
end L2
namespace HT
open PySem PyProof.Rows
variable{t sl:Addr}{Q:Value->Shared->Prop}{vl vu:Value}{lo hi:Option Int}
section
open PySem.SeqAt
open PySem.AutoSeq1 (wpAny_loadPart')
open PySem.MeetsSeq PySem.MeetsSeq2 PySem.MeetsSeq3
end
section
variable {prog:Program} {w:World} {A:Around} {E:Value->Shared->Prop} {s:Shared}
def cat_tup{b:Addr}{vs ws:↥Value}(q:IsTup s.heap t vs.toArray)(r:IsTup s.heap b ws.toArray)(l:vs≠[])
  (h1:ws=[]->Q (.ref t) s) (h2:ws≠[]->Q (.ref s.heap.objs.size) { s with heap:=s.heap.push { cls:=.type "tuple", data:=.seq (vs++ws).toArray } })
  (hsz:vs.length+ws.length<=sizeLine):wpAny (model prog w) A (binaryOp .Add (.ref t) (.ref b)) Q E s:=by
 obtain⟨⟨cls,o,data,sl⟩,j,m,n,hd⟩:=id q;obtain⟨⟨p,g,data2,c⟩,a,f,k,d⟩:=id r;simp only at m hd f d;subst m hd f d;have e:vs.toArray++ws.toArray=(vs++ws).toArray:=by simp
 by_cases i:ws=[]
 .exact concat_meets {_,j,rfl} {_,a,rfl} noFill_tuple_add seq_tuple_add PySem.F.slot_tuple_add PySem.F.entry_tuple_add (PySem.F.args_tuple_add_2 _ _)
   (tuple_addW1 t b vs.toArray ws.toArray n k o g sl c (by exists l) (by simp[i])) {j,a,h1 i}
 .refine concat_meets {_,j,rfl} {_,a,rfl} noFill_tuple_add seq_tuple_add PySem.F.slot_tuple_add PySem.F.entry_tuple_add (PySem.F.args_tuple_add_2 _ _)
   (tuple_addW2 t b vs.toArray ws.toArray n k o g sl c (by exists l) (by exists i) (by rw[abY,abY];exact hsz)) {j,a,?_}
  rw[e];exact h2 i
def sIx(n d:Nat):Option Int->Nat
 |none=>d
 |some v=>if v<0 then (v+(n:Int)).toNat else min v.toNat n
def sIx_none(n d:Nat):sIx n d none=d:=-rfl
def sIx_nat(n d k:Nat):sIx n d ↑(k:Int)=min k n:=by
 show (if (k:Int)<0 then ((k:Int)+(n:Int)).toNat else min (k:Int).toNat n)=min k n;rw[if_neg (),ab6]
def sIx_le(n d:Nat)(hd:d<=n)(o:Option Int):sIx n d o<=n:=by
 cases o with
 |none=>exact hd
 | some v=>
  show (if v<0 then (v+(n:Int)).toNat else min v.toNat n)<=n;by_cases a:v<0
  .rw[if_pos a];nofun
  .rw[if_neg a];exact Nat.min_le_right _ _
def clip_eq(v:Int)(n d:Nat):(if v<0 then max (v+(n:Int)) 0 else min v (n:Int))=((sIx n d ↑v:Nat):Int):=by
 show (if v<0 then max (v+(n:Int)) 0 else min v (n:Int))=(((if v<0 then (v+(n:Int)).toNat else min v.toNat n):Nat):Int);by_cases a:v<0
 .simp only[if_pos a];nofun
 .simp only[if_neg a];nofun
def pR(lo hi:Option Int)(n:Nat):Builtin.Slice.sliceAdjust lo hi 1 (n:Int)=(((sIx n 0 lo:Nat):Int),((sIx n n hi:Nat):Int)):=by
 have h1:¬((1:Int)<0):=()
 unfold Builtin.Slice.sliceAdjust;simp only[h1,if_false];refine Prod.ext ?_ ?_
 .cases lo with
  |none=>rfl
  |some v=>exact clip_eq v n 0
 .cases hi with
  |none=>rfl
  |some v=>exact clip_eq v n n
def pT(i j:Nat):Builtin.Slice.slicePlaces (i:Int) (j:Int) 1=j - i:=by
 unfold Builtin.Slice.slicePlaces;have h1:(1:Int) > 0:=()
 simp only[h1,if_true,Int.ediv_one];split <;> nofun
def jq{v:Value}{o:Option Int}{Q:Option Int->Shared->Prop}(p:IsPart v o)(h:Q o s):wpAny (model prog w) A (Builtin.Slice.slicePartIndex v) Q E s:=by
 cases p with
 |none=>exact slicePart_none h
 |int i t=>exact slicePart_int h
def dI{n:Nat}{Q:Int×Int×Nat->Shared->Prop}(hs:s.heap.IsSliceOf sl vl vu .none)(pl:IsPart vl lo)(c:IsPart vu hi)
  (h:Q (((sIx n 0 lo:Nat):Int),1,sIx n n hi - sIx n 0 lo) s):wpAny (model prog w) A (Builtin.Slice.sliceApplied (.ref sl) (pure (n:Int))) Q E s:=by
 obtain⟨os,a,d,b⟩:=id hs;unfold Builtin.Slice.sliceApplied Builtin.Slice.sliceFields;refine aaa (aaa (wpAny_field a b (x:=vl) rfl (aaa (wpAny_field a b (x:=vu) rfl (aaa (wpAny_field a b (x:=.none) rfl (aaf ?_)))))));refine aaa (slicePart_none ?_);show wpAny _ _ (if ((1:Int)==0)=true then _ else _) _ _ s;rw[if_neg (by decide)];refine aaa (jq pl (aaa (jq c (aaa (aaf ?_)))));show wpAny _ _ (match Builtin.Slice.sliceAdjust lo hi 1 (n:Int) with|(lo,hi)=>pure (lo,(1:Int),Builtin.Slice.slicePlaces lo hi 1)) _ _ s;rw[pR lo hi n];show wpAny _ _ (pure (((sIx n 0 lo:Nat):Int),(1:Int),Builtin.Slice.slicePlaces ((sIx n 0 lo:Nat):Int) ((sIx n n hi:Nat):Int) 1)) _ _ s;rw[pT];exact aaf h
def wo(xs:Array Value)(i k:Nat):((List.range k).filterMap λ(m:Nat)=>xs[((i:Int)+(m:Int)*1).toNat]?).toArray=((xs.toList.drop i).take k).toArray:=by
 have e:(λ(m:Nat)=>xs[((i:Int)+(m:Int)*1).toNat]?)=λm=>xs[i+m]?:=by
  funext m
  have:((i:Int)+(m:Int)*1).toNat=i+m:=()
  rw[this]
 rw[e];have:=pick_run xs i k;rw[List.filterMap_map] at this;have a:((λx=>xs[x]?) ∘ λx=>i+x)=λm=>xs[i+m]?:=rfl;rw[a] at this;rw[this]
def getItem_tuple_cut{items:Array Value}(b:IsTup s.heap t items)(hs:s.heap.IsSliceOf sl vl vu .none)(pl:IsPart vl lo)(g:IsPart vu hi)
  (i:¬(sIx items.size 0 lo=0/\sIx items.size items.size hi=items.size))
  (h:Q (.ref s.heap.objs.size) { s with heap:=s.heap.push { cls:=.type "tuple", data:=.seq ((items.toList.drop (sIx items.size 0 lo)).take (sIx items.size items.size hi - sIx items.size 0 lo)).toArray } })
  (hsz:items.size<=sizeLine):wpAny (model prog w) A (getItem (.ref t) (.ref sl)) Q E s:=by
 have a:sizeOk (.seq ((items.toList.drop (sIx items.size 0 lo)).take (sIx items.size items.size hi - sIx items.size 0 lo)).toArray):=by
  show ((items.toList.drop (sIx items.size 0 lo)).take (sIx items.size items.size hi - sIx items.size 0 lo)).toArray.size<=sizeLine;rw[abY,aao,aaN,abZ];omega
 have n:sIx items.size items.size hi<=items.size:=sIx_le _ _ (aac _) hi;obtain⟨os,c,e,j⟩:=id hs;have f:s.TypeIs (.ref sl) "slice" := {(os),c,e};unfold getItem
 try with_reducible refine aaS ?_
 first|refine aaa (aaf ?_)|skip
 refine aaa (wpAny_sequenceKey b.typeIs (by decide) ?_)
 refine aaa (wpAny_callSpecial?_slot (name:=Str.ofString "__getitem__") b.typeIs aa8
  (aaC aa8 b.typeIs entry_tuple_getitem ?_ (args_tuple_getitem _ _)))
 show wpAny _ _ (Builtin.Tuple.tupleItemsOf (.ref t) >>= _) _ _ s;refine aaa (tupleItemsOf_ b ?_);refine aaa (wpAny_typeOf f ?_);rw[if_pos (by decide)];refine aaa (dI hs pl g ?_)
 have d:¬((((sIx items.size 0 lo:Nat):Int)==0&&(1:Int)==1&&(sIx items.size items.size hi - sIx items.size 0 lo)==items.size)=true):=by
  intro q;rw[ab2,ab2] at q;have l:((sIx items.size 0 lo:Nat):Int)=0:=eq_of_beq q.1.1;have k:sIx items.size items.size hi - sIx items.size 0 lo=items.size:=eq_of_beq q.2;exact i {by omega,by omega}
 show wpAny _ _ (if (((sIx items.size 0 lo:Nat):Int)==0&&(1:Int)==1&&(sIx items.size items.size hi - sIx items.size 0 lo)==items.size)=true then _ else _) _ _ s;rw[if_neg d,wo]
 first
  |exact aaa (m:=Builtin.Tuple.tupleExact _) (aaM (aaf {_,rfl,aaf h}) a)
  |exact aaa (m:=Builtin.Tuple.tupleExact _) (aaM (aaa (aaf (aaf {_,rfl,aaf h}))) a)
  |exact aaa (aaa (m:=Builtin.Tuple.tupleExact _) (aaM (aaf (aaf {_,rfl,aaf h})) a))
  |exact aaa (aaa (m:=Builtin.Tuple.tupleExact _) (aaM (aaf {_,rfl,aaf h}) a))
end
end HT
namespace L2
open PySem PySem.Spec PyProof.Rows
variable{X:Cx}{e:Expr}{pos apos cpos:Pos}{r:V->Option Int->Option Int->Hp->VK->Prop}{xs:↥(↥Key×Addr×Value)}{us its its':↥Value}{n j t':Nat}{i:Int}{α:Type}{pins:↥(Addr×Obj)}{σ:St}{H H':Hp}{s:Shared}{ys:↥V}{A:Around}{y x d:V}{u v:Value}{T:String}{o:Option V}{b a:Addr}{w:World}{E Q:Value->Shared->Prop}{P:Program}{k:Key}{kvs:↥(↥Key×V)}{h':Heap}{td ty tv:TE}{trs:↥(TE×TE)}
abbrev TO:=St->Hp->(Option Int->Hp->Prop)->Prop
def PO(X:Cx)(e:Option Expr)(t:TO):Prop:=
 ∀(pins:↥(Addr×Obj)) (s:Shared) (σ:St) (H:Hp) (Q:Option Int->Hp->Prop),Inv X pins σ H s->t σ H Q ->
  wpAny (model X.prog X.w) X.A (evalPart e X.env) (λu s'=>∃o H',Inv X pins σ H' s'/\IsPart u o/\Q o H') X.xe s
def mE:TO:=λ_ H Q=>Q none H
def BK(t:TE):TO:=λσ H Q=>t σ H λx H1=>∃i,x=.int i/\Q ↑i H1
section
variable   {te:TE} {lo hi:Option Expr} {tl th:TO} {p2:Pos}
def BL:PO X none mE:=by
 intro pins s σ H Q I h;rw[evalPart_none];exact aaf {none,H,I,.none,h}
def BM(h:PE X e te):PO X ↑e (BK te):=by
 intro pins s σ H Q I c;rw[evalPart_some];refine thn (h pins s σ H _ I c) λu f y=>?_;obtain⟨x,H1,d,a,b⟩:=y;obtain⟨i,rfl,q⟩:=b;obtain⟨t,rfl⟩:=a;exact{!i,H1,d,.int i t,q}
def SlR(X:Cx)(r:V->Option Int->Option Int->Hp->VK->Prop):Prop:=
 ∀(pins:↥(Addr×Obj)) (s:Shared) (σ:St) (H:Hp) (x:V) (v vl vu:Value) (lo hi:Option Int) (sl:Addr) (Q:VK),Inv X pins σ H s->RelV x v->s.heap.IsSliceOf sl vl vu .none->IsPart vl lo->IsPart vu hi->r x lo hi H Q ->
  ∃T id,typeLookup (.type T) "__getitem__" = pure !(.builtin id)/\s.TypeIs v T/\wpAny (model X.prog X.w) X.A (getItem v (.ref sl)) (EP X pins σ Q) X.xe s
def SlR.or{r':V->Option Int->Option Int->Hp->VK->Prop}(h:SlR X r)(h':SlR X r'):SlR X (λx lo hi H Q=>r x lo hi H Q∨r' x lo hi H Q):=by
 intro pins s σ H x v vl vu lo hi sl Q I a hs pl b q;rcases q with q|q
 .exact h pins s σ H x v vl vu lo hi sl Q I a hs pl b q
 .exact h' pins s σ H x v vl vu lo hi sl Q I a hs pl b q
def tSl(r:V->Option Int->Option Int->Hp->VK->Prop)(te:TE)(tl th:TO):TE:=λσ H Q=>te σ H λx H1=>tl σ H1 λl H2=>th σ H2 λu a=>r x l u a Q
def nG(hr:SlR X r)(w:PE X e te)(p:PO X lo tl)(n:PO X hi th):PE X (.Subscript e (.Slice lo hi none p2) pos) (tSl r te tl th):=by
 intro pins s σ H Q I h;refine Subscript_ (thn (w pins s σ H _ I h) λv f b=>?_);obtain⟨x,H1,C,g,k⟩:=b;refine wpAny_Slice (thn (p pins f σ H1 _ C k) λvl d {(l),H2,B,pl,j}=>thn (n pins d σ H2 _ B j) λvu a D=>?_);obtain⟨u,c,A,m,i⟩:=D;rw[evalPart_none];refine aaf ?_;have z:Inv X pins σ c { a with heap:=a.heap.push { cls:=.type "slice", data:=.fields #[vl,vu,.none] } }:=A.kept (t':=a.toks) λb ob q=>Heap.get?_push_of_some _ q;obtain⟨T,id,y,o,t⟩:=hr pins { a with heap:=a.heap.push { cls:=.type "slice", data:=.fields #[vl,vu,.none] } } σ c x v vl vu l u a.heap.objs.size Q z g (Heap.IsSliceOf.new ..) pl m i;show wpAny (model X.prog X.w) X.A (subscriptTail e (.Slice lo hi none p2) v (.ref a.heap.objs.size)) (EP X pins σ Q) X.xe { a with heap:=a.heap.push { cls:=.type "slice", data:=.fields #[vl,vu,.none] } };exact tail_any (ops:=[.ref a.heap.objs.size,v]) o y t (by with_unfolding_all rfl)
def FW(xs:↥V)(lo hi:Option Int):↥V:=(xs.drop (HT.sIx xs.length 0 lo)).take (HT.sIx xs.length xs.length hi - HT.sIx xs.length 0 lo)
def hU(xs:↥V)(lo hi:Option Int):(FW xs lo hi).length<=xs.length:=by
 unfold FW;rw[aao,aaN];nofun
def MK(K:Frag):V->Option Int->Option Int->Hp->VK->Prop:=λx lo hi H Q=>∃a xs,x=.ref a/\SqT K H a xs /\
 ¬(HT.sIx xs.length 0 lo=0/\HT.sIx xs.length xs.length hi=xs.length)/\∀p,H p=none->Q (.ref p) (upd H p (.tup (FW xs lo hi)))
def GN:SlR X (MK X.K):=by
 intro pins s σ H x v vl vu lo hi sl Q I f hs pl g h;obtain⟨a,xs,rfl,i,j,q⟩:=h;cases f;obtain⟨its,r,e,d⟩:=I.tuple i;have c:its.toArray.size=xs.length:=by rw[abY];exact r.length.symm
 refine{"tuple", _,PyProof.Rows.slot_tuple_getitem.lookup,e.typeIs,?_};refine HT.getItem_tuple_cut e hs pl g (by rw[c];exact j) ?_ (by rw[c];exact d);rw[c];refine{.ref s.heap.objs.size,_,I.laid (t':=s.toks) (o:=.tup (FW xs lo hi)) (λb ob q=>Heap.get?_push_of_some _ q) (aac _) ?_,rfl,q _ (I.hok.fresh (aac _))};exact{aar (hU xs lo hi) d,_,(r.drop (HT.sIx xs.length 0 lo)).take (HT.sIx xs.length xs.length hi - HT.sIx xs.length 0 lo),IsTup.new _ _}
def GO(K:Frag):R2:=λx y H Q=>∃a b xs ys,x=.ref a/\y=.ref b/\SqT K H a xs/\SqT K H b ys/\xs≠[]/\xs.length+ys.length<=sizeLine /\
 (ys=[]->Q (.ref a) H)/\(ys≠[]->∀p,H p=none->Q (.ref p) (upd H p (.tup (xs++ys))))
def Vals.nil_iff{xs:↥V}(r:Vals xs us):us=[]↔xs=[]:=by
 cases r with
 |nil=>simp
 |cons _ _=>simp
def BN:OpR X (binaryOp .Add) (GO X.K):=by
 intro pins s σ H x y v u Q I i g h;obtain⟨a,b,xs,ys,rfl,rfl,p,n,m,f,k,j⟩:=h;cases i;cases g;obtain⟨its,d,l,_⟩:=I.tuple p;obtain⟨e,c,p2,_⟩:=I.tuple n;refine HT.cat_tup l p2 (λz=>m (d.nil_iff.mp z)) (λz=>{.ref a,H,I,rfl,k (c.nil_iff.mp z)}) (λz=>?_) (by rw[← d.length,← c.length];exact f);refine{.ref s.heap.objs.size,_,I.laid (t':=s.toks) (o:=.tup (xs++ys)) (λb ob q=>Heap.get?_push_of_some _ q) (aac _) ?_,rfl,j (λw=>z (c.nil_iff.mpr w)) _ (I.hok.fresh (aac _))};exact{by rw[aag];exact f,_,d.append c,IsTup.new _ _}
end
def ixN(n:Nat)(i:Int):Option Nat:=if 0<=i then (if i<n then ↑i.toNat else none) else if -(n:Int)<=i then ↑(i+n).toNat else none
def atI{α:Type}(xs:↥α)(i:Int):Option α:=(ixN xs.length i).bind λj=>xs[j]?
def rD(h:ixN n i=!j):seqIndex? i n=!j/\j<n/\-(n:Int)<=i/\i<n:=by
 unfold ixN at h;by_cases a:0<=i
 .rw[if_pos a] at h;by_cases h1:i<n
  .rw[if_pos h1] at h;have e:i.toNat=j:=aak h;exact{by rw[seqIndex_of a h1,e],(),(),h1}
  .rw[if_neg h1] at h;cases h
 .rw[if_neg a] at h;by_cases h1:-(n:Int)<=i
  .rw[if_pos h1] at h;have e:(i+n).toNat=j:=aak h;exact{by rw[seqIndex_neg () h1,e],(),h1,()}
  .rw[if_neg h1] at h;cases h
def mF{xs:↥α}{v:α}(h:atI xs i=!v):∃j,seqIndex? i xs.length=!j/\xs[j]?=!v/\j<xs.length/\-(xs.length:Int)<=i/\i<xs.length:=by
 unfold atI at h
 cases e:ixN xs.length i with
 |none=>rw[e] at h;cases h
 | some j=>
  rw[e] at h;obtain⟨h1,h2,b,a⟩:=rD e;exact{(j),h1,h,h2,b,a}
def cE{xs:↥α}{v:α}(h:xs[j]?=!v):atI xs (j:Int)=!v:=by
 have a:j<xs.length:=(List.getElem?_eq_some_iff.mp h).1
 have e:ixN xs.length (j:Int)=!j:=by
  unfold ixN;rw[if_pos (),if_pos ()];simp
 unfold atI;rw[e];exact h
def wq(xs:↥α)(v:α):atI (xs++[v]) (-1)=!v:=by
 have a:(xs++[v]).length=xs.length+1:=by simp
 have e:ixN (xs++[v]).length (-1)=!xs.length:=by
  unfold ixN;rw[a,if_neg (by decide),if_pos ()]
  congr 1
  nofun
 unfold atI;rw[e];show (xs++[v])[xs.length]?=!v;simp
def BP(b:Expr):Prop:=∀o i,subscripted b false o i=operate [o,i] (getItem o i)
def IxR(X:Cx)(r:R2):Prop:=
 ∀(value slice:Expr) (pins:↥(Addr×Obj)) (s:Shared) (σ:St) (H:Hp) (x y:V) (v u:Value) (Q:VK),Inv X pins σ H s->RelV x v->RelV y u->r x y H Q ->
  subscripted slice false v u=operate [v,u] (getItem v u)->wpAny (model X.prog X.w) X.A (subscriptTail value slice v u) (EP X pins σ Q) X.xe s
def MtR(X:Cx)(id:String)(r:V->↥V->Hp->VK->Prop):Prop:=
 ∀(pins:↥(Addr×Obj)) (s:Shared) (σ:St) (H:Hp) (x:V) (xs:↥V) (v:Value) (us:↥Value) (Q:VK),Inv X pins σ H s->RelV x v->Vals xs us->r x xs H Q ->
  wpAny (model X.prog X.w) X.A (call (.builtin id) (v::us)) (EP X pins σ Q) X.xe s
section
variable  {a b:Expr} {ta tb:TE} 
def IxR.or{r r':R2}(h:IxR X r)(h':IxR X r'):IxR X (λx y H Q=>r x y H Q∨r' x y H Q):=by
 intro value slice pins s σ H x y v u Q I b a q hs;rcases q with q|q
 .exact h value slice pins s σ H x y v u Q I b a q hs
 .exact h' value slice pins s σ H x y v u Q I b a q hs
def Lo{r:R2}(hr:IxR X r)(g:PE X a ta)(f:PE X b tb)(hs:BP b):PE X (.Subscript a b pos) (tOp r ta tb):=by
 intro pins s σ H Q I h;exact Subscript_ (Lc g f I h λv u c x y H2 i e d q=>hr a b pins c σ H2 x y v u Q i e d q (hs _ _))
def ML(K:Frag):R2:=λx y H Q=>∃p xs i v,x=.ref p/\y=.int i/\SqL K H p xs/\atI xs i=!v/\Q v H
def MM(K:Frag):R2:=λx y H Q=>∃p xs i v,x=.ref p/\y=.int i/\SqT K H p xs/\atI xs i=!v/\Q v H
def MN:R2:=λx y H Q=>∃z i c,x=.str z/\y=.int i/\z.length<=sizeLine/\atI z.cps.toList i=!c/\Q (.str {#[c]}) H
def BQ:IxR X (ML X.K):=by
 intro value slice pins s σ H x y v u Q I f e h hs;obtain⟨p,xs,i,z,rfl,rfl,g,l,q⟩:=h;cases f;obtain⟨t,rfl⟩:=e;obtain⟨its,r,pl,o⟩:=I.list g;obtain⟨j,h1,h2,B,n,m⟩:=mF l;obtain⟨w,d,a⟩:=r.get h2;have k:=r.length;have A:=gX;have fin:EP X pins σ Q w s:={(z),H,I,a,q};by_cases c:0<=i
 .have b:i.toNat=j:=by
   rw[seqIndex_of c m] at h1;exact aak h1
  exact item_listR pl.isList c () (by rw[b];simpa using d) fin hs
 .have b:(i+(its.toArray.size:Int)).toNat=j:=by
   rw[seqIndex_neg () n] at h1;rw[abY,← k];exact aak h1
  exact subscriptTail_builtinR (x:=w) pl.isList.typeIs slot_list_getitem.lookup
   (wpAny_getItem_list_neg (Q:=λr s'=>r=w/\EP X pins σ Q r s') pl.isList () (by rw[abY] <;> nofun) () (by rw[b];simpa using d) {(rfl),fin}) hs
def GP:IxR X (MM X.K):=by
 intro value slice pins s σ H x y v u Q I c b h hs;obtain⟨p,xs,i,z,rfl,rfl,d,f,q⟩:=h;cases c;obtain⟨t,rfl⟩:=b;obtain⟨its,r,pl,k⟩:=I.tuple d;obtain⟨j,h1,h2,o,n,m⟩:=mF f;obtain⟨w,g,a⟩:=r.get h2;have e:=r.length;have l:=gX;have fin:EP X pins σ Q w s:={(z),H,I,a,q}
 exact subscriptTail_builtinR (x:=w) pl.typeIs slot_tuple_getitem.lookup
  (getItem_tuple (j:=j) (Q:=λr s'=>r=w/\EP X pins σ Q r s') pl () () (by rw[abY,← e];exact h1) (by exists g) {(rfl),fin}) hs
def GQ:IxR X MN:=by
 intro value slice pins s σ H x y v u Q I b a h hs;obtain⟨z,i,c,rfl,rfl,m,e,q⟩:=h;obtain⟨t,rfl⟩:=b;obtain⟨t',rfl⟩:=a;obtain⟨j,h1,h2,o,g,f⟩:=mF e;have d:z.cps.toList.length=z.length:=by simp[Str.length]
 rw[d] at h1 g f;have n:=gX
 exact tail_any (typeIs_str s z t) slot_str_getitem.lookup (getItem_str (c:=c) (by
  have l:decide (i < -(2 ^ 63:Int))=false:=decide_eq_false ();have k:decide (i ≥ 2 ^ 63)=false:=decide_eq_false ();rw[l,k,Bool.or_false]) (by rw[h1];simpa using h2) {.str {#[c]},H,I.tok _,{_,rfl},q}) hs
def rIx(K:Frag):R2:=λx y H Q=>ML K x y H Q∨MM K x y H Q∨MN x y H Q
def GR:IxR X (rIx X.K):=-BQ.or (GP.or GQ)
def pU(its:↥Value)(n j:Nat)(u:Value):Obj.mapSeq (·.setIfInBounds j u) { cls:=.type "list", data:=.seq its.toArray n }={ cls:=.type "list", data:=.seq (its.set j u).toArray n }:=by
 simp[Obj.mapSeq]
def Inv.lst{pins:↥(Addr×Obj)}{σ:St}{H:Hp}{s:Shared}{p:Addr}{xs:↥V}(I:Inv X pins σ H s)(h:H p=!(.lst xs)) :
  ∃(its:↥Value) (n:Nat),Vals xs its/\s.heap.get? p=some { cls:=.type "list", data:=.seq its.toArray n }/\xs.length<=sizeLine:=by
 obtain⟨z,its,n,r,e⟩:=I.hok p _ h;exact{(its),n,r,e,z}
def Inv.lstUpd{p:Addr}{xs:↥V}{a:Nat}{f:Obj->Obj}(I:Inv X pins σ H s)(h:H p=!(.lst xs))
  (g:s.heap.get? p=some { cls:=.type "list", data:=.seq its.toArray n }) (c:f { cls:=.type "list", data:=.seq its.toArray n }={ cls:=.type "list", data:=.seq its'.toArray a }) (r:Vals ys its') (d:ys.length<=sizeLine) (t:Nat) :
  Inv X pins σ (upd H p (.lst ys)) { s with heap:=s.heap.update p f,toks:=t }:=by
 have e:(s.heap.update p f).get? p=some { cls:=.type "list", data:=.seq its'.toArray a }:=by
  rw[Heap.get?_update_self f g (by rw[c] <;> rfl),c]
 refine I.write (x:=p) (e:=p) (by rw[h];trivial) (.inl rfl) (λb u i q=>(Heap.get?_update_other _ _ (abz i)).trans q) {_,e} ?_;exact{(d),its',a,r,e}
def BR:V->V->V->Hp->(Hp->Prop)->Prop:=λo i v H Q=>∃p xs k j,o=.ref p/\i=.int k/\H p=!(.lst xs)/\ixN xs.length k=!j/\Q (upd H p (.lst (xs.set j v)))
def wt:MG X BR:=by
 intro pins s σ H o i v ov A u Q I w x m h;obtain⟨p,xs,k,j,rfl,rfl,d,z,q⟩:=h;cases w;obtain⟨t,rfl⟩:=x;obtain⟨its,n,r,a,y⟩:=I.lst d;obtain⟨h1,h2,f,e⟩:=rD z;have b:=r.length;have B:=gX
 have l:Inv X pins σ (upd H p (.lst (xs.set j v))) { s with heap:=s.heap.update p (Obj.mapSeq (·.setIfInBounds j u)) }:=
  I.lstUpd d a (pU its n j u) (r.set m j) (by rw[aaF];exact y) s.toks
 by_cases g:0<=k
 .have c:k.toNat=j:=by
   rw[seqIndex_of g e] at h1;exact aak h1
  exact PySem.W.ki_setAt a g () (by rw[abY,← b];exact e) (by rw[c];exact{_,l,q})
 .have c:(k+(its.toArray.size:Int)).toNat=j:=by
   rw[seqIndex_neg () f] at h1;rw[abY,← b];exact aak h1
  exact PySem.W.ki_setBack a () (by rw[abY,← b];exact f) () (by rw[c];exact{_,l,q})
def kY(lo hi:Option Int)(n:Nat):(sliceBounds lo hi none n).1=((HT.sIx n 0 lo:Nat):Int)/\(sliceBounds lo hi none n).2.1=((HT.sIx n n hi:Nat):Int)/\(sliceBounds lo hi none n).2.2=1:=by
 refine{?_,?_,rfl}
 .cases lo with
  |none=>simp [sliceBounds,HT.sIx]
  | some i=>
   simp only[sliceBounds,HT.sIx,Option.getD_none,show (1:Int) > 0 by decide,if_true];by_cases h:i<0
   .simp only[h,if_true] <;> nofun
   .simp only[h,if_false] <;> nofun
 .cases hi with
  |none=>simp [sliceBounds,HT.sIx]
  | some i=>
   simp only[sliceBounds,HT.sIx,Option.getD_none,show (1:Int) > 0 by decide,if_true];by_cases h:i<0
   .simp only[h,if_true] <;> nofun
   .simp only[h,if_false] <;> nofun
def jQ(its:↥Value)(lo hi:Option Int):slicePick its.toArray lo hi none=((its.drop (HT.sIx its.length 0 lo)).take (HT.sIx its.length its.length hi - HT.sIx its.length 0 lo)).toArray:=by
 obtain⟨h1,h2,a⟩:=kY lo hi its.toArray.size;unfold slicePick;rw[h1,h2,a];simp only[sliceRange_one,pick_run,List.size_toArray] <;> rfl
def MO(K:Frag):V->Option Int->Option Int->Hp->VK->Prop:=λx lo hi H Q=>∃a xs,x=.ref a/\SqL K H a xs/\∀p,H p=none->Q (.ref p) (upd H p (.lst (FW xs lo hi)))
def BU:SlR X (MO X.K):=by
 intro pins s σ H x v vl vu lo hi sl Q I e hs pl f h;obtain⟨a,xs,rfl,i,q⟩:=h;cases e;obtain⟨its,r,d,g⟩:=I.list i;have c:=r.length;refine{"list", _,slot_list_getitem.lookup,d.isList.typeIs,?_};refine wpAny_getItem_list_slice d.isList hs pl f .none (by simp) ?_ (by rw[List.size_toArray] <;> nofun);rw[jQ,← c];refine{.ref s.heap.objs.size,_,I.laid (t':=s.toks) (o:=.lst (FW xs lo hi)) (λb ob q=>Heap.get?_push_of_some _ q) (aac _) ?_,rfl,q _ (I.hok.fresh (aac _))};exact{aar (hU xs lo hi) g,_,0,(r.drop (HT.sIx xs.length 0 lo)).take (HT.sIx xs.length xs.length hi - HT.sIx xs.length 0 lo),Heap.get?_push_size _ rfl}
def hV:V->Bool
 |.non=>true
 |.bl _=>true
 |.int _=>true
 |.str _=>true
 |_=>false
def eqV:V->V->Bool
 |.non,.non=>true
 |.bl a,.bl b=>a==b
 |.bl a,.int b=>(if a then 1 else 0)==b
 |.int a,.bl b=>a==(if b then 1 else 0)
 |.int a,.int b=>a==b
 |.str a,.str b=>a==b
 |_,_=>false
def GS(d:RelV y u)(c:RelV x v)(f:hV y=true)(e:hV x=true):SeqAt.EqAt A s u v (eqV y x):=by
 cases y with
 | non=>
  cases d
  cases x with
  |non=>cases c;exact SeqAt.EqAt.same _
  |bl b=>cases c;exact SeqAt.EqAt.none_bool b
  |int b=>obtain ⟨t,rfl⟩:=c;exact SeqAt.EqAt.none_int b t
  |str b=>obtain ⟨t,rfl⟩:=c;exact SeqAt.EqAt.none_str b t
  |_=>exact absurd (show false=true from e) abU
 | bl a=>
  cases d
  cases x with
  |non=>cases c;exact SeqAt.EqAt.bool_none a
  |bl b=>cases c;exact SeqAt.EqAt.bool_bool a b
  |int b=>obtain ⟨t,rfl⟩:=c;exact SeqAt.EqAt.bool_int a b t
  |str b=>obtain ⟨t,rfl⟩:=c;exact SeqAt.EqAt.bool_str a b t
  |_=>exact absurd (show false=true from e) abU
 | int a=>
  obtain⟨t',rfl⟩:=d
  cases x with
  |non=>cases c;exact SeqAt.EqAt.int_none a t'
  |bl b=>cases c;exact SeqAt.EqAt.int_bool a t' b
  |int b=>obtain ⟨t,rfl⟩:=c;exact SeqAt.EqAt.int_int a t' b t
  |str b=>obtain ⟨t,rfl⟩:=c;exact SeqAt.EqAt.int_str a t' b t
  |_=>exact absurd (show false=true from e) abU
 | str a=>
  obtain⟨t',rfl⟩:=d
  cases x with
  |non=>cases c;exact SeqAt.EqAt.str_none a t'
  |bl b=>cases c;exact SeqAt.EqAt.str_bool a t' b
  |int b=>obtain ⟨t,rfl⟩:=c;exact SeqAt.EqAt.str_int a t' b t
  |str b=>obtain ⟨t,rfl⟩:=c;exact SeqAt.EqAt.str_str a t' b t
  |_=>exact absurd (show false=true from e) abU
 |_=>exact absurd (show false=true from f) abU
def eqU(x:V)(u:Value):Bool:=match u with
 |.none=>eqV .non x
 |.bool b=>eqV (.bl b) x
 |.int i _=>eqV (.int i) x
 |.str z _=>eqV (.str z) x
 |_=>false
def zT(r:RelV y u)(f:hV y=true):eqU x u=eqV y x:=by
 cases y with
 |non=>cases r;rfl
 |bl b=>cases r;rfl
 |int i=>obtain⟨t,rfl⟩:=r;rfl
 |str z=>obtain⟨t,rfl⟩:=r;rfl
 |_=>exact absurd (show false=true from f) abU
theorem hX{x:V}:∀{xs:↥V} {us:↥Value},Vals xs us->xs.all hV=true->us.any (eqU x)=xs.any λy=>eqV y x
 |_,_,.nil,_=>rfl
 | y::xs,u::us,.cons r t,f=>by
  rw[aaT,ab2] at f;rw[abB,abB,zT r f.1,hX t f.2]
theorem fw{A:Around}{s:Shared}{x:V}{v:Value}(b:RelV x v)(c:hV x=true):∀{xs:↥V} {us:↥Value},Vals xs us->xs.all hV=true->∀u∈us,SeqAt.EqAt A s u v (eqU x u)
 |_,_,.nil,_=>λu a=>by cases a
 | y::xs,u::us,.cons r t,f=>λd a=>by
  rw[aaT,ab2] at f;rcases abS.mp a with rfl|a
  .rw[zT r f.1];exact GS r b f.1 c
  .exact fw b c t f.2 d a
def inV(x:V)(xs:↥V):Bool:=xs.any λy=>eqV y x
def rIn(K:Frag)(neg:Bool):R2:=λx y H Q=>∃p xs,y=.ref p/\(SqL K H p xs∨SqT K H p xs)/\hV x=true/\xs.all hV=true/\Q (.bl (if neg then ⇑(inV x xs) else inV x xs)) H
def rE:OpR X (compareOp .In) (rIn X.K false):=by
 intro pins s σ H x y v u Q I c e h;obtain⟨p,xs,rfl,a,d,fs,q⟩:=h;cases e;rcases a with a|a
 .obtain⟨its,r,pl,f⟩:=I.list a;refine SeqAt.in_listAt (eqU x) pl.isList (λw b=>fw c d r fs w (by exists b)) {.bl _,H,I,rfl,?_};rw[show its.toArray.any (eqU x)=its.any (eqU x) by simp,hX r fs];exact q
 .obtain⟨its,r,pl,f⟩:=I.tuple a;refine SeqAt.in_tupleAt (eqU x) pl (λw b=>fw c d r fs w (by exists b)) {.bl _,H,I,rfl,?_};rw[show its.toArray.any (eqU x)=its.any (eqU x) by simp,hX r fs];exact q
def kZ:OpR X (compareOp .NotIn) (rIn X.K true):=by
 intro pins s σ H x y v u Q I c e h;obtain⟨p,xs,rfl,a,d,fs,q⟩:=h;cases e;rcases a with a|a
 .obtain⟨its,r,pl,f⟩:=I.list a;refine SeqAt.notIn_listAt (eqU x) pl.isList (λw b=>fw c d r fs w (by exists b)) {.bl _,H,I,rfl,?_};rw[show its.toArray.any (eqU x)=its.any (eqU x) by simp,hX r fs];exact q
 .obtain⟨its,r,pl,f⟩:=I.tuple a;refine SeqAt.notIn_tupleAt (eqU x) pl (λw b=>fw c d r fs w (by exists b)) {.bl _,H,I,rfl,?_};rw[show its.toArray.any (eqU x)=its.any (eqU x) by simp,hX r fs];exact q
def k6:OpR X (compareOp .NotIn) (λx y H Q=>∃i j,x=.str i/\y=.str j/\Q (.bl (⇑(⇑((Builtin.Str.occurrences j i 0 j.length 1).isEmpty)))) H):=by
 intro pins s σ H x y v u Q I b a h;obtain⟨i,j,rfl,rfl,q⟩:=h;obtain⟨t,rfl⟩:=b;obtain⟨t',rfl⟩:=a;exact notIn_str {.bl _,H,I,rfl,q}
def k7:CallR X (.builtin "len") (λxs H Q=>∃p ys,xs=[.ref p]/\(SqL X.K H p ys∨SqT X.K H p ys)/\Q (.int ys.length) H):=by
 intro pins s σ H xs us Q I r h;obtain⟨p,ys,rfl,b,q⟩:=h;obtain⟨u,rfl,c⟩:=dS r;cases c;have e:=gX;rcases b with b|b
 .obtain⟨its,r',pl,d⟩:=I.list b;have a:=r'.length;exact Calls.call_len_list pl.isList (by simp only[List.size_toArray] <;> nofun) {.int ys.length,H,I.tok _,{s.toks+1,by rw[abY,a]},q}
 .obtain⟨its,r',pl,d⟩:=I.tuple b;have a:=r'.length;exact len_tuple pl (by simp only[List.size_toArray] <;> nofun) {.int ys.length,H,I.tok _,{s.toks+1,by rw[abY,a]},q}
def k9:CallR X (.builtin "len") (λxs H Q=>∃z,xs=[.str z]/\z.length<=sizeLine/\Q (.int z.length) H):=by
 intro pins s σ H xs us Q I r h;obtain⟨z,rfl,a,q⟩:=h;obtain⟨u,rfl,t,rfl⟩:=dS r;have b:=gX;exact len_str () {.int z.length,H,I.tok _,{_,rfl},q}
def CallR.or{f:Value}{r r':↥V->Hp->VK->Prop}(h:CallR X f r)(h':CallR X f r'):CallR X f (λxs H Q=>r xs H Q∨r' xs H Q):=by
 intro pins s σ H xs us Q I a q;rcases q with q|q
 .exact h pins s σ H xs us Q I a q
 .exact h' pins s σ H xs us Q I a q
def la:CallR X (.type "list") (λxs H Q=>∃p ys,xs=[.ref p]/\(SqL X.K H p ys∨SqT X.K H p ys)/\∀l,H l=none->Q (.ref l) (upd H l (.lst ys))):=by
 intro pins s σ H xs us Q I r h;obtain⟨p,ys,rfl,d,q⟩:=h;obtain⟨u,rfl,j⟩:=dS r;cases j
 have fin:∀(its:↥Value),Vals ys its->ys.length<=sizeLine->∀(h':Heap) (a:Nat),(∀b o',s.heap.get? b=!o'->h'.get? b=!o') ->
   h'.get? s.heap.objs.size=some { cls:=.type "list", dict:=none,data:=.seq its.toArray a,slots:=#[] }->EP X pins σ Q (.ref s.heap.objs.size) { s with heap:=h' }:=λits r' c h' a kp e=>
  {.ref s.heap.objs.size,_,I.laid (t':=s.toks) kp (aac _) (show ObjOk X.prog X.w _ h' _ (.lst ys) from {(c),its,a,r',e}),rfl,q _ (I.hok.fresh (aac _))}
 rcases d with d|d
 .obtain⟨its,r',pl,c⟩:=I.list d;have f:=r'.length;obtain⟨o,g,i,n,hd⟩:=pl.isList;exact call_list_seq p (.inl rfl) g i hd (λh' a kp e=>fin its r' c h' a kp e) (by simp only[List.size_toArray] <;> nofun)
 .obtain⟨its,r',pl,c⟩:=I.tuple d;have f:=r'.length;obtain⟨o,g,i,n,hd⟩:=pl;exact call_list_seq p (.inr rfl) g i hd (λh' a kp e=>fin its r' c h' a kp e) (by simp only[List.size_toArray] <;> nofun)
def jR:CallR X (.type "tuple") (λxs H Q=>∃p ys,xs=[.ref p]/\((SqL X.K H p ys/\∀l,H l=none->Q (.ref l) (upd H l (.tup ys)))∨(SqT X.K H p ys/\Q (.ref p) H))):=by
 intro pins s σ H xs us Q I r h;obtain⟨p,ys,rfl,h⟩:=h;obtain⟨u,rfl,g⟩:=dS r;cases g;rcases h with ⟨a,q⟩|⟨a,q⟩
 .obtain⟨its,r',pl,c⟩:=I.list a;have d:=r'.length;refine call_tuple_list pl.isList (λh' kp=>?_) (by simp only[List.size_toArray] <;> nofun);have f:Inv X pins σ H { s with heap:=h' }:=I.kept (t':=s.toks) kp
  have i:Inv X pins σ (upd H h'.objs.size (.tup ys)) { s with heap:=h'.push { cls:=.type "tuple", data:=.seq its.toArray } }:=
   f.laid (t':=s.toks) (λb o e=>Heap.get?_push_of_some _ e) (aac _) (show ObjOk X.prog X.w _ _ _ (.tup ys) from {c,its,r',IsTup.new _ _})
  exact{.ref h'.objs.size,_,i,rfl,q _ (f.hok.fresh (aac _))}
 .obtain⟨its,r',pl,c⟩:=I.tuple a;exact call_tuple_same pl {.ref p,H,I,rfl,q}
def tyV(K:Frag)(T:String)(x:V)(H:Hp):Prop:=match x with
 |.str _=>T = "str"
 |.int _=>T = "int"
 | .ref p=>(T = "list" /\ ∃xs,SqL K H p xs)∨(T = "tuple" /\ ∃o,K.lookup p=!o/\o.cls=.type "tuple" /\ o.dict=none) ∨
   (T = "dict" /\ ((∃kvs,H p=!(.dK kvs))∨∃kvs,H p=!(.dT kvs)))∨(T = "set" /\ ∃S n,H p=!(.set S n))
 |_=>False
def zU(I:Inv X pins σ H s)(r:RelV x v)(ty:tyV X.K T x H) :
  s.TypeIs v T/\∀a,v=.ref a->∃ob,s.heap.get? a=!ob/\ob.dict=none:=by
 cases x with
 | str z=>
  obtain⟨t,rfl⟩:=r;cases (show T = "str" from ty);exact{typeIs_str s z t,λ_ e=>nomatch e}
 | int i=>
  obtain⟨t,rfl⟩:=r;cases (show T = "int" from ty);exact{typeIs_int s i t,λ_ e=>nomatch e}
 | ref p=>
  cases r;rcases ty with ⟨rfl,xs,f⟩|⟨rfl,o,b,g,hd⟩|⟨rfl,b⟩|⟨rfl,S,n,b⟩
  .obtain⟨its,_,pl,_⟩:=I.list f;refine{pl.isList.typeIs,λa e=>?_};cases e;obtain⟨o,n,e,c,hd,_⟩:=pl;exact{(o),e,hd}
  .refine{{o,I.kIn p o b,g},λa e=>?_};cases e;exact{o,I.kIn _ o b,hd}
  .have z:∃o,s.heap.get? p=!o/\o.ExactDict:=by
    rcases b with ⟨kvs,b⟩|⟨kvs,b⟩
    .obtain⟨_,_,_,_,o,_,_,e,ex,_⟩:=I.hok p _ b;exact{(o),e,ex}
    .obtain⟨_,_,_,_,o,_,_,e,ex,_⟩:=I.hok p _ b;exact{(o),e,ex}
   obtain⟨o,e,ex⟩:=z;refine{{(o),e,ex.1},λa d=>?_};cases d;exact{(o),e,ex.2.1}
  .obtain⟨o,_,_,_,e,ex,_⟩:=I.hok p _ b;refine{{(o),e,ex.1},λa d=>?_};cases d;exact{(o),e,ex.2.1}
 |_=>exact False.elim ty
def KD(K:Frag)(T:String)(r:V->↥V->Hp->VK->Prop)(to:TE):TE:=λσ H Q=>to σ H λx H1=>tyV K T x H1/\r x [] H1 Q
def tBM(K:Frag)(T:String)(r:V->↥V->Hp->VK->Prop)(to:TE)(t:TA):TE:=λσ H Q=>to σ H λx H1=>tyV K T x H1/\t σ H1 λxs H2=>r x xs H2 Q
variable {o:Expr} {es:↥Expr} {to:TE} {t:TA} {name:Str}  {id:String} {r:V->↥V->Hp->VK->Prop}
def GT(i:PlainAttrs T)(slot:Slot T name id)(c:typeOf (.builtin id)=pure (.type "method_descriptor"))(k:MtR X id r)(j:PE X o to)
  (b:autoParam (attributeBase o name X.env (eval o X.env)=eval o X.env) L2.aR._auto_1) (a:autoParam ((apos.endLine==cpos.line)=true) L2.aR._auto_1):PE X (.Call (.Attribute o name apos) [] [] cpos) (KD X.K T r to):=by
 intro pins s σ H Q I h;refine wpAny_Call_method0_late b a (thn (j pins s σ H _ I h) λv f y=>?_);obtain⟨x,H1,e,d,ty,g⟩:=y;obtain⟨h1,h2⟩:=zU e d ty;exact{T,id,i,slot,c,h1,h2,abd rfl (PySem.evalArgs_none (k pins f σ H1 x [] v [] Q e d .nil g))}
def Lp(q:PlainAttrs T)(slot:Slot T name id)(f:typeOf (.builtin id)=pure (.type "method_descriptor"))(w:MtR X id r)(u:PE X o to)(y:PA X (e::es) t)
  (c:autoParam (attributeBase o name X.env (eval o X.env)=eval o X.env) L2.aR._auto_1)
  (d:autoParam (((backTo cpos (starEach (e::es) X.env)).all (λx=>⇑x.1)&&(backToKw cpos (keywordEach [] X.env)).all (λx=>x.1.isSome)
   && decide ((e::es).length+([]:↥Keyword).length+(if ([]:↥Keyword).isEmpty then 0 else 1)<30))=true) L2.aR._auto_1)
  (b:autoParam ((apos.endLine==cpos.line)=true) L2.aR._auto_1) (hs:autoParam (starEach (e::es) X.env=(false,eval e X.env)::starEach es X.env) L2.aR._auto_1) (a:autoParam ((backTo cpos (starEach es X.env)).any (·.1)=false) L2.aR._auto_1) :
  PE X (.Call (.Attribute o name apos) (e::es) [] cpos) (tBM X.K T r to t):=by
 intro pins s σ H Q I h;refine wpAny_Call_method_late c d b rfl (thn (u pins s σ H _ I h) λv l A=>?_);obtain⟨x,H1,j,g,ty,p⟩:=A;obtain⟨h1,h2⟩:=zU j g ty;refine{T,id,q,slot,f,h1,h2,?_};have i:=y cpos pins l σ H1 _ j p;rw[hs] at i ⊢;refine abd (by show (false || (backTo cpos (starEach es X.env)).any (·.1))=false;rw[a] <;> rfl) (Calls.evalArgs_plain ?_);exact thn i λus k {(vs),H2,z,m,n}=>w pins k σ H2 x vs v us Q z g m n
/- xs.append(e),list.index on a module's tuple .. are MtR facts of 06m -/
end
def MtM(X:Cx)(id:String)(r:V->↥V->Hp->VK->Prop):Prop:=
 ∀(pins:↥(Addr×Obj)) (s:Shared) (σ:St) (H:Hp) (x:V) (xs:↥V) (v:Value) (us:↥Value) (Q:VK),Inv X pins σ H s->RelV x v->Vals xs us->r x xs H Q ->
  wpAny (model X.prog X.w) X.A (call (.builtin id) (v::us)) (EP X pins σ Q) X.xe s
def Vals.one(h:Vals [x] us):∃u,us=[u]/\RelV x u:=by
 cases h with|cons r t=>cases t;exact{_,rfl,r}
theorem Vals.zero:∀{us:↥Value},Vals [] us->us=[]
 |_,.nil=>rfl
def Vals.dropLast{xs:↥V}(h:Vals xs us):Vals xs.dropLast us.dropLast:=by
 induction h with
 |nil=>exact .nil
 | cons r t a=>
  cases t with
  |nil=>exact .nil
  |cons q t'=>exact .cons r a
def pV(l:↥α):l.eraseIdx (l.length - 1)=l.dropLast:=by
 induction l with
 |nil=>rfl
 | cons a r c=>
  cases r with
  |nil=>rfl
  | cons b r=>
   have e:(a::b::r).length - 1=((b::r).length - 1)+1:=by
    have h1:(a::b::r).length=r.length+2:=rfl;have h2:(b::r).length=r.length+1:=rfl;nofun
   rw[e,List.eraseIdx_cons_succ,c]
   all_goals rfl
section
variable      {l:Addr} {xs zs:↥V}
def Inv.lset{f:Array Value->Array Value}(I:Inv X pins σ H s)(i:H l=!(.lst xs))
  (e:s.heap.get? l=some { cls:=.type "list", data:=.seq its.toArray n }) (d:f its.toArray=its'.toArray) (b:Vals ys its') (a:ys.length<=sizeLine) :
  Inv X pins σ (upd H l (.lst ys)) { s with heap:=s.heap.update l (Obj.mapSeq f),toks:=t' }:=by
 have q:=PySem.IsL.update e f;rw[d] at q;refine I.write (x:=l) (e:=l) (by rw[i];exact trivial) (.inl rfl) (λj u g c=>(Heap.get?_update_other s.heap (Obj.mapSeq f) (abz g)).trans c) {_,q} ?_;exact{a,its',_,b,q}
def Inv.lnew(I:Inv X pins σ H s)(b:Vals ys its)(a:ys.length<=sizeLine) :
  Inv X pins σ (upd H s.heap.objs.size (.lst ys)) { s with heap:=s.heap.push { cls:=.type "list", data:=.seq its.toArray },toks:=t' }:=-
 I.laid (λ_ _ q=>Heap.get?_push_of_some _ q) (aac _) {a,its,0,b,Heap.get?_push_size _ rfl}
def Inv.fresh(I:Inv X pins σ H s):H s.heap.objs.size=none:=-I.hok.fresh (aac _)
def Inv.lstM(I:Inv X pins σ H s)(a:H l=!(.lst xs)):xs.length<=sizeLine/\∃(its:↥Value) (n:Nat),Vals xs its/\xs.length=its.length/\s.heap.get? l=some { cls:=.type "list", data:=.seq its.toArray n }:=by
 obtain⟨z,its,n,r,e⟩:=I.hok l _ a;exact{(z),its,n,r,r.length,e}
end
def dY:V->↥V->Hp->VK->Prop:=λx vs H Q=>∃l xs y,x=.ref l/\vs=[y]/\H l=!(.lst xs)/\xs.length<sizeLine/\Q .non (upd H l (.lst (xs++[y])))
def lb:MtM X "list.append" dY:=by
 intro pins s σ H x vs v us Q I b c h;obtain⟨l,xs,y,rfl,rfl,a,f,q⟩:=h;cases b;obtain⟨u,rfl,d⟩:=c.one;obtain⟨z,its,n,r,g,e⟩:=I.lstM a;refine call_meets F.slot_list_append {_,e,rfl} F.entry_list_append (F.args_list_append_2 _ _) (PySem.list_append l its.toArray n u (by rw[abY];nofun)) {e,?_};refine{.non,_,I.lset (its':=its++[u]) a e (by simp) (r.append (.cons d .nil)) ?_,rfl,q};rw[aag,aaQ];nofun
def Lq:V->↥V->Hp->VK->Prop:=λx vs H Q=>∃l xs y,x=.ref l/\vs=[]/\H l=!(.lst xs)/\xs[xs.length - 1]?=!y/\Q y (upd H l (.lst xs.dropLast))
def GU:MtM X "list.pop" Lq:=by
 intro pins s σ H x vs v us Q I d f h;obtain⟨l,xs,y,rfl,rfl,c,i,q⟩:=h;cases d;have b:=f.zero;subst b;obtain⟨z,its,n,r,k,e⟩:=I.lstM c;obtain⟨u,j,g⟩:=r.get i
 have a:its.toArray[its.toArray.size - 1]?=!u:=by
  show its.toArray[its.length - 1]?=!u;rw[← Array.getElem?_toList,← k];exact j
 refine call_meets F.slot_list_pop {_,e,rfl} F.entry_list_pop (F.args_list_pop_1 _) (MeetsSeq.list_pop_last l its.toArray n u a (by rw[abY];nofun)) {e,?_};refine{y,_,I.lset (its':=its.dropLast) c e ?_ r.dropLast ?_,g,q}
 .show its.toArray.eraseIdxIfInBounds (its.toArray.size - 1)=its.dropLast.toArray;rw[abY,List.eraseIdxIfInBounds_toArray,pV]
 .rw[List.length_dropLast];nofun
section
variable {prog:Program}    
end
section
variable {κ:Type} [DecidableEq κ]
def gC(kvs:↥(κ×V))(k:κ):Option V:=(kvs.find? λa=>decide (a.1=k)).map (·.2)
def ia(kvs:↥(κ×V))(k:κ)(v:V):↥(κ×V):=
 if (kvs.any λa=>decide (a.1=k))=true then kvs.map (λa=>if a.1=k then (a.1,v) else a) else kvs++[(k,v)]
def jb(kvs:↥(κ×V))(k:κ):↥(κ×V):=kvs.filter λa=>decide (a.1≠k)
def gH{p:κ×V}{r:↥(κ×V)}{k:κ}(e:p.1=k):gC (p::r) k=!p.2:=by simp[gC,List.find?_cons,e]
def gI{p:κ×V}{r:↥(κ×V)}{k:κ}(e:¬p.1=k):gC (p::r) k=gC r k:=by simp[gC,List.find?_cons,e]
theorem gJ(k:κ):∀kvs:↥(κ×V),(kvs.any λkv=>decide (kv.1=k))=(gC kvs k).isSome
 |[]=>rfl
 | p::r=>by
  rw[abB];by_cases e:p.1=k
  .simp only[gH e,decide_eq_true e,Bool.true_or,Option.isSome_some]
  .rw[gI e,decide_eq_false e,Bool.false_or];exact gJ k r
def eV(kvs:↥(κ×V))(k:κ)(v:V):(ia kvs k v).length<=kvs.length+1:=by
 unfold ia;split
 .rw[abP];nofun
 .rw[aag,abX,abA];nofun
def RelO.isSome_eq{u:Option Value}(r:RelO o u):o.isSome=u.isSome:=by
 cases o with
 | none=>cases u with
  |none=>rfl
  |some _=>exact (show False from r).elim
 | some _=>cases u with
  |none=>exact (show False from r).elim
  |some _=>rfl
def RelO.getD{u:Option Value}{d':Value}(r:RelO o u)(rd:RelV d d'):RelV (o.getD d) (u.getD d'):=by
 cases o with
 | none=>cases u with
  |none=>exact rd
  |some _=>exact (show False from r).elim
 | some _=>cases u with
  |none=>exact (show False from r).elim
  |some _=>exact r
def KV.val{kvs:↥(κ×V)}{vs:↥(κ×Value)}(r:KV kvs vs)(k:κ):RelO (gC kvs k) (valueAt vs k):=by
 unfold KV at r
 induction r with
 |nil=>exact True.intro
 | @cons p q ps a h t d=>
  obtain⟨h1,h2⟩:=h;by_cases e:p.1=k
  .have c:q.1=k:=h1.symm.trans e;have b:valueAt (q::a) k=!q.2:=by simp[valueAt,List.find?_cons,c]
   rw[gH e,b];exact h2
  .have c:¬q.1=k:=λz=>e (h1.trans z);have b:valueAt (q::a) k=valueAt a k:=by simp[valueAt,List.find?_cons,c]
   rw[gI e,b];exact d
def KV.any{kvs:↥(κ×V)}{vs:↥(κ×Value)}(r:KV kvs vs)(k:κ):(kvs.any λkv=>decide (kv.1=k))=vs.any λkv=>decide (kv.1=k):=by
 unfold KV at r
 induction r with
 |nil=>rfl
 |cons h t a=>rw[abB,abB,a,h.1]
def KV.repl{kvs:↥(κ×V)}{vs:↥(κ×Value)}(r:KV kvs vs)(k:κ)(a:RelV y u) :
  KV (kvs.map λkv=>if kv.1=k then (kv.1,y) else kv) (vs.map λkv=>if kv.1=k then (kv.1,u) else kv):=by
 unfold KV at r ⊢
 induction r with
 |nil=>exact .nil
 | @cons p q ps c h t b=>
  rw[abT,abT];refine .cons ?_ b;obtain⟨h1,h2⟩:=h;by_cases e:p.1=k
  .rw[if_pos e,if_pos (h1.symm.trans e)];exact{(h1),a}
  .rw[if_neg e,if_neg (λz=>e (h1.trans z))];exact{(h1),h2}
def KV.put{kvs:↥(κ×V)}{vs:↥(κ×Value)}(r:KV kvs vs)(k:κ)(a:RelV y u):KV (ia kvs k y) (stored vs k u):=by
 unfold ia stored;rw[r.any k];by_cases e:(vs.any λb=>decide (b.1=k))=true
 .rw[if_pos e,if_pos e];exact r.repl k a
 .rw[if_neg e,if_neg e];exact Paired.snoc r {(rfl),a}
def KV.drop{kvs:↥(κ×V)}{vs:↥(κ×Value)}(r:KV kvs vs)(k:κ):KV (jb kvs k) (without vs k):=by
 unfold KV at r ⊢;unfold jb without
 induction r with
 |nil=>exact .nil
 | @cons p q ps f h t c=>
  obtain⟨h1,h2⟩:=h;rw[List.filter_cons,List.filter_cons];by_cases e:p.1=k
  .have a:¬decide (p.1≠k)=true:=by simp[e]
   have b:¬decide (q.1≠k)=true:=by simp[h1.symm.trans e]
   rw[if_neg a,if_neg b];exact c
  .have d:¬q.1=k:=λz=>e (h1.trans z);have a:decide (p.1≠k)=true:=by simp[e]
   have b:decide (q.1≠k)=true:=by simp[d]
   rw[if_pos a,if_pos b];exact .cons {(h1),h2} c
def KV.length{kvs:↥(κ×V)}{vs:↥(κ×Value)}(r:KV kvs vs):kvs.length=vs.length:=-aa4 r
def nH(kvs:↥(κ×V))(k:κ):(jb kvs k).length<=kvs.length:=-aa6 _ _
end
def jc(r:RelV (kV k) u):(aw P w).is k u=true:=by
 cases k with
 |inl i=>obtain⟨t,e⟩:=(show ∃t,u=Value.int i t from r);subst e;exact mq P w i t
 |inr x=>obtain⟨t,e⟩:=(show ∃t,u=Value.str x t from r);subst e;exact mr P w x t
theorem lc{P:Program}{w:World}:∀{ks:↥Key} {us:↥Value},Vals (ks.map kV) us->ItemsAre (aw P w) ks us
 |[],_,r=>by rw[List.map_nil] at r;cases r;exact .nil
 | k::ks,_,r=>by
  rw[abT] at r
  cases r with
  |cons h t=>exact .cons (jc h) (lc t)
abbrev KT(H:Hp):↥(↥Key×V)->↥(↥Key×Addr×Value)->Prop:=Paired λp q=>p.1=q.1/\H q.2.1=!(.tup (p.1.map kV))/\RelV p.2 q.2.2
def KT.val(r:KT H kvs xs)(k:↥Key):RelO (gC kvs k) ((atKey xs k).map (·.2)):=by
 induction r with
 |nil=>exact True.intro
 | @cons p q ps a h t d=>
  obtain⟨h1,_,h2⟩:=h;by_cases e:p.1=k
  .have c:q.1=k:=h1.symm.trans e;have b:atKey (q::a) k=!q.2:=by simp[atKey,List.find?_cons,c]
   rw[gH e,b];exact h2
  .have c:¬q.1=k:=λz=>e (h1.trans z);have b:atKey (q::a) k=atKey a k:=by simp[atKey,List.find?_cons,c]
   rw[gI e,b];exact d
def KT.repl(r:KT H kvs xs)(k:↥Key)(a:RelV y u) :
  KT H (kvs.map λkv=>if kv.1=k then (kv.1,y) else kv) (xs.map (putAt k u)):=by
 induction r with
 |nil=>exact .nil
 | @cons p q ps d h t b=>
  rw[abT,abT];refine .cons ?_ b;obtain⟨h1,h2,c⟩:=h;unfold putAt;by_cases e:p.1=k
  .rw[if_pos e,if_pos (h1.symm.trans e)];exact{(h1),h2,a}
  .rw[if_neg e,if_neg (λz=>e (h1.trans z))];exact{(h1),h2,c}
def KT.put(r:KT H kvs xs)(k:↥Key)(d:H b=!(.tup (k.map kV)))(a:RelV y u) :
  KT H (ia kvs k y) (storedH xs k b u):=by
 have e:(kvs.any λc=>decide (c.1=k))=(atKey xs k).isSome:=by
  rw[gJ,(r.val k).isSome_eq,Option.isSome_map]
 unfold ia storedH;rw[e];by_cases q:(atKey xs k).isSome=true
 .rw[if_pos q,if_pos q];exact r.repl k a
 .rw[if_neg q,if_neg q];exact Paired.snoc r {(rfl),d,a}
def KT.keeps(r:KT H kvs xs)(a:∀b ys,H b=!(.tup ys)->H' b=!(.tup ys)):KT H' kvs xs:=-
 Paired.mapP r λ_ _ z=>{z.1,a _ _ z.2.1,z.2.2}
section
variable    {h:Heap} 
def GV{u:HO}(ok:HOk P w H h)(e:Rd H a u):ObjOk P w H h a u:=-e.ok ok
def jd{kvs:↥(Key×V)}(ok:HOk P w H h)(e:Rd H a (.dK kvs)):kvs.length<=sizeLine/\(a==sysModules)=false/\∃vs,KV kvs vs/\h.DictOf (aw P w) a vs:=-
 show ObjOk P w H h a (.dK kvs) from GV ok e
def rF{kvs:↥(Key×V)}(ok:HOk P w H h)(e:H a=!(.dK kvs)):kvs.length<=sizeLine/\(a==sysModules)=false/\∃vs,KV kvs vs/\h.DictOf (aw P w) a vs:=-jd ok (.inl e)
def jr{ks:↥Key}(ok:HOk P w H h)(e:H a=!(.tup (ks.map kV))):(tupleKind (aw P w)).is h ks a:=by
 obtain⟨_,its,r,o,h1,h2,n,b⟩:=(show ObjOk P w H h a (.tup (ks.map kV)) from ok a _ e);exact{o,its.toArray,n,h1,h2,b,by simpa using lc r}
def mG(ok:HOk P w H h)(e:Rd H a (.dT kvs)):kvs.length<=sizeLine/\(a==sysModules)=false /\
  ∃xs,KT H kvs xs/\h.DictOfH (tupleKind (aw P w)) a xs:=by
 obtain⟨z,y,xs,r,o,es,ep,h1,h2,i,g,f⟩:=(show ObjOk P w H h a (.dT kvs) from GV ok e);refine{z,y,xs,r,o,es,ep,h1,h2,i,g,λx b=>?_,f}
 have all:∀{l:↥(↥Key×V)} {m:↥(↥Key×Addr×Value)},KT H l m->∀x∈m,(tupleKind (aw P w)).is h x.1 x.2.1:=by
  intro l m q
  induction q with
  |nil=>intro x b;exact nomatch b
  | @cons p q ps j c t d=>
   intro x b;rcases abS.mp b with e|b
   .subst e;exact jr ok (by rw[← c.1];exact c.2.1)
   .exact d x b
 exact all r x b
def Lr(ok:HOk P w H h)(e:H a=!(.dT kvs)):kvs.length<=sizeLine/\(a==sysModules)=false /\
  ∃xs,KT H kvs xs/\h.DictOfH (tupleKind (aw P w)) a xs:=-mG ok (.inl e)
end
def DGet(H:Hp)(a:Addr)(y:V)(r:Option V):Prop:=
 (∃kvs k,Rd H a (.dK kvs)/\y=kV k/\r=gC kvs k)∨∃kvs k b,Rd H a (.dT kvs)/\y=.ref b/\H b=!(.tup (k.map kV))/\r=gC kvs k
def MP(H:Hp)(a:Addr)(y v:V)(H':Hp):Prop:=
 (∃kvs k,H a=!(.dK kvs)/\y=kV k/\kvs.length<sizeLine/\H'=upd H a (.dK (ia kvs k v))) ∨
 ∃kvs k b,H a=!(.dT kvs)/\y=.ref b/\H b=!(.tup (k.map kV))/\kvs.length<sizeLine/\H'=upd H a (.dT (ia kvs k v))
section
variable       {v:V} {r:Value}   
def Inv.big(I:Inv X pins σ H s):sysModules<s.heap.objs.size:=by
 have h:mainGlobals<s.heap.objs.size:=(I.mod.glob.keeps I.bk).lt;exact acf (by decide) h
def rG(q:A.units+1<cLine)(I:Inv X pins σ H s)(g:DGet H a y !v)(n:RelV y u)(h:∀d s',Inv X pins σ H s'->RelV v d->Q d s') :
  wpAny (model X.prog X.w) A (getItem (.ref a) u) Q E s:=by
 rcases g with ⟨kvs,k,e,j,l⟩|⟨kvs,k,b,e,j,t,l⟩
 .subst j;obtain⟨z,hd,vs,rel,m⟩:=jd I.hok e;obtain⟨d,f,c⟩:=RelO.some_of (v:=v) (o:=valueAt vs k) (by rw[l];exact rel.val k);exact wpAny_getItem_of (jc n) m.mapOf f (h d _ (I.tok _) c)
 .subst j;cases (show u=Value.ref b from n);obtain⟨z,hd,xs,rel,m⟩:=mG I.hok e;obtain⟨d,f,c⟩:=RelO.some_of (v:=v) (o:=(atKey xs k).map (·.2)) (by rw[l];exact rel.val k);obtain⟨p,r,i⟩:=Option.map_eq_some_iff.mp f;refine wpAny_getItem_heap (tupleKind_room_in1 q) (jr I.hok t) m r ?_;rw[i];exact h d _ (I.tok _) c
def d_in(i:A.units+1<cLine)(I:Inv X pins σ H s)(g:DGet H a y o)(f:RelV y u)(h:∀s',Inv X pins σ H s'->Q (.bool o.isSome) s') :
  wpAny (model X.prog X.w) A (compareOp .In u (.ref a)) Q E s:=by
 rcases g with ⟨kvs,k,e,c,l⟩|⟨kvs,k,b,e,c,j,l⟩
 .subst c;obtain⟨z,hd,vs,rel,d⟩:=jd I.hok e;refine wpAny_in_of (jc f) hd d.mapOf ?_;rw[← (rel.val k).isSome_eq,← l];exact h _ (I.tok _)
 .subst c;cases (show u=Value.ref b from f);obtain⟨z,hd,xs,rel,d⟩:=mG I.hok e;refine wpAny_in_heap (tupleKind_room_in1 i) (jr I.hok j) hd d ?_;have q:=(rel.val k).isSome_eq;rw[Option.isSome_map] at q;rw[← q,← l];exact h _ (I.tok _)
def BV(i:A.units+1<cLine)(I:Inv X pins σ H s)(g:DGet H a y o)(f:RelV y u)(h:∀s',Inv X pins σ H s'->Q (.bool (⇑o.isSome)) s') :
  wpAny (model X.prog X.w) A (compareOp .NotIn u (.ref a)) Q E s:=by
 rcases g with ⟨kvs,k,e,c,l⟩|⟨kvs,k,b,e,c,j,l⟩
 .subst c;obtain⟨z,hd,vs,rel,d⟩:=jd I.hok e;refine wpAny_notIn_of (jc f) hd d.mapOf ?_;rw[← (rel.val k).isSome_eq,← l];exact h _ (I.tok _)
 .subst c;cases (show u=Value.ref b from f);obtain⟨z,hd,xs,rel,d⟩:=mG I.hok e;refine wpAny_notIn_heap (tupleKind_room_in1 i) (jr I.hok j) hd d ?_;have q:=(rel.val k).isSome_eq;rw[Option.isSome_map] at q;rw[← q,← l];exact h _ (I.tok _)
def fP{ob:HO}(I:Inv X pins σ H s)(c:Mut (H a))(hs:Heap.SameBut a s.heap h')(d:∃q,h'.get? a=!q)(new:ObjOk X.prog X.w (upd H a ob) h' a ob) :
  Inv X pins σ (upd H a ob) { s with heap:=h',toks:=t' }:=-
 I.write (x:=a) (e:=a) c (.inl rfl) (λb q f z=>(hs.2 b f).trans z) d new
def ib{kvs:↥(Key×V)}{vs:↥(Key×Value)}(z:kvs.length<=sizeLine)(hd:(a==sysModules)=false)(rel:KV kvs vs)(b:h'.DictOf (aw P w) a vs) :
  ObjOk P w H' h' a (.dK kvs):=-{(z),hd,vs,rel,b}
def rH{Q:Unit->Shared->Prop}(B:A.units+1<cLine)(I:Inv X pins σ H s)(g:MP H a y v H')(p:RelV y u)(t:RelV v r)(h:∀s',Inv X pins σ H' s'->Q PUnit.unit s') :
  wpAny (model X.prog X.w) A (setItem (.ref a) u r) Q E s:=by
 rcases g with ⟨kvs,k,e,m,l,n⟩|⟨kvs,k,b,e,m,x,l,n⟩
 .subst m n;obtain⟨z,hd,vs,rel,o⟩:=rF I.hok e;have i:vs.length<=sizeLine:=by rw[← rel.length];exact z
  have j:(ia kvs k v).length<=sizeLine:=by have:=eV kvs k v;nofun
  refine wpAny_setItem_pairs (hsz:=i) (jc p) o λh' d hs=>h _ ?_;have C:∃q,h'.get? a=!q:=let ⟨q,_,_,f,_⟩:=d;{(q),f};exact fP I (by rw[e];exact True.intro) hs C (ib j hd (rel.put k t) d)
 .subst m n;cases (show u=Value.ref b from p);obtain⟨z,hd,xs,rel,o⟩:=Lr I.hok e;have i:xs.length<=sizeLine:=by rw[← aa4 rel];exact z
  have j:(ia kvs k v).length<=sizeLine:=by have:=eV kvs k v;nofun
  refine wpAny_setItem_heap (hsz:=i) (tupleKind_room_in1 B) (jr I.hok x) o λh' d hs=>h _ ?_;obtain⟨q,es,ep,f,h2,G,F,_,D⟩:=d;refine fP I (by rw[e];exact True.intro) hs {(q),f} {j,hd,_,(rel.put k x t).keeps λc ys w=>?_,q,es,ep,f,h2,G,F,D};rw[aj (KU w e (λz=>nomatch z))];exact w
end
section
variable       {kvs:↥(Key×V)}    
def GW{Q:Unit->Shared->Prop}(I:Inv X pins σ H s)(e:H a=!(.dK kvs))(d:RelV (kV k) u)(l:(gC kvs k).isSome=true)(h:∀s',Inv X pins σ (upd H a (.dK (jb kvs k))) s'->Q PUnit.unit s') :
  wpAny (model X.prog X.w) A (delItem (.ref a) u) Q E s:=by
 obtain⟨z,hd,vs,rel,c⟩:=rF I.hok e
 refine wpAny_delItem_slot c.typeIs (by decide) PySem.F.slot_dict_delitem
  (call_meetsIn PySem.F.slot_dict_delitem c.typeIs PySem.F.entry_dict_delitem (PySem.F.args_dict_delitem_2 _ _) (meets_dict_delitem_pairs (aw X.prog X.w) a (jc d)) {vs,c,by rw[← rel.length];exact z,by rw[← (rel.val k).isSome_eq];exact l,λh' b hs=>h _ ?_})
 have g:∃q,h'.get? a=!q:=let ⟨q,_,_,f,_⟩:=b;{(q),f};exact fP I (by rw[e];exact True.intro) hs g (ib (aar (nH kvs k) z) hd (rel.drop k) b)
def Ls{v:V}{more:↥Value}(I:Inv X pins σ H s)(e:H a=!(.dK kvs))(d:RelV (kV k) u)(l:gC kvs k=!v)(g:more=[]∨∃x,more=[x])
  (h:∀b s',Inv X pins σ (upd H a (.dK (jb kvs k))) s'->RelV v b->Q b s'):wpAny (model X.prog X.w) A (call (.builtin "dict.pop") (.ref a::u::more)) Q E s:=by
 obtain⟨z,hd,vs,rel,j⟩:=rF I.hok e;obtain⟨b,m,f⟩:=RelO.some_of (v:=v) (o:=valueAt vs k) (by rw[← l];exact rel.val k)
 have p:(keyPart u).isSome=true:=by
  cases k with
  |inl i=>obtain ⟨t,q⟩:=(show ∃t,u=Value.int i t from d);subst q;rfl
  |inr x=>obtain ⟨t,q⟩:=(show ∃t,u=Value.str x t from d);subst q;rfl
 have w:argsOk "dict.pop" {.ref a::u::more,[]}:=by
  rcases g with q|⟨x,q⟩
  .subst q;exact PySem.F.args_dict_pop_2 _ _
  .subst q;exact PySem.F.args_dict_pop_3 _ _ _
 refine call_meetsIn PySem.F.slot_dict_pop j.typeIs PySem.F.entry_dict_pop w (meets_dict_pop_there (aw X.prog X.w) a (jc d) more g p)
  {vs,b,j,by rw[← rel.length];exact z,m,λh' c hs=>h b _ ?_ f}
 have r:∃q,h'.get? a=!q:=let ⟨q,_,_,n,_⟩:=c;{(q),n};exact fP I (by rw[e];exact True.intro) hs r (ib (aar (nH kvs k) z) hd (rel.drop k) c)
def Lu(I:Inv X pins σ H s)(e:Rd H a (.dK kvs))(h:∀t s',Inv X pins σ H s'->Q (.int kvs.length t) s'):wpAny (model X.prog X.w) A (call (.builtin "len") [.ref a]) Q E s:=by
 obtain⟨z,hd,vs,rel,b⟩:=jd I.hok e;refine call_len_dict hd b (by rw[← rel.length];rw[sizeLine_eq] at z;nofun) ?_;rw[← rel.length];exact h _ _ (I.tok _)
end
def mH(I:Inv X pins σ H s)(g:DGet H a y o):s.TypeIs (.ref a) "dict" := by
 rcases g with ⟨kvs,k,e,_,_⟩|⟨kvs,k,b,e,_,_,_⟩
 .obtain⟨_,_,vs,_,c⟩:=jd I.hok e;exact c.typeIs
 .obtain⟨_,_,xs,_,c⟩:=mG I.hok e;exact c.typeIs
def wu(td ty tv:TE):TS:=λD σ H=>tv σ H λv H1=>td σ H1 λx H2=>ty σ H2 λy c=>∃a b,x=.ref a/\MP c a y v b/\D.nx σ b
section
variable  {o i value:Expr} {pos' tpos:Pos} 
def BX(n:X.A.units+1<cLine)(p:PE X o td)(hi:PE X i ty)(m:PE X value tv)(hs:swapsWith value ↑(.Subscript o i pos') pos.line X.env=pure false) :
  PS X (.Assign [.Subscript o i pos'] value pos) (wu td ty tv):=by
 intro pins s σ H D I h;refine wpAny_Assign_Subscript (thn (m pins s σ H _ I h) λr c {(v),H1,z,f,l}=>thn (p pins c σ H1 _ z l) λu b {(x),H2,w,e,k}=>thn (hi pins b σ H2 _ w k) λE C r=>?_) hs;obtain⟨y,F,t,d,a,A,ex,g,j⟩:=r;subst ex;obtain rfl:u=Value.ref a:=e;exact rH n t g d f λB q=>{(σ),A,q,j}
end
def nI(h:Heap)(a:sysModules<h.objs.size):ObjOk P w H (h.push { cls:=.type "dict", data:=.dict #[] }) h.objs.size (.dK []):=-
 {aan _,beq_eq_false_iff_ne.mpr (abz (aam a)),[],.nil,Heap.DictOf.new h}
def wv(h:Heap)(a:sysModules<h.objs.size):ObjOk P w H (h.push { cls:=.type "dict", data:=.dict #[] }) h.objs.size (.dT []):=-
 {aan _,beq_eq_false_iff_ne.mpr (abz (aam a)),[],.nil,_,#[],0,Heap.get?_push_size _ rfl,{(rfl),rfl,rfl},rfl,rfl,aaH}
def rJ:TE:=λ_ H Q=>∀p,H p=none->Q (.ref p) (upd H p (.dK []))
def rK:TE:=λ_ H Q=>∀p,H p=none->Q (.ref p) (upd H p (.dT []))
def ww:PE X (.Dict [] [] pos) rJ:=-λpins s σ H Q I h=>
 wpAny_Dict_empty {.ref s.heap.objs.size,_,I.laid (a:=s.heap.objs.size) (o:=.dK []) (t':=s.toks) (λ_ _ q=>Heap.get?_push_of_some _ q) (aac _) (nI s.heap I.big),rfl,h _ (I.hok.fresh (aac _))}
def wx:PE X (.Dict [] [] pos) rK:=-λpins s σ H Q I h=>
 wpAny_Dict_empty {.ref s.heap.objs.size,_,I.laid (a:=s.heap.objs.size) (o:=.dT []) (t':=s.toks) (λ_ _ q=>Heap.get?_push_of_some _ q) (aac _) (wv s.heap I.big),rfl,h _ (I.hok.fresh (aac _))}
def rL:↥(TE×TE)->St->Hp->(↥(V×V)->Hp->Prop)->Prop
 |[],_,H,Q=>Q [] H
 |(tk,tv)::r,σ,H,Q=>tk σ H λx H1=>tv σ H1 λy H2=>rL r σ H2 λps a=>Q ((x,y)::ps) a
abbrev VV:↥(V×V)->↥(Value×Value)->Prop:=Paired λp q=>RelV p.1 q.1/\RelV p.2 q.2
def PPs(X:Cx)(pos:Pos)(keys:↥(Option Expr))(values:↥Expr)(trs:↥(TE×TE)):Prop:=
 ∀(pins:↥(Addr×Obj)) (s:Shared) (σ:St) (H:Hp) (Q:↥(V×V)->Hp->Prop),Inv X pins σ H s->rL trs σ H Q ->
  wpAny (model X.prog X.w) X.A (evalPairs (pairTrees keys values X.env pos)) (λvs s'=>∃ps H',Inv X pins σ H' s'/\VV ps vs/\Q ps H') X.xe s
def BY :PPs X pos [] [] []:=-λpins s σ H Q I h=>pairTrees_nil_walk {[],H,I,.nil,h}
def wy{k v:Expr}{ks:↥(Option Expr)}{vs:↥Expr}{tk:TE}(j:PE X k tk)(i:PE X v tv)(hr:PPs X pos ks vs trs) :
  PPs X pos (↑k::ks) (v::vs) ((tk,tv)::trs):=-λpins s σ H Q I h=>
 pairTrees_cons_walk (thn (j pins s σ H _ I h) λu b {(x),H1,n,d,g}=>thn (i pins b σ H1 _ n g) λq a {(y),H2,m,c,f}=>
  thn (hr pins a σ H2 _ m f) λp r {(ps),o,l,rel,e}=>{(x,y)::ps,o,l,.cons {(d),c} rel,e})
def fA(kvs more:↥(Key×V)):↥(Key×V):=more.foldl (λacc a=>ia acc a.1 a.2) kvs
def KV.merge:∀{more:↥(Key×V)} {a:↥(Key×Value)} {kvs:↥(Key×V)} {vs:↥(Key×Value)},KV more a->KV kvs vs->KV (fA kvs more) (merged vs a):=by
 intro more a kvs vs r;unfold KV at r
 induction r generalizing kvs vs with
 |nil=>intro q;exact q
 | @cons p q ps d h t c=>
  intro b
  have e:KV (ia kvs p.1 p.2) (stored vs q.1 q.2):=by
   have:=b.put p.1 h.2;rw[← h.1];exact this
  exact c e
theorem de:∀(more kvs:↥(Key×V)),(fA kvs more).length<=kvs.length+more.length
 |[],kvs=>by show kvs.length<=kvs.length+0;nofun
 | p::r,kvs=>by
  have h1:=de r (ia kvs p.1 p.2);have h2:=eV kvs p.1 p.2;show (fA (ia kvs p.1 p.2) r).length<=_;rw[abX];nofun
theorem js{P:Program}{w:World}:∀{kvs:↥(Key×V)} {e:↥(Value×Value)},VV (kvs.map λkv=>(kV kv.1,kv.2)) e->∃d,Carries (aw P w) e d/\KV kvs d
 |[],_,r=>by rw[List.map_nil] at r;cases r;exact{[],True.intro,.nil}
 | p::kvs,_,r=>by
  rw[abT] at r
  cases r with
  | @cons a b as bs h t=>
   obtain⟨d,c,q⟩:=js (P:=P) (w:=w) t;obtain⟨b1,b2⟩:=b;exact{(p.1,b2)::d,{jc h.1,rfl,c},.cons {(rfl),h.2} q}
def BZ(trs:↥(TE×TE)):TE:=λσ H Q=>∀p,H p=none->rL trs σ (upd H p (.dK [])) λps H2=>H2 p=!(.dK [])/\∃kvs:↥(Key×V),ps=kvs.map (λa=>(kV a.1,a.2))/\kvs.length<=15/\Q (.ref p) (upd H2 p (.dK (fA [] kvs)))
def B9{keys:↥(Option Expr)}{values:↥Expr}(h:PPs X pos keys values trs)(b:keys.all (·.isSome)=true)(r:keys.length=values.length)(u:keys≠[])
  (f:keys.length<=15):PE X (.Dict keys values pos) (BZ trs):=by
 intro pins s σ H Q I q;have p:=I.hok.fresh (aac s.heap.objs.size);have x:=I.laid (a:=s.heap.objs.size) (o:=.dK []) (h':=s.heap.push { cls:=.type "dict", data:=.dict #[] }) (t':=s.toks) (λ_ _ q=>Heap.get?_push_of_some _ q) (aac _) (nI s.heap I.big);refine wpAny_Dict_walk (knd:=aw X.prog X.w) b r u f (thn (h pins _ σ _ _ x (q _ p)) λy A y=>?_);obtain⟨ps,H2,g,rel,e,kvs,ep,lk,l⟩:=y;subst ep;obtain⟨j,c,rk⟩:=js (P:=X.prog) (w:=X.w) rel;obtain⟨z,hd,i,k,v⟩:=rF g.hok e;cases k;refine{j,c,v,λh' d hs=>{.ref s.heap.objs.size,_,?_,rfl,l}}
 have m:(fA [] kvs).length<=sizeLine:=by
  have h1:=de kvs [];rw[abA] at h1;rw[sizeLine_eq];nofun
 have t:∃q,h'.get? s.heap.objs.size=!q:=let ⟨q,_,_,n,_⟩:=d;{(q),n};exact fP g (by rw[e];exact True.intro) hs t (ib m hd (rk.merge .nil) d)
structure M1(X:Cx)(o:Expr)(m:Str)(apos:Pos)(e:Expr)(cpos:Pos):Prop where
 base:attributeBase o m X.env (eval o X.env)=eval o X.env
 few:((backTo cpos (starEach [e] X.env)).all (λx=>⇑x.1)&&(backToKw cpos (keywordEach [] X.env)).all (λx=>x.1.isSome)
  && decide (([e]:↥Expr).length+([]:↥Keyword).length+(if ([]:↥Keyword).isEmpty then 0 else 1)<30))=true
 line:(apos.endLine==cpos.line)=true
 trees:backTo cpos (starEach [e] X.env)=[(false,eval e X.env)]
def IsD(H:Hp)(a:Addr):Prop:=(∃kvs,Rd H a (.dK kvs))∨∃kvs,Rd H a (.dT kvs)
def rM(I:Inv X pins σ H s)(d:IsD H a) :
  s.TypeIs (.ref a) "dict" /\ (∀b,Value.ref a=.ref b->∃ob,s.heap.get? b=!ob/\ob.dict=none)/\(a==sysModules)=false:=by
 rcases d with ⟨kvs,e⟩|⟨kvs,e⟩
 .obtain⟨_,hd,vs,_,c⟩:=jd I.hok e;refine{c.typeIs,λb q=>?_,hd};cases q;obtain⟨ob,_,_,h1,h2,_⟩:=c;exact{(ob),h1,h2.2.1}
 .obtain⟨_,hd,xs,_,c⟩:=mG I.hok e;refine{c.typeIs,λb q=>?_,hd};cases q;obtain⟨ob,_,_,h1,h2,_⟩:=c;exact{(ob),h1,h2.2.1}
section
variable        {r:Value}   
def GX(j:A.units+1<cLine)(I:Inv X pins σ H s)(g:DGet H a y o)(i:RelV y u)(h:∀f s',Inv X pins σ H s'->RelV (o.getD .non) f->Q f s') :
  wpAny (model X.prog X.w) A (call (.builtin "dict.get") [.ref a,u]) Q E s:=by
 rcases g with ⟨kvs,k,e,d,l⟩|⟨kvs,k,b,e,d,m,l⟩
 .subst d;obtain⟨z,hd,vs,rel,c⟩:=jd I.hok e;refine call_meetsIn PySem.F.slot_dict_get c.typeIs PySem.F.entry_dict_get (PySem.F.args_dict_get_2 _ _) (meets_dict_get (aw X.prog X.w) a (jc i) hd) {_,c.mapOf,h _ _ (I.tok _) ?_};rw[l];exact(rel.val k).getD rfl
 .subst d;cases (show u=Value.ref b from i);obtain⟨z,hd,xs,rel,c⟩:=mG I.hok e;refine call_meetsIn PySem.F.slot_dict_get c.typeIs PySem.F.entry_dict_get (PySem.F.args_dict_get_2 _ _) (meetsH_dict_get (tupleKind (aw X.prog X.w)) a b hd) {tupleKind_room_in1 j,k,xs,jr I.hok m,c,h _ _ (I.tok _) ?_};rw[l];exact(rel.val k).getD rfl
end
def rN(td ty:TE):TE:=λσ H Q=>td σ H λx H1=>∃a,x=.ref a/\IsD H1 a/\ty σ H1 λy H2=>∃o,DGet H2 a y o/\Q (o.getD .non) H2
def nJ(td ty:TE):TE:=λσ H Q=>td σ H λx H1=>∃a,x=.ref a/\IsD H1 a/\ty σ H1 λy H2=>∃kvs k v,H2 a=!(.dK kvs)/\y=kV k/\gC kvs k=!v/\Q v (upd H2 a (.dK (jb kvs k)))
section
variable  {o f:Expr}  {tx:TE}
def wz(q:X.A.units+1<cLine)(r:PE X o td)(t:PE X e ty)(m:M1 X o "get" apos e cpos):PE X (.Call (.Attribute o "get" apos) [e] [] cpos) (rN td ty):=by
 intro pins s σ H Q I h;refine wpAny_Call_method m.base m.few m.line aby PySem.F.slot_dict_get PySem.F.type_dict_get (thn (r pins s σ H _ I h) λu j z=>?_);obtain⟨x,H1,c,l,a,ex,d,p⟩:=z;subst ex;obtain rfl:u=Value.ref a:=l;obtain⟨i,f,_⟩:=rM c d;refine{i,f,?_};rw[m.trees];refine abd rfl (Calls.evalArgs_plain (Calls.spliced_cons (thn (t pins j σ H1 _ c p) λC B {(y),H2,w,k,ov,g,n}=>Calls.spliced_nil ?_)));exact GX q w g k λz A v b=>{_,H2,v,b,n}
def wA(r:PE X o td)(t:PE X e ty)(m:M1 X o "pop" apos e cpos):PE X (.Call (.Attribute o "pop" apos) [e] [] cpos) (nJ td ty):=by
 intro pins s σ H Q I h;refine wpAny_Call_method m.base m.few m.line aby PySem.F.slot_dict_pop PySem.F.type_dict_pop (thn (r pins s σ H _ I h) λu i C=>?_);obtain⟨x,H1,c,n,a,ex,d,q⟩:=C;subst ex;obtain rfl:u=Value.ref a:=n;obtain⟨g,f,_⟩:=rM c d;refine{g,f,?_};rw[m.trees];refine abd rfl (Calls.evalArgs_plain (Calls.spliced_cons (thn (t pins i σ H1 _ c q) λF E {(y),H2,B,j,kvs,k,v,z,w,l,p}=>Calls.spliced_nil ?_)));subst w;exact Ls B z j l (.inl rfl) λC D A b=>{v,_,A,b,p}
end
section
variable       {kvs:↥(Key×V)}  
def wB(I:Inv X pins σ H s)(e:Rd H a (.dK kvs))(h:∀p s',H p=none->Inv X pins σ (upd H p (.dK kvs)) s'->Q (.ref p) s'):wpAny (model X.prog X.w) A (call (.type "dict") [.ref a]) Q E s:=by
 obtain⟨z,hd,vs,rel,f⟩:=jd I.hok e;refine kt_call_dict hd f (by rw[← rel.length];exact z) λh' c hs=>?_;refine h _ _ (I.hok.fresh (aac _)) (I.laid (a:=s.heap.objs.size) (o:=.dK kvs) (t':=s.toks) (λb q d=>?_) (aac _) (ib z (beq_eq_false_iff_ne.mpr (abz (aam I.big))) rel c));exact(hs.2 b (aam (aah d))).trans (Heap.get?_push_of_some _ d)
end
end L2
namespace Att
open PySem PySem.W PySem.Calls PyProof.Rows
variable{P:Params}{h:Heap}{n:Nat}
def ic :∀(ns:↥Int) (vs:↥Value),WellAll P h vs (ns.map WData.int)->IntsAre vs ns:=by
 intro ns
 induction ns with
 | nil=>
  intro vs w;rw[List.map_nil] at w;cases w;exact .nil
 | cons n ns c=>
  intro vs w;rw[abT] at w
  cases w with
  | cons a b=>
   cases a;exact .cons _ _ (c _ b)
def rO{l:OpenLaw}(u:l.most=!n){args:↥WData}{b:↥Value}
  (c:l.row.toRowW.claim.pre args=true) (j:WellAll P h b args) :
  ∃a vs ns,b=[Value.ref a]/\args=[WData.list (ns.map WData.int)]/\h.get? a=some { cls:=.type "list", data:=.seq vs.toArray }/\IntsAre vs ns/\ns.length<=n:=by
 have k:WShape.hasAll [] args [.list .int]=true:=(pre_splitW c).1;have m:l.pre.holds [] { args:=args }=true:=(pre_splitW c).2;obtain⟨d,r,rfl,h1,h2⟩:=hasAllW_cons k;obtain rfl:=hasAllW_nil h2;obtain⟨xs,rfl,v⟩:=hasW_list h1;obtain⟨ns,rfl⟩:=items_int v
 have e:ns.length<=n:=by
  unfold OpenLaw.pre at m
  have i:(WTm.not (.lt (.lit (.int (n:Int))) (.len (.arg 0)))).holds [] { args:=[.list (ns.map .int)] }=true:=by
   have i:=(holds_andW m).1;rw[u] at i;exact i
  have g:=condW_of i (w_not (w_lt w_lit (w_len_list (w_arg rfl))));rw[abP] at g;refine Nat.le_of_not_lt λq=>?_;have s:(n:Int)<((ns.length:Nat):Int):=()
  first
   |(rw[decide_eq_true s] at g;exact absurd g (by decide))
   |(simp at g;nofun)
 cases j with
 | cons p o=>
  cases o
  cases p with
  |list t f=>exact {_,_,ns,rfl,rfl,t,ic ns _ f,e}
def rP(l:OpenLaw)(args:↥WData):l.row.toRowW.claim.post args (.bool true) args=true:=-
 postW_of (r:=l.row.toRowW) (X:=(true==true))
  (show WShape.has [] (.bool true) .bool=true by first|rfl|decide|simp[WShape.has,WShape.arms,WShape.armsAll])
  (show (WTm.eq .res (.lit (.bool true))).value [] { args:=args,res:=!(.bool true),after:=args }=↑(.bool (true==true)) from w_eq_bool (w_res rfl) w_lit) rfl
def attach_call{l:OpenLaw}{q:Program}{loose:↥Str}{XP:(Str->Option Value)->Heap->Prop}{y:World->Heap->Prop}{d:DefRec}
  (C:l.most=!n) (s:d.params.defaults=[])
  (call:∀(w:World) (s₀ b:Shared) (mg k:Str->Option Value) (fa:Addr) (o:Obj) (pm j doc:Value) (a:Addr) (vs:↥Value) (ns:↥Int),
   Ground q loose [] XP w s₀ mg k b.heap->y w b.heap ->
   b.heap.get? fa=!o->o.data=.func (docDef d.name d.params d.body d.scope pm j doc)->b.heap.CodeRec j d.name->mg d.name=↑(.ref fa) ->
   b.heap.get? a=some { cls:=.type "list", data:=.seq vs.toArray }->IntsAre vs ns->ns.length<=n->b.gens=#[] ->
   codeAny (model l.prog w) callerA (.call (.ref fa) {[.ref a],[]}) (λr s'=>r=.ok (.ret (.bool true))/\OldK b.heap s'.heap/\s'.os=b.os/\AllBare s'.gens) b) :
  WalkO q loose XP y l.row.toRowW d [] (λf vs=>PySem.call f vs):=by
 intro w s₀ b mg k G Y fa o pm j doc J kV B hd t x p F args u as e v z m E;obtain rfl:J=.none:=Dflts.none x s;obtain rfl:kV=.none:=Dflts.noKw x;obtain⟨a,vs,ns,rfl,rfl,g,c,i⟩:=rO C e m;refine enter_call (codeAny_mono (call w s₀ b mg k fa o pm j doc a vs ns G Y B (fd_plain hd) t p g c i F) λr s' A=>?_);obtain⟨rfl,h2,I,H⟩:=A;exact{.inl {.bool true,.bool true,[],rfl,λ_=>rfl,.bool true,rP l _,λ_=>{List.Pairwise.nil,λ_ D=>(nomatch D)}},h2,I,H}
section
variable {prog:Program} {w:World} {A:Around} {E:Value->Shared->Prop} {s:Shared} {K:Frag}
end
end Att
namespace L2
open PySem PySem.Spec PyProof.Rows
variable{P:Program}{w:World}{mg:Str->Option Value}{k:Nat}{a f p:Addr}{fd:FuncData}{x qual y:Str}{sp:Sp}{X:Cx}{st:Stmt}{ps T F:↥Str}{A:Around}{H H':Hp}{xs:↥V}{E:Value->Shared->Prop}{s:Shared}{elt iter tg:Expr}{ifs:↥Expr}{scope:Scope}{pos:Pos}{env:Env}{pins:↥(Addr×Obj)}{σ:St}{ixs:↥Nat}{v:V}{wi:TI}{g:TG}{tc:TT}{te:TE}{Q:VK}
theorem lf:∀{vs:↥Value} {ns:↥Int},IntsAre vs ns->Vals (ns.map V.int) vs
 |_,_,.nil=>.nil
 |_,_,.cons n t h=>.cons {(t),rfl} (lf h)
def Lv(H:Hp):Prop:=∀b,H b=none∨∃o xs,H b=!(.frz o (.lst xs))
def wC{K:Frag}{N:Str->Option Value}{CX:CXT}{fa:Addr}{c:Shared}{vs:↥Value}{ns:↥Int}
  (KX:K.In c.heap) (E:c.heap.Ns mainGlobals mg) (g:c.heap.Ns builtinsNs N) (R:∀x:Str,x ≠ "__name__" -> N x=bootBuiltins x) (G:c.heap.NoLimit) (hg:c.gens=#[])
  (J:c.heap.get? a=some { cls:=.type "list", data:=.seq vs.toArray }) (hi:IntsAre vs ns) (W:ns.length<=sizeLine) (hr:Room k callerA)
  (F:∀base:Heap,K.In base->base.Ns mainGlobals mg->FnOk P w K mg base CX k fa fd [x] sp) (l:∀(s:Shared) (u:Value),BindsTo s fd {[u],[]} [(x,u)])
  (O:∀H:Hp,Lv H->SqL K H a (ns.map V.int)->sp [.ref a] H (λv _=>v=.bl true) λ_ _ _=>False)
  (S:∀H e s',CX [] H c (λ_ _ _=>False) e s'->False) :
  codeAny (model P w) callerA (.call (.ref fa) {[.ref a],[]}) (λr s'=>r=.ok (.ret (.bool true))/\OldK c.heap s'.heap/\s'.os=c.os/\AllBare s'.gens) c:=by
 have U:=lf hi;have C:=hi.length
 -- from an abstract heap in L nothing but A i may be y
 have core:∀H:Hp,Lv H->SqL K H a (ns.map V.int)->HOk P w H c.heap->(∀b,H b≠none->b=a)->(H a≠none->K.lookup a=none) ->
   codeAny (model P w) callerA (.call (.ref fa) {[.ref a],[]}) (λr s'=>r=.ok (.ret (.bool true))/\OldK c.heap s'.heap/\s'.os=c.os/\AllBare s'.gens) c:=by
  intro H X hS hok Y hK;have f:∀{b:Addr} {o:Obj},c.heap.get? b=!o->H b=none->(vV c.heap H).get? b=!o:=λe n=>vW e n
  have M:∀{b:Addr} {o:Obj} {es:Array DictEntry} {ep:Nat},c.heap.get? b=!o->o.data=.dict es ep->H b=none:=fun {b o es ep} e d=>by
   cases q:H b with
   |none=>rfl
   | some u=>
    have T:b=a:=Y b (by rw[q];simp);subst T;rw[J] at e;cases e;have d':Data.seq vs.toArray _=Data.dict es ep:=d;cases d'
  have j:∀{b:Addr} {m:Str->Option Value},c.heap.Ns b m->(vV c.heap H).Ns b m:=fun {b m} ⟨o,es,ep,e,d,r⟩=>{o,es,ep,f e (M e d),d,r}
  have I:K.In (vV c.heap H):=λb o e=>f (KX b o e) (by
   cases q:H b with
   |none=>rfl
   | some u=>
    have T:b=a:=Y b (by rw[q];simp);subst T;rw[hK (by rw[q];simp)] at e;cases e)
  have hM:Mod K mg (vV c.heap H):={I,j E,{N,j g,R},let ⟨mc,h1,h2⟩:=G;{mc,j h1,h2}};have e0:Env0 P w K mg (vV c.heap H) callerA [] c H:={rfl,hM,λb o e=>Ba e,Nat.le_of_eq (qR _ _),trivial,λb g=>absurd (show b∈([]:↥Addr) from g) (by simp),hok,.of_eq hg};refine codeAny_mono ((F _ I (j E)).run callerA [] c H {[.ref a],[]} [.ref a] [.ref a] _ _ hr e0 (l c (.ref a)) (.cons rfl .nil) (O H X hS)) λr s' h=>?_
  cases r with
  |error e=>exact (S H e s' h).elim
  | ok fl=>
   cases fl with
   |next=>exact False.elim h
   |brk=>exact False.elim h
   |cont=>exact False.elim h
   | ret u=>
    obtain⟨v,H',os,bare,un,D,r',q⟩:=h;have q':v=.bl true:=q;subst q';obtain rfl:u=Value.bool true:=r';refine{rfl,OldK.of_keep λb o e=>?_,os,bare}
    cases q:H b with
    |none=>exact un.keep b o e q (by intro z;exact absurd (show b∈([]:↥Addr) from z) (by simp)) (by simp)
    | some u=>
     rcases X b with z|⟨ob,xs,z⟩
     .rw[q] at z;cases z
     .have z2:=un.frzs b ob _ z;obtain⟨Z,_⟩:=hok b _ z;obtain⟨e2,_⟩:=D b _ z2;rw[e] at Z;cases Z;exact e2
 cases Q:K.lookup a with
 | some o=>
  -- A i is one of A p own B
  have e:=KX a o Q;rw[J] at e;cases e;refine core (λ_=>none) (λ_=>.inl rfl) (.inr {_,vs.toArray,_,Q,rfl,rfl,rfl,by rw[abY,C];exact W,(by exists U)}) (λb u z=>by have t:(none:Option HO)=!u:=z;cases t) (λb z=>absurd rfl z) λz=>absurd rfl z
 | none=>
  refine core (λb=>if b=a then ↑(.frz { cls:=.type "list", data:=.seq vs.toArray } (.lst (ns.map V.int))) else none) (λb=>?_) (.inl (.inr {{ cls:=.type "list", data:=.seq vs.toArray },if_pos rfl})) (λb u z=>?_) (λb z=>?_) λ_=>Q
  .by_cases g:b=a
   .exact .inr {_,_,if_pos g}
   .exact .inl (if_neg g)
  .by_cases g:b=a
   .have t:=(if_pos g).symm.trans z;cases t;subst g;exact{J,by rw[abP];exact W,vs,_,U,J}
   .have t:=(if_neg g).symm.trans z;cases t
  .by_cases g:b=a
   .exact g
   .exact absurd (if_neg g) z
def walk_of{l:PySem.W.OpenLaw}{n:Nat}{q:Program}{loose:↥Str}{XP:(Str->Option Value)->Heap->Prop}{y:World->Heap->Prop}{d:DefRec}{K:Params->Frag}{CX:World->CXT}{sp:World->Sp}
  (A:l.most=!n) (m:n<=sizeLine) (r:d.params.defaults=[]) (hr:Room k callerA)
  (E:∀(w:World) (h:Heap),y w h->(K w.params).In h)
  (F:∀(w:World) (mg:Str->Option Value) (fa:Addr) (h:Heap),(K w.params).In h->h.Ns mainGlobals mg->mg d.name=↑(.ref fa) ->
   ∃fd:FuncData,(∀(s:Shared) (u:Value),BindsTo s fd {[u],[]} [(x,u)]) /\
    ∀base:Heap,(K w.params).In base->base.Ns mainGlobals mg->FnOk l.prog w (K w.params) mg base (CX w) k fa fd [x] (sp w))
  (j:∀(w:World) (H:Hp) (a:Addr) (ns:↥Int),ns.length<=n->Lv H->SqL (K w.params) H a (ns.map V.int)->sp w [.ref a] H (λv _=>v=.bl true) λ_ _ _=>False)
  (t:∀(w:World) (H:Hp) (s:Shared) (e:Value) (s':Shared),CX w [] H s (λ_ _ _=>False) e s'->False) :
  PySem.W.WalkO q loose XP y l.row.toRowW d [] (λf vs=>PySem.call f vs):=by
 refine Att.attach_call A r λw s₀ g mg M fa o pm O doc a vs ns G Y N hd C p i c b B=>?_;have z:=E w _ Y;obtain⟨fd,D,L⟩:=F w mg fa _ z G.T.g p;exact wC z G.T.g G.T.b G.T.builtins G.T.nolimit B i c (aar b m) hr L D (λH J I=>j w H a ns b J I) λH e s'=>t w H g e s'
def cF(s:Stmt):Arguments:=match s with
 |.FunctionDef _ a _ _ _ _ _ _ _ _=>a
 |_=>{ posonlyargs:=[],args:=[],vararg:=none,kwonlyargs:=[],kw_defaults:=[],kwarg:=none,defaults:=[] }
def bu(s:Stmt):↥Stmt:=match s with
 |.FunctionDef _ _ b _ _ _ _ _ _ _=>b
 |_=>[]
def av(s:Stmt):Scope:=match s with
 |.FunctionDef _ _ _ _ _ _ a _ _ _=>a
 |_=>{ kind:=.function,names:=[],isGenerator:=false,isCoroutine:=false }
abbrev CX0:CXT:=λ_ _ _ _ _ _=>False
abbrev E0:XK:=λ_ _ _=>False
def wD :hJ CX0 X E0:=-λ_ _ _ _ _ _ _ h=>h.elim
structure Fun(K:Frag)(x qual:Str)(st:Stmt)(f:Addr)(fd:FuncData):Prop where
 ex:∃(oc:Value) (od:Option Addr) (kV doc pm:Value) (an:Option Addr) (cdv ct:Value) (osl:Array (Option Value)),
  fd=PySem.W.fnOf x qual (cF st) (bu st) (av st) .none kV doc pm an cdv ct/\K.lookup f=!⟨oc,od,.func fd,osl⟩/\PySem.W.codeIn K cdv qual=true
 kp:PySem.W.keepIn K (.ref f)=true
section
variable   {K:Frag}  {base:Heap}
def Fun.ok{N:↥Str}(F:Fun K x qual st f fd)(S:FnScope N ps (av st))(len:∀vs H Q E,sp vs H Q E->vs.length=ps.length)
  (a:∀(cdv:Value) (A:Around) (outer:↥Env) (s:Shared) (H:Hp) (vs:↥V) (Q:VK) (E:XK),Room k (A.deeper (envOfC qual (av st) s.heap.objs.size f cdv))->sp vs H Q E ->
   ∃t,PSs (rA CX0 P w K mg base N qual (av st) f cdv A outer s H E).nox (bu st) t/\t { nx:=λ_ H'=>Q .non H',rt:=Q } (start N vs) H):FnOk P w K mg base CX0 (k+1) f fd ps sp:=by
 obtain⟨oc,od,kV,doc,pm,an,cdv,ct,osl,rfl,lk,c⟩:=F.ex;refine Ln lk c S len λA outer s H vs Q E hr b=>?_;obtain⟨t,h,q⟩:=a cdv A outer s H vs Q E hr b;exact{(t),h.nox,q}
def Fun.binds(F:Fun K x qual st f fd)
  (h:∀(kV doc pm:Value) (an:Option Addr) (cdv ct:Value) (us:↥Value),us.length=ps.length->bindArgs (PySem.W.fnOf x qual (cF st) (bu st) (av st) .none kV doc pm an cdv ct) {us,[]}=pure (ps.zip us)):Binds K fd ps []:=by
 obtain⟨oc,od,kV,doc,pm,an,cdv,ct,osl,rfl,lk,a⟩:=F.ex;exact .all (h kV doc pm an cdv ct)
def zV{oc:Value}{od an:Option Addr}{osl:Array (Option Value)}{kV doc pm cdv ct:Value}(l:K.lookup f=!{oc,od,.func (PySem.W.fnOf x qual (cF st) (bu st) (av st) .none kV doc pm an cdv ct),osl})
  (c:PySem.W.codeIn K cdv qual=true) (k:PySem.W.keepIn K (.ref f)=true):Fun K x qual st f (PySem.W.fnOf x qual (cF st) (bu st) (av st) .none kV doc pm an cdv ct):=-{{(oc),od,kV,doc,pm,an,cdv,ct,osl,rfl,l,c},k}
end
def Lw(hr:Room k A):A.units+1<cLine:=-Nat.lt_of_le_of_lt (Nat.add_le_add_left (by decide:1<=64) _) hr.units
def Same(H H':Hp):Prop:=∀b o,H b=!o->H' b=!o
def Same.refl(H:Hp):Same H H:=-λ_ _ h=>h
def Same.trans{H1 H2:Hp}(a:Same H H1)(b:Same H1 H2):Same H H2:=-λc o h=>b c o (a c o h)
def Same.free(e:Same H H'){l:Addr}(h:H' l=Option.none):H l=Option.none:=by
 cases q:H l with
 |none=>rfl
 | some o=>
  rw[e l o q] at h;cases h
def Same.seq{K:Frag}(e:Same H H')(h:SqL K H a xs):SqL K H' a xs:=by
 rcases h with (h|⟨o,h⟩)|h
 .exact .inl (.inl (e _ _ h))
 .exact .inl (.inr {o,e _ _ h})
 .exact .inr h
section
variable {κ:Type} [DecidableEq κ]
end
section
variable {prog:Program}    {R:Result->Shared->Prop} 
def lg{target:Expr}{it acc:Value}(I:Nat->Shared->Prop)
  (l:∀n s,I n s->wpAny (model prog w) A (pyNext it) (λr d=>match r with
   |none=>R (.ok .next) d
   | some v=>wpAny (model prog w) A (letOwnedTupleGo target it v) (λ_ b=>wpAny (model prog w) A (assign target env v) (λ_ g=>
     wpAny (model prog w) A (forIn ifs true λc r=>if r=true then do let ok ← isTrue c env (eval c env);pure (ForInStep.yield ok) else pure (ForInStep.yield r)) (λok a=>
      if ok=true then wpAny (model prog w) A (eval elt env) (λx f=>
       wpAny (model prog w) A (call (.builtin "list.append") [acc,x]) (λ_ e=>∃m,m<n/\I m e) (λ_ _=>False) f) (λ_ _=>False) a
      else ∃m,m<n/\I m a) (λ_ _=>False) g) (λ_ _=>False) b) (λ_ _=>False) d) (λ_ _=>False) s)
  (n:Nat) (h:I n s) :
  codeAny (model prog w) A (.compLoop (.ListComp elt [{(target),iter,ifs,0}] scope pos) 0 it acc env) R s:=by
 refine codeAny_loop rfl I (λn s t=>?_) n h;show wpAny _ A ((compTurn (.ListComp elt [{(target),iter,ifs,0}] scope pos) 0 it acc env).onRaise (λx=>do noteFrame x env;theTreesLotGoes x)) _ _ s;refine wpAny_noted ?_;rw[compTurn_list];refine aaa (wpAny_standAt (aaa (abv (l n s t) (λr d j=>?_) λ_ _ h'=>h'.elim)))
 cases r with
 |none=>exact aaf j
 | some v=>
  refine aaa (abv j (λ_ b k=>?_) λ_ _ h'=>h'.elim);refine aaa (abv k (λ_ g q=>aaa (abv q (λok a i=>?_) λ_ _ h'=>h'.elim)) λ_ _ h'=>h'.elim)
  cases ok with
  |false=>exact aaf {(rfl),i}
  | true=>
   exact aaa (aaa (abv i (λx f p=>aaa (abv p (λ_ e o=>aaf (aaf {(rfl),o})) λ_ _ h'=>h'.elim)) λ_ _ h'=>h'.elim))
end
def FX(X:Cx)(ifs:↥Expr)(t:TT):Prop:=
 ∀(pins:↥(Addr×Obj)) (s:Shared) (σ:St) (H:Hp) (Q:Bool->Hp->Prop),Inv X pins σ H s->t σ H Q ->
  wpAny (model X.prog X.w) X.A (forIn ifs true λc r=>if r=true then do let ok ← isTrue c X.env (eval c X.env);pure (ForInStep.yield ok) else pure (ForInStep.yield r)) (TP X pins σ Q) X.xe s
def Lx:TT:=λ_ H Q=>Q true H
def Ca :FX X [] Lx:=-λ_ _ _ H _ I h=>wpAny_tests_nil {(H),I,h}
def Cc{c:Expr}{t:TT}(h:PT X c t):FX X [c] t:=-λpins s σ H Q I q=>wpAny_tests_one (h pins s σ H Q I q)
def bq(X:Cx)(N:↥Str)(scope:Scope)(cl:↥(Str×Addr))(C:Addr)(s:Shared)(H:Hp)(fp:↥Addr):Cx:=
 { X with N:=N,s₀:=s,H₀:=H,env:=compEnvC scope cl C X.env,outer:=X.stack,ex:=fp,fn:=λ_=>false,pn:=[],xe:=λ_ _=>False }
def lh(σ:St)(ixs:↥Nat):St:=ixs.map λi=>(σ[i]?).getD none
structure CompScope(X:Cx)(T F:↥Str)(ixs:↥Nat)(scope:Scope):Prop where
 kind:scope.kind=.function
 nocell:∀y∈scope.names,y.2≠.cell
 names:∀y∈scope.names,y.2=.local->scope.names.lookup y.1=!.local
 cap:∀(j:Nat) (i:Nat) (x:Str),ixs[j]?=!i->F[j]?=!x->X.N[i]?=!x/\scope.names.lookup x=!.free
 len:ixs.length=F.length
 out:∀y∈scope.names,y.2=.free->X.env.scope.names.lookup y.1=↑.cell∨X.env.scope.names.lookup y.1=!.free
def aK(env:Env):↥(Str×NameKind)->↥(Str×Addr)->↥(Str×Addr)
 |[],a=>a
 |(n,k)::r,a=>if k==.free then aK env r ((n,(env.cells.lookup n).getD 0)::a) else aK env r a
def jS(h:∀y∈scope.names,y.2=.free->∃c,env.cells.lookup y.1=!c):closureFor scope env=pure (aK env scope.names []):=by
 unfold closureFor
 have gen:∀(l:↥(Str×NameKind)) (a:↥(Str×Addr)),(∀y∈l,y.2=.free->∃c,env.cells.lookup y.1=!c) ->
   (do
    let mut a:=a
    for (name,kind) in l do
     if kind==.free then a:=(name,← cellOf env name)::a
    return a:Sem ↥(Str×Addr))=pure (aK env l a):=by
  intro l
  induction l with
  |nil=>intro a _;rfl
  | cons p r g=>
   intro a i;obtain⟨n,k⟩:=p;have hr:=λy j=>i y (aad _ j);by_cases d:k=.free
   .obtain⟨c,f⟩:=i (n,k) aab d;have f:env.cells.lookup n=!c:=f;have e:=g ((n,(env.cells.lookup n).getD 0)::a) hr;subst d;simp only[aK,List.forIn_cons,f,cellOf] at e ⊢;simpa using e
   .have e:=g a hr;have b:(k==NameKind.free)=false:=(by exists d);simp only[aK,List.forIn_cons,b,if_neg Bool.false_ne_true] at e ⊢;simpa using e
 exact gen scope.names [] h
theorem dg{env:Env}:∀{l:↥(Str×NameKind)} {cs:↥(Str×Addr)} {x:Str} {c:Addr},(∀y∈l,y.2=.free->∃c,env.cells.lookup y.1=!c)->(∀x c,cs.lookup x=!c->env.cells.lookup x=!c) ->
  (aK env l cs).lookup x=!c->env.cells.lookup x=!c
 |[],cs,x,c,_,a,h=>a x c h
 | (n,k)::r,cs,x,c,g,a,h=>by
  have hr:=λy i=>g y (aad _ i);unfold aK at h;split at h
  .rename_i j;have b:k=.free:=(by exists j);obtain⟨m,d⟩:=g (n,k) aab b;have d:env.cells.lookup n=!m:=d;refine dg hr (λf o h'=>?_) h;rw[aaI] at h';split at h'
   .rename_i e;have e:f=n:=(by exists e);subst e;rw[d] at h' ⊢;simpa using h'
   .exact a f o h'
  .exact dg hr a h
theorem eJ{env:Env}:∀{l:↥(Str×NameKind)} {cs:↥(Str×Addr)} {x:Str},((x,NameKind.free)∈l∨∃c,cs.lookup x=!c)->∃c,(aK env l cs).lookup x=!c
 | [],cs,x,h=>by
  rcases h with h|h
  .cases h
  .exact h
 | (n,k)::r,cs,x,h=>by
  unfold aK;split
  .rename_i a;have b:k=.free:=(by exists a);refine eJ ?_;rcases h with h|h
   .rcases abS.mp h with e|h
    .have e:x=n:=by injection e
     subst e;exact .inr {(env.cells.lookup x).getD 0,by rw[aaI];simp}
    .exact .inl h
   .obtain⟨c,h⟩:=h;refine .inr ?_;rw[aaI];split
    .exact{_,rfl}
    .exact{(c),h}
  .rename_i a;refine eJ ?_;rcases h with h|h
   .rcases abS.mp h with e|h
    .have e:NameKind.free=k:=by injection e
     subst e;simp at a
    .exact .inl h
   .exact .inr h
theorem dh{env:Env}:∀{names:↥(Str×NameKind)} {x:Str} {q:NameKind},
  (names.map λ(n,k)=>if (k==NameKind.free&&env.scope.kind==.function&&env.kindOf n==!.cell) then (n,NameKind.cell) else (n,k)).lookup x=↑q ->
  names.lookup x=↑q∨(q=.cell/\names.lookup x=!.free)
 |[],_,_,h=>by simp at h
 | (n,k)::r,x,q,h=>by
  have c:=@dh env r x q;rw[abT] at h;dsimp only at h;by_cases b:(k==NameKind.free&&env.scope.kind==.function&&env.kindOf n==!.cell)=true
  .rw[if_pos b,aaI] at h;rw[aaI]
   cases a:x==n with
   | true=>
    rw[a] at h
    have d:k=.free:=by
     simp only[Bool.and_eq_true] at b;simpa using b.1.1
    exact .inr {(aak h).symm,by rw[d]}
   |false=>rw[a] at h;exact c h
  .rw[if_neg b,aaI] at h;rw[aaI]
   cases a:x==n with
   |true=>rw[a] at h;exact .inl h
   |false=>rw[a] at h;exact c h
theorem gq{env:Env}:∀{names:↥(Str×NameKind)} {x:Str},names.lookup x=↑.free ->
  (names.map λ(n,k)=>if (k==NameKind.free&&env.scope.kind==.function&&env.kindOf n==!.cell) then (n,NameKind.cell) else (n,k)).lookup x=!.cell ∨
  (names.map λ(n,k)=>if (k==NameKind.free&&env.scope.kind==.function&&env.kindOf n==!.cell) then (n,NameKind.cell) else (n,k)).lookup x=!.free
 |[],_,h=>by simp at h
 | (n,k)::r,x,h=>by
  have b:=@gq env r x;rw[abT];dsimp only;rw[aaI] at h;by_cases c:(k==NameKind.free&&env.scope.kind==.function&&env.kindOf n==!.cell)=true
  .rw[if_pos c,aaI]
   cases a:x==n with
   |true=>exact .inl rfl
   |false=>rw[a] at h;exact b h
  .rw[if_neg c,aaI]
   cases a:x==n with
   |true=>rw[a] at h;exact .inr h
   |false=>rw[a] at h;exact b h
def dZ(no:Nat)(ixs:↥Nat)(wi:TI)(g:TG)(tc:TT)(te:TE):TE:=λσ H Q=>wi σ H λJ H1=>∀D,H1 D=none->∃W:Nat->Nat->↥V->St->Hp->Prop,
 (∃m,W 0 m [] (List.replicate no none++lh σ ixs) (upd H1 D (.lst [])))/\∀i m acc e H',W i m acc e H' ->
  (J.stop i H'/\Q (.ref D) H') ∨
  (J.go i H'/\∃N:↥V->St->Hp->Prop,(∀c d H2,N c d H2->∃f,f<m/\W (i+1) f c d H2) /\
   ∀x H2,J.yld i H' x H2->g x e H2 λa l=>tc a l λb k=>if b=true then te a k λy j=>j D=!(.lst acc)/\acc.length<sizeLine/\N (acc++[y]) a (upd j D (.lst (acc++[y]))) else N acc a k)
section
variable         {fp:↥Addr}
def Cd(I:Inv X pins σ H s)(S:CompScope X T F ixs scope)(a:∀b∈fp,qV X pins H b)(j:∀b∈fp,∃o,s.heap.get? b=!o) :
  (bq X (T++F) scope (aK X.env scope.names []) s.heap.objs.size s H fp).Ok:=by
 have i:∀y∈scope.names,y.2=.free->∃c,X.env.cells.lookup y.1=!c:=λy m k=>by
  rcases S.out y m k with e|e
  .exact I.ok.has _ (.inl e)
  .exact I.ok.has _ (.inr e)
 have f:∀x c,(aK X.env scope.names []).lookup x=!c->X.env.cells.lookup x=!c:=λx c h=>dg i (λ_ _ z=>by simp at z) h;refine{I.ok.mod,S.kind,I.ok.glob,I.ok.blt,aac _,λx y c h1 h2=>I.ok.inj x y c (f x c h1) (f y c h2),λx d=>?_,λ_ _ z=>(nomatch z),I.ok.hd,I.ok.frames,.inl rfl,λb g=>{?_,λx c e=>?_},I.bs,aar I.ok.bsz I.sz,λb o e g=>?_,λb g l=>?_,I.stack,I.stkFree}
 .have d:(relabel scope X.env).names.lookup x=↑.cell∨(relabel scope X.env).names.lookup x=!.free:=d
  have k:scope.names.lookup x=!.free:=by
   rcases d with d|d
   .rcases dh d with q|⟨_,q⟩
    .exact absurd rfl (S.nocell _ (aaU q))
    .exact q
   .rcases dh d with q|⟨z,_⟩
    .exact q
    .cases z
  exact eJ (.inl (aaU k))
 .obtain⟨o,n⟩:=j b g;exact aam (aah n)
 .exact(a b g).2.2.2.2.1 x c (f x c e)
 .rcases (a b g).2.2.2.1 with z|z
  .exact I.ok.noex b o e z
  .exact absurd (aaq (aah e) (aar I.ok.bsz z)) (aaZ _)
 .rcases abS.mp (I.stkSub b l) with e|z
  .exact(a b g).2.1 e
  .exact(a b g).2.2.1 z
def rQ{j:Nat}(h:(lh σ ixs)[j]?=!!v):∃i,ixs[j]?=!i/\σ[i]?=!!v:=by
 unfold lh at h;rw[List.getElem?_map] at h
 cases e:ixs[j]? with
 |none=>rw[e] at h;cases h
 | some i=>
  rw[e] at h;refine{i,rfl,?_};have h:(σ[i]?).getD none=!v:=aak h
  cases q:σ[i]? with
  |none=>rw [q] at h;cases h
  |some u=>rw [q] at h;exact congrArg some h
def wF(I:Inv X pins σ H s)(S:CompScope X T F ixs scope)(D:∀b∈fp,qV X pins H b)(E:∀b∈fp,∃o,s.heap.get? b=!o){h':Heap}{t':Nat}{m:Str->Option Value}
  (C:∀b o,s.heap.get? b=!o->h'.get? b=!o) (P:h'.Ns s.heap.objs.size m) :
  Inv (bq X (T++F) scope (aK X.env scope.names []) s.heap.objs.size s H fp) [] (List.replicate T.length none++lh σ ixs) H { s with heap:=h',toks:=t' }:=by
 have ok:=Cd I S D E
 have l:∀y∈scope.names,y.2=.free->∃c,X.env.cells.lookup y.1=!c:=λy K w=>by
  rcases S.out y K w with e|e
  .exact I.ok.has _ (.inl e)
  .exact I.ok.has _ (.inr e)
 have f:∀x c,(aK X.env scope.names []).lookup x=!c->X.env.cells.lookup x=!c:=λx c h=>dg l (λ_ _ z=>by simp at z) h;have a:∀c v,s.heap.IsCell c v->h'.IsCell c v:=λc v {(o),N,hd}=>{o,C c o N,hd};refine{ok,rfl,I.bare,Un.kept C,{m,P,λj x v A n W=>?_},λx c e=>?_,I.hok.fresh (aac _),λx c e=>I.freeC x c (f x c e),λp M=>absurd (show p∈([]:↥(Addr×Obj)) from M) (by simp),I.hok.kept C,?_}
 .have t:T.length<=j:=by
   refine Nat.le_of_not_lt λt=>?_;rw[List.getElem?_append_left (by exists t),List.getElem?_replicate] at n;split at n <;> cases n
  rw[List.getElem?_append_right (by exists t),aaE] at n;have A:(T++F)[j]?=!x:=A;rw[List.getElem?_append_right t] at A;obtain⟨i,hi,L⟩:=rQ n;obtain⟨U,w⟩:=S.cap _ i x hi A;obtain⟨V,O,Q⟩:=I.loc;have G:=aaU w;have d:X.env.scope.names.lookup x=↑.cell∨X.env.scope.names.lookup x=!.free:=S.out _ G rfl;obtain⟨u,J,lk⟩:=Q i x v U L (d.elim (λz=>.inr (.inl z)) λz=>.inr (.inr z));refine{u,J,?_};rcases lk with ⟨r,_⟩|⟨_,c,R,g⟩
  .have r:X.env.scope.names.lookup x=!.local:=r;rcases d with z|z
   .rw[r] at z;cases z
   .rw[r] at z;cases z
  .obtain⟨B,k⟩:=eJ (env:=X.env) (cs:=[]) (.inl G)
   have e:B=c:=by
    have:=f x B k;rw[R] at this;exact(aak this).symm
   subst e;exact .inr {gq w,B,k,a B _ g}
 .obtain⟨v,q⟩:=I.cell x c (f x c e);exact{v,a c v q}
 .show _=(T++F).length;rw[aag,aaE,aag,lh,abP,S.len]
def nK{pos':Pos}(hc:X.calm=true)(S:CompScope X T F ixs scope)
  (hi:PI X tg iter wi)
  (hg:∀C s H fp,PG (bq X (T++F) scope (aK X.env scope.names []) C s H fp) tg g)
  (ht:∀C s H fp,FX (bq X (T++F) scope (aK X.env scope.names []) C s H fp) ifs tc)
  (he:∀C s H fp,PE (bq X (T++F) scope (aK X.env scope.names []) C s H fp) elt te)
  (hs:∀x,foldedSetIterable iter X.env x=pure x) {use:Option (Value->Sem Unit)} {QQ:Value->Shared->Prop}      (I:Inv X pins σ H s) (h:dZ T.length ixs wi g tc te σ H Q)
  (fine:∀(D C:Addr) (G:Hp) (E:Shared) (f:Flow),(∃m,E.heap.Ns C m)->G C=none->C≠X.env.locals->(∀x c,X.env.cells.lookup x=!c->c≠C)->X.s₀.heap.objs.size<=C->(∀p∈X.pn++pins,p.1≠C) ->
   (∀h7,Heap.SameBut C E.heap h7->Inv X pins σ G { E with heap:=h7 })->Q (.ref D) G->compPost (model X.prog X.w) X.A X.xe use QQ (.ref D) C (.ok f) E) :
  wpAny (model X.prog X.w) X.A (comprehension (.ListComp elt [{(tg),iter,ifs,0}] scope pos) scope X.env pos' (newList []) false (eval iter X.env) use) QQ X.xe s:=by
 have hall:∀y∈scope.names,y.2=.free->∃c,X.env.cells.lookup y.1=!c:=λy hy hf=>by
  rcases S.out y hy hf with e|e
  .exact I.ok.has _ (.inl e)
  .exact I.ok.has _ (.inr e)
 refine wpAny_comprehension_free (use:=use) (cl:=aK X.env scope.names []) rfl hs (jS hall) S.kind S.names (thn (hi pins s σ H _ I h) λv s1 h1=>thn h1 λitv A h2=>?_);obtain⟨it,fp,tn,J,H2,e,I2,TT,st2,f2,q2⟩:=h2;subst e;refine aaM ?_
 -- the list is laid
 have U:Inv X pins σ (upd H2 A.heap.objs.size (.lst [])) { A with heap:=A.heap.push { cls:=.type "list", dict:=none,data:=.seq ([]:↥Value).toArray } }:=
  I2.laid (t':=A.toks) (λb u q=>Heap.get?_push_of_some _ q) (aac _) {aan _,[],0,.nil,Heap.get?_push_size _ rfl}
 have hD:H2 A.heap.objs.size=none:=I2.hok.fresh (aac _);have hfo:∀b∈fp,∃o,A.heap.get? b=!o:=λb a=>let ⟨o,e,_⟩:=TT.obj _ _ st2 b a;{(o),e};have neD:∀b∈fp,b≠A.heap.objs.size:=λb a=>by obtain⟨o,e⟩:=hfo b a;exact aam (aah e)
 have f3:∀b∈fp,qV X pins (upd H2 A.heap.objs.size (.lst [])) b:=λb a=>by
  obtain⟨a1,a2⟩:=f2 b a;exact{by rw[aj (neD b a)];exact a1,a2}
 obtain⟨W,⟨m0,w0⟩,turn⟩:=q2 A.heap.objs.size hD;generalize hs3:({ A with heap:=A.heap.push { cls:=.type "list", dict:=none,data:=.seq ([]:↥Value).toArray } }:Shared)=l at U ⊢;generalize hH3:upd H2 A.heap.objs.size (.lst [])=H3 at U f3 w0
 have hfo3:∀b∈fp,∃o,l.heap.get? b=!o:=λb a=>by
  obtain⟨o,e⟩:=hfo b a;rw[← hs3];exact{o,Heap.get?_push_of_some _ e}
 have st3:tn 0 l.heap:=TT.keep _ _ _ st2 λb a o e=>by rw[← hs3];exact Heap.get?_push_of_some _ e
 refine wpAny_newFunctionEnv S.nocell (by intro y hy;simp at hy) (λh4 hns4 hsb4=>?_) S.kind;have old:∀b o,l.heap.get? b=!o->h4.get? b=!o:=λb o e=>hsb4.extBut b o (aam (aah e)) (Heap.get?_push_of_some _ e);have J4:=wF U S f3 hfo3 (t':=l.toks+([]:↥(Str×Value)).length) old hns4;generalize hs4:({ l with heap:=h4,toks:=l.toks+([]:↥(Str×Value)).length }:Shared)=s4 at J4 ⊢;have st4:tn 0 s4.heap:=by rw[← hs4];exact TT.keep _ _ _ st3 λb a o e=>old b o e
 have hg':=hg l.heap.objs.size l H3 fp;have ht':=ht l.heap.objs.size l H3 fp;have he':=he l.heap.objs.size l H3 fp;generalize O:bq X (T++F) scope (aK X.env scope.names []) l.heap.objs.size l H3 fp=Y at J4 hg' ht' he';have yA:Y.A=X.A:=by rw[← O];rfl
 have yP:Y.prog=X.prog:=by rw[← O];rfl
 have Z:Y.w=X.w:=by rw[← O];rfl
 have yK:Y.K=X.K:=by rw[← O];rfl
 have yC:Y.calm=true:=by rw[← O];exact hc
 have yE:Y.env=compEnvC scope (aK X.env scope.names []) l.heap.objs.size X.env:=by rw[← O];rfl
 have yX:Y.xe=λ_ _=>False:=by rw[← O];rfl
 have fY:∀{H':Hp},(∀b∈fp,H' b=none)->∀b∈fp,qV Y [] H' b:=λhn b a=>by
  have k:=J4.ok;rw[← O] at k ⊢;exact{hn b a,(k.exf b a).1,k.exfs b a,.inl a,(k.exf b a).2,λp hp=>absurd (show p∈([]:↥(Addr×Obj)) from hp) (by simp)}
 have P:codeAny (model X.prog X.w) X.A (.compLoop (.ListComp elt [{(tg),iter,ifs,0}] scope pos) 0 (.ref it) (.ref A.heap.objs.size) (compEnvC scope (aK X.env scope.names []) l.heap.objs.size X.env))
   (compPost (model X.prog X.w) X.A X.xe use QQ (.ref A.heap.objs.size) l.heap.objs.size) s4:=by
  refine lg (λn s'=>∃i acc t H',Inv Y [] t H' s'/\tn i s'.heap/\(∀b∈fp,H' b=none)/\W i n acc t H') ?_ m0 {0,[],_,H3,J4,st4,λb a=>(f3 b a).1,w0};rintro n s5 ⟨i,acc,L,G,J5,st5,fr5,w5⟩;rcases turn i n acc L G w5 with ⟨stop,qn⟩|⟨go,N,hN,step⟩
  .have fin:=TT.done Y yP Z yK yC i [] s5 L G (λ_ _=>False) J5 (fY fr5) st5 stop;rw[yA] at fin;refine thn fin λr E r=>?_;obtain⟨hr,J6⟩:=r;subst hr
   -- the block is left
   obtain⟨m,hm,_⟩:=id J6.loc;have hm:E.heap.Ns l.heap.objs.size m:=by rw[yE] at hm;exact hm
   have w:=J6.base;have M:=J6.os;have j:=J6.free;have hbare:=J6.bare;have hok6:HOk X.prog X.w G E.heap:=by have:=J6.hok;rw[yP,Z] at this;exact this
   rw[yE] at j;have j:G l.heap.objs.size=none:=j;rw[← O] at w M;have w:Un (frs X.stack) fp H3 G l.heap E.heap:=w;have M:E.os=l.os:=M;have ltC:∀b o,l.heap.get? b=!o->b≠l.heap.objs.size:=λb o e=>aam (aah e);refine fine _ _ G E _ {(m),hm} j ?hl ?hcl U.sz ?hpn (λh7 R=>?_) qn
   case hl=>exact λz=>aaZ _ (z ▸ U.lt)
   case hcl=>exact λx c e z=>by obtain⟨v,o,ho,_⟩:=U.cell x c e;exact ltC c o ho z
   case hpn=>exact λp hp z=>ltC p.1 p.2 (U.pin p hp).1 z
   have same:∀b,b<l.heap.objs.size->h7.get? b=E.heap.get? b:=λb a=>R.2 b (aam a)
   have hok7:HOk X.prog X.w G h7:=λb o e=>by
    refine(hok6 b o e).stay (λc w' hc q=>(R.2 c ?_).trans q) (λ_ q=>q) λ_ _ q=>q;rintro rfl;rcases hc with z|z
    .rw[← z,j] at e;cases e
    .rw[j] at z;cases z
   have un7:Un (frs X.stack) fp H3 G l.heap h7:=
    {λb o e n a hx=>(same b (aah e)).trans (w.keep b o e n a hx),λb o e n a hx=>by
     obtain⟨sl,q⟩:=w.slot b o e n a hx;exact{sl,(same b (aah e)).trans q},w.free,λb o e hx=>by
     obtain⟨o',q⟩:=w.there b o e hx;exact{o',(same b (aah e)).trans q},w.tups,w.frzs,w.tbls}
   exact U.call' (s':={ E with heap:=h7 }) M un7 hok7 hbare λb a=>by
    obtain⟨_,a2,a3,a4,a5,a6⟩:=f3 b a;exact{(a4),a2,a5,a6}
  .have nx:=TT.item Y yP Z yK yC i [] s5 L G (λ_ _=>False) J5 (fY fr5) st5 go;rw[yA] at nx;refine thn nx λr E x0=>?_;obtain⟨u,hr,h6⟩:=x0;subst hr;refine thn h6 λ_ s7 x1=>?_;obtain⟨x,H7,J7,r7,y7,st7,fr7⟩:=x1;have J7':=J7.pinned (fY fr7) (TT.obj _ _ st7);have asg:=hg' _ s7 L H7 x u _ J7' r7 (step x H7 y7);rw[yA,yP,Z,yE,yX] at asg;refine thn asg λ_ s8 x2=>?_;obtain⟨K,H8,J8,q8⟩:=x2;have tst:=ht' _ s8 K H8 _ J8 q8;rw[yA,yP,Z,yE,yX] at tst;refine thn tst λb s9 {(H9),J9,q9}=>?_
   have again:∀{s':Shared} {B:↥V} {t:St} {H':Hp},Inv Y ([]++jm fp s7.heap) t H' s'->N B t H'->∃m,m<n/\∃i acc t H',Inv Y [] t H' s'/\tn i s'.heap/\(∀b∈fp,H' b=none)/\W i m acc t H':=fun {s' B t H'} K7 n7=>by
    obtain⟨m',hm,w7⟩:=hN B t H' n7;refine{m',hm,i+1,B,t,H',K7.unpinned,TT.keep _ _ _ st7 λb a o e=>(K7.pin (b,o) (aal _ (aal _ (eI a e)))).1,λb a=>?_,w7};obtain⟨o,e,d⟩:=TT.obj _ _ st7 b a;exact(K7.pin (b,o) (aal _ (aal _ (eI a e)))).2.1
   cases b with
   | false=>
    rw[if_neg abU] at q9 ⊢;exact again J9 q9
   | true=>
    rw[if_pos rfl] at q9 ⊢;have elv:=he' _ s9 K H9 _ J9 q9;rw[yA,yP,Z,yE,yX] at elv;refine thn elv λu10 s10 x3=>?_;obtain⟨y,H10,J10,r10,q10⟩:=x3;obtain⟨hl,hz,qN⟩:=q10;have app:=lb (X:=Y) ([]++jm fp s7.heap) s10 K H10 (.ref A.heap.objs.size) [y] (.ref A.heap.objs.size) [u10] (λ_ H'=>N (acc++[y]) K H') J10 rfl (.cons r10 .nil) {_,acc,y,rfl,rfl,hl,hz,qN};rw[yA,yP,Z,yX] at app;exact thn app λ_ s11 {_,H11,J11,_,q11}=>again J11 q11
 exact codeAny_compStart_list P (TT.self _ 0 _ _ _ st4 P)
def Ce(i:X.calm=true)(S:CompScope X T F ixs scope)
  (hi:PI X tg iter wi)
  (d:∀C s H fp,PG (bq X (T++F) scope (aK X.env scope.names []) C s H fp) tg g)
  (b:∀C s H fp,FX (bq X (T++F) scope (aK X.env scope.names []) C s H fp) ifs tc)
  (e:∀C s H fp,PE (bq X (T++F) scope (aK X.env scope.names []) C s H fp) elt te)
  (hs:autoParam (∀x,foldedSetIterable iter X.env x=pure x) L2.aI._auto_1) :
  PE X (.ListComp elt [{(tg),iter,ifs,0}] scope pos) (dZ T.length ixs wi g tc te):=by
 intro pins s σ H Q I h;rw[eval_ListComp];exact nK i S hi d b e hs I h λD C l n f {(m),c} _ _ _ _ _ a q=>{m,c,λj k=>{.ref D,l,a j k,rfl,q}}
def Cf{i:Nat}{py c:Pos}(O:X.calm=true)(S:CompScope X T F ixs scope)
  (hi:PI X tg iter wi)
  (L:∀C s H fp,PG (bq X (T++F) scope (aK X.env scope.names []) C s H fp) tg g)
  (G:∀C s H fp,FX (bq X (T++F) scope (aK X.env scope.names []) C s H fp) ifs tc)
  (N:∀C s H fp,PE (bq X (T++F) scope (aK X.env scope.names []) C s H fp) elt te)
  (hs:∀x,foldedSetIterable iter X.env x=pure x) (Q:X.N.Nodup) (k:X.N[i]?=!y) (hx:Loc X.env.scope y)
  (j:swapsWith (.ListComp elt [{(tg),iter,ifs,0}] scope pos) ↑(.Name y py) c.line X.env=pure true) (M:X.fn y=true∨X.env.scope.names.lookup y=!.local) :
  PS X (.Assign [.Name y py] (.ListComp elt [{(tg),iter,ifs,0}] scope pos) c) (pJ (dZ T.length ixs wi g tc te) (eQ i)):=by
 intro pins s σ H D I h;rw[exec_Assign_Name_used _ _ _ _ j];refine aaa (wpAny_standAt (aaa ?_));show wpAny _ X.A (do let _ ← comprehension (.ListComp elt [⟨tg,iter,ifs,0⟩] scope pos) scope X.env _ (newList []) false (eval iter X.env) !(assign (.Name y py) X.env)) _ _ s;refine aaa (thn (nK (use:=!(assign (.Name y py) X.env)) (QQ:=λ_ s'=>SP X pins D .next s') O S hi L G N hs I h λu C t n f {(m),K} fC p r v B d q=>?_) λ_ s' J=>aaf (aaf J));have V:Inv X pins σ t n:=d n.heap (Heap.SameBut.refl _ _);refine wpAny_assign_Name (kP V Q k hx (show RelV (.ref u) (.ref u) from rfl) (λA U W=>?_) M);obtain⟨a,w,l⟩:=W
 have R:C≠a:=by
  rcases l with rfl|l
  .exact p
  .exact λz=>r y a l z.symm
 refine{m,K.sameBut w R,λW E=>{_,t,?_,q}};exact U.turned (t':=A.toks) (λb o P e=>(E.2 b P).trans e) fC p (.inr v) r B
end
def Its(z:Str):It:={λi _=>i<z.cps.size,λi H x H'=>H'=H/\∃c,z.cps.toList[i]?=!c/\x=.str {#[c]},λi _=>i=z.cps.size}
theorem nL{K:Frag}(nm:String)(hnm:["enumerate", "zip", "dict_itemiterator", "dict_reverseitemiterator", "odict_iterator", "itertools.zip_longest", "itertools.pairwise"].contains nm=false)(it:Addr)(z:Str)(t:Tok)
  (W:∀A:Around,A.handled=none->Walks P w A it [it] [it] z.cps.size (SignAt z) (λi h=>h.IsStrIter it nm z t i))
  (hself:∀(A:Around) (i:Nat) (s:Shared) (Q:Value->Shared->Prop) (E:Value->Shared->Prop),s.heap.IsStrIter it nm z t i->Q (.ref it) s->wpAny (model P w) A (pyIter (.ref it)) Q E s):Turn P w K tg (Its z) [it] it (λi h=>h.IsStrIter it nm z t i) where
 mem:=by simp
 obj:=λi h st b hb=>by
  have e:b=it:=(by exists hb);subst e;obtain⟨o,e,c,d⟩:=st;exact{o,e,λv q=>by rw[d] at q;cases q}
 keep:=λi h h' st k=>by
  obtain⟨o,e,r⟩:=st;exact{o,k it (by simp) o e,r}
 item:=by
  intro X hP hw hK hc i pins s σ H E I hf st hg;subst hP hw hK;obtain⟨f0,f1,f2,f3,f4,f5⟩:=hf it (by simp);refine(W X.A (I.ok.hd hc)).item i s _ _ hg st λv h' tk hv st' kk=>?_;obtain⟨c,u,hcx,rfl⟩:=hv;have I1:Inv X pins σ H { s with heap:=h',toks:=tk }:=I.turned (λb o hb e=>kk b o (by exists hb) e) f0 f1 f3 f4 f5;obtain⟨o,e,cl,d⟩:=id st';exact{_,rfl,i9 (s:={ s with heap:=h',toks:=tk }) e cl d hnm {.str {#[c]},H,I1,{(u),rfl},{rfl,c,(by exists hcx),rfl},st',λb hb=>(hf b hb).1}}
 done:=by
  intro X hP hw hK hc i pins s σ H E I hf st hg;subst hP hw hK;obtain⟨f0,f1,f2,f3,f4,f5⟩:=hf it (by simp);have hg:i=z.cps.size:=hg;subst hg;exact(W X.A (I.ok.hd hc)).done s _ _ st λh' tk kk=>{rfl,I.turned (λb o hb e=>kk b o (by exists hb) e) f0 f1 f3 f4 f5}
 self:=λA i s Q E st h=>hself A i s Q E st h
def Ly(tl:TE):TI:=λσ H R=>tl σ H λx H1=>∃z,x=.str z/\R (Its z) H1
def GY{l:Expr}{tl:TE}(j:PE X l tl):PI X tg l (Ly tl):=by
 intro pins s σ H R I h;refine thn (j pins s σ H _ I h) λv a y=>?_;obtain⟨x,H1,c,g,i⟩:=y;obtain⟨z,e,q⟩:=i;subst e;obtain⟨t,rfl⟩:=g
 have fp:∀b∈[a.heap.objs.size],qV X pins H1 b:=λb k=>by
  have e:b=a.heap.objs.size:=(by exists k);subst e;exact c.fpOk (aac _) (c.hok.fresh (aac _))
 cases f:z.cps.all (·<128)
 .exact wpAny_pyIter_wide f {a.heap.objs.size,[a.heap.objs.size],_,_,H1,rfl,c.kept (t':=a.toks) λb o e=>Heap.get?_push_of_some _ e,nL "str_iterator" (by decide) _ z t (λA d=>Walks.strWide d _ z t) (λ_ _ _ _ _ st h=>wpAny_pyIter_striter_wide st h),{_,Heap.get?_push_size _ rfl,rfl,rfl},fp,q}
 .exact wpAny_pyIter_ascii f {a.heap.objs.size,[a.heap.objs.size],_,_,H1,rfl,c.kept (t':=a.toks) λb o e=>Heap.get?_push_of_some _ e,nL "str_ascii_iterator" (by decide) _ z t (λA d=>Walks.strAscii d _ z t) (λ_ _ _ _ _ st h=>wpAny_pyIter_striter_ascii st h),{_,Heap.get?_push_size _ rfl,rfl,rfl},fp,q}
section
variable {no:Nat}        {D:Addr}
end
def isT(t T:String):Bool:=t==T || (t == "bool" && T == "int")
def okT(T:String):Prop:=T = "str" ∨ T = "int" ∨ T = "bool" ∨ T = "list" ∨ T = "tuple" ∨ T = "dict" ∨ T = "NoneType"
def GZ{K:Frag}{t T:String}(a:okT t)(b:okT T):PySem.W.kitOne K (.type t) (.type T)=!(isT t T):=by
 rcases a with rfl|rfl|rfl|rfl|rfl|rfl|rfl <;> rcases b with rfl|rfl|rfl|rfl|rfl|rfl|rfl <;> rfl
def mI(bs:↥Bool):TruthOf P w A (λi v=>∃b,bs[i]?=!b/\v=Value.bool b) (λi=>bs.getD i false):=by
 intro i v s Q E d c;obtain⟨b,a,rfl⟩:=d;have e:bs.getD i false=b:=by rw[List.getD_eq_getElem?_getD,a];rfl
 exact aaL (by rw[← e];exact c)
def rR{bs:↥Bool}:(List.range bs.length).all (λi=>bs.getD i false)=bs.all id:=by
 rw[abj,abM,abM];constructor
 .intro h b a;obtain⟨i,hi,e⟩:=acd.mp a;have:=h i (aca.mpr hi);rw[List.getD_eq_getElem?_getD,List.getElem?_eq_getElem hi,e] at this;exact this
 .intro h i hi;have hi:=aca.mp hi;rw[List.getD_eq_getElem?_getD,List.getElem?_eq_getElem hi];exact h _ (aaJ hi)
def rS{bs:↥Bool}:(List.range bs.length).any (λi=>bs.getD i false)=bs.any id:=by
 rw[abj,aaK,aaK];constructor
 .rintro⟨i,hi,h⟩;have hi:=aca.mp hi;rw[List.getD_eq_getElem?_getD,List.getElem?_eq_getElem hi] at h;exact{_,aaJ hi,h}
 .rintro⟨b,a,h⟩;obtain⟨i,hi,e⟩:=acd.mp a;refine{i,aca.mpr hi,?_};rw[List.getD_eq_getElem?_getD,List.getElem?_eq_getElem hi,e];exact h
def wG{bs:↥Bool}:∀{us:↥Value},Vals (bs.map V.bl) us->us.length=bs.length/\∀(i:Nat) (v:Value),us[i]?=!v->∃b,bs[i]?=!b/\v=Value.bool b:=by
 intro us r;have d:=r.length;rw[abP] at d;refine{d.symm,λi v h=>?_};have hi:i<us.length:=(List.getElem?_eq_some_iff.mp h).1;have a:i<bs.length:=()
 obtain⟨u,c,e⟩:=r.get (i:=i) (x:=.bl bs[i]) (by simp[a]);rw[h] at c;cases c;exact{bs[i],by simp[a],e}
def jt{bs:↥Bool}(I:Inv X pins σ H s)(u:SqL X.K H p (bs.map V.bl))(A:Around)(B:A.handled=none){r:Bool}
  (fn:↥Nat->(Nat->Bool)->Bool) (hr:fn (List.range bs.length) (λi=>bs.getD i false)=r) (q:Q (.bl r) H) :
  wpAny (model X.prog X.w) A (pyIter (.ref p)) (λit a=>∃I fp j n P St k,it=.ref I/\Walks X.prog X.w A I fp j n P St/\St 0 a.heap/\TruthOf X.prog X.w A P k /\
   ∀h' tk,(∀b o,b∉j->a.heap.get? b=!o->h'.get? b=!o)->EP X pins σ Q (.bool (fn (List.range n) k)) { a with heap:=h',toks:=tk }) E s:=by
 obtain⟨its,l,pl,C⟩:=I.list u;obtain⟨x,f⟩:=wG l;refine wpAny_pyIter_list pl.isList ?_
 have ne:p≠s.heap.objs.size:=by
  obtain⟨o,d,_⟩:=pl.isList;exact aam (aah d)
 have c:=Walks.list (prog:=X.prog) (w:=X.w) B s.heap.objs.size p ne its.toArray
 have g:Walks X.prog X.w A s.heap.objs.size [s.heap.objs.size,p] [s.heap.objs.size] bs.length (λi v=>∃b,bs[i]?=!b/\v=Value.bool b) (λi h=>h.IsListIter s.heap.objs.size p i/\h.IsList p its.toArray):=by
  have e:its.toArray.size=bs.length:=by simp[x]
  rw[e] at c;exact { sub:=c.sub,frame:=c.frame,item:=λi s Q E hi st y=>c.item i s Q E hi st λv h' tk t=>y v h' tk (f i v (by exists t)),done:=c.done,self:=c.self }
 refine{s.heap.objs.size,_,_,_,_,_,_,rfl,g,{{_,Heap.get?_push_size _ rfl,rfl,rfl},?_},mI bs,λh' tk m=>?_}
 .obtain⟨o,d,r⟩:=pl.isList;exact{o,Heap.get?_push_of_some _ d,r}
 .refine{.bl r,H,I.kept (h':=h') (t':=tk) λb o e=>m b o ?_ (Heap.get?_push_of_some _ e),by rw[← hr];rfl,q};intro z;have z:b=s.heap.objs.size:=(by exists z);exact absurd (aah e) (by rw[z];exact aaZ _)
def wH(c:X.calm=true):CallR X (.builtin "all") (λxs H Q=>∃(p:Addr) (bs:↥Bool),xs=[.ref p]/\SqL X.K H p (bs.map V.bl)/\Q (.bl (bs.all id)) H):=by
 intro pins s σ H xs us Q I r h;obtain⟨p,bs,rfl,b,q⟩:=h;obtain⟨u,rfl,a⟩:=dS r;cases a;exact call_all_walk (jt I b X.A.in1 (I.ok.hd c) (λl f=>l.all f) rR q)
def wI(c:X.calm=true):CallR X (.builtin "any") (λxs H Q=>∃(p:Addr) (bs:↥Bool),xs=[.ref p]/\SqL X.K H p (bs.map V.bl)/\Q (.bl (bs.any id)) H):=by
 intro pins s σ H xs us Q I r h;obtain⟨p,bs,rfl,b,q⟩:=h;obtain⟨u,rfl,a⟩:=dS r;cases a;exact call_any_walk (jt I b X.A.in1 (I.ok.hd c) (λl f=>l.any f) rS q)
def pW:OpR X (compareOp .In) (λx y H Q=>∃(c:Nat) (j:Str),x=.str {#[c]}/\y=.str j/\Q (.bl (decide (c∈j.cps.toList))) H):=by
 intro pins s σ H x y v u Q I b a h;obtain⟨c,j,rfl,rfl,q⟩:=h;exact rc pins s σ H _ _ v u Q I b a {_,j,rfl,rfl,by rw[PySem.StrLaws.found_one];exact q}
def jT:OpR X (compareOp .NotIn) (λx y H Q=>∃(c:Nat) (j:Str),x=.str {#[c]}/\y=.str j/\Q (.bl (⇑(decide (c∈j.cps.toList)))) H):=by
 intro pins s σ H x y v u Q I b a h;obtain⟨c,j,rfl,rfl,q⟩:=h;exact k6 pins s σ H _ _ v u Q I b a {_,j,rfl,rfl,by rw[PySem.StrLaws.found_one];exact q}
def ie(h:x.cps.toList=y.cps.toList):x=y:=by
 cases x with|mk a=>cases y with|mk b=>exact congrArg Str.mk (Array.toList_inj.mp h)
def cf(x:Str):x.length=x.cps.toList.length:=by simp[Str.length]
def fQ(x y:Str):(x++y).cps.toList=x.cps.toList++y.cps.toList:=by
 show (x.cps++y.cps).toList=_;simp
def fR{α:Type}(xs:↥α)(lo hi:Option Int):↥α:=(xs.drop (HT.sIx xs.length 0 lo)).take (HT.sIx xs.length xs.length hi - HT.sIx xs.length 0 lo)
def sliceRange_one(a b:Nat):sliceRange (a:Int) (b:Int) 1=(List.range (b - a)).map λk=>a+k:=by
 unfold sliceRange;simp only[show (1:Int) > 0 by decide,if_true]
 have e:(if (a:Int)<(b:Int) then ((b:Int) - (a:Int)+1 - 1) / 1 else 0).toNat=b - a:=by
  split <;> (try rw[Int.ediv_one]) <;> nofun
 rw[e];refine abr λk _=>?_;nofun
def pX(lo hi:Option Int)(n:Nat):Builtin.Str.strSliceIndices lo hi 1 n=(List.range (HT.sIx n n hi - HT.sIx n 0 lo)).map λk=>HT.sIx n 0 lo+k:=by
 unfold Builtin.Str.strSliceIndices;rw[← sliceRange_one];simp only[show (1:Int) > 0 by decide,if_true]
 congr 1
 .cases lo with
  |none=>rfl
  |some v=>rw [← HT.clip_eq];dsimp only;split <;> nofun
 .cases hi with
  |none=>rfl
  |some v=>rw [← HT.clip_eq];dsimp only;split <;> nofun
theorem ju{α:Type}(xs:↥α)(a:Nat):∀k:Nat,a+k<=xs.length->((List.range k).map λj=>a+j).filterMap (λi=>xs[i]?)=(xs.drop a).take k
 |0,_=>by simp
 | k+1,h=>by
  have b:a+k<xs.length:=()
  rw[List.range_succ,aae,List.filterMap_append,ju xs a k (),List.take_add_one]
  congr 1
  simp[List.getElem?_drop,b]
def rT(x:Str)(lo hi:Option Int):(Txt.slice x lo hi).cps.toList=fR x.cps.toList lo hi:=by
 have a:x.cps.toList.length=x.length:=by simp[Str.length]
 have h1:=HT.sIx_le x.length 0 (aan _) lo;have h2:=HT.sIx_le x.length x.length (aac _) hi;unfold Txt.slice fR;rw[a,pX];split
 .rename_i b;simp only[beq_self_eq_true,Bool.true_and,List.length_map,List.length_range,beq_iff_eq] at b;have d:HT.sIx x.length 0 lo=0:=()
  have c:HT.sIx x.length x.length hi=x.length:=()
  rw[d,c,aaR,Nat.sub_zero,aai ()]
 .show (List.filterMap (λi=>x.cps[i]?) _).toArray.toList=_;have e:(λi:Nat=>x.cps[i]?)=λi:Nat=>x.cps.toList[i]?:=by funext i;simp
  rw[e];by_cases h:HT.sIx x.length 0 lo<=HT.sIx x.length x.length hi
  .rw[ju x.cps.toList _ _ (by rw[a];nofun)]
  .have f:HT.sIx x.length x.length hi - HT.sIx x.length 0 lo=0:=()
   rw[f];simp
def MQ:V->Option Int->Option Int->Hp->VK->Prop:=λx lo hi H Q=>∃z,x=.str z/\z.length<=sizeLine/\∀y:Str,y.cps.toList=fR z.cps.toList lo hi->Q (.str y) H
def G0:SlR X MQ:=by
 intro pins s σ H x v vl vu lo hi sl Q I f hs pl e h;obtain⟨z,rfl,g,q⟩:=h;obtain⟨t,rfl⟩:=f;refine{"str", _,F.slot_str_getitem.lookup,typeIs_str _ _ _,?_}
 have fin:(Txt.slice z lo hi).length<=sizeLine/\∀t' k,EP X pins σ Q (.str (Txt.slice z lo hi) t') { s with toks:=k }:=
  {aar (Txt.slice_le z _ _) g,λt' k=>{.str _,H,I.tok k,{(t'),rfl},q _ (rT z lo hi)}}
 obtain⟨o,a,b,hd⟩:=hs
 cases pl with
 | none=>
  cases e with
  |none=>exact abx (l:=none) (u:=none) (st:=none) {(o),a,b,hd} rfl (post_val_or_str fin)
  |int j c=>exact abx (l:=none) (u:=!(j,c)) (st:=none) {(o),a,b,hd} rfl (post_val_or_str fin)
 | int i d=>
  cases e with
  |none=>exact abx (l:=!(i,d)) (u:=none) (st:=none) {(o),a,b,hd} rfl (post_val_or_str fin)
  |int j c=>exact abx (l:=!(i,d)) (u:=!(j,c)) (st:=none) {(o),a,b,hd} rfl (post_val_or_str fin)
theorem rV:∀{zs:↥Str} {us:↥Value},Vals (zs.map V.str) us->∃l:↥(Str×Tok),us=strValues l/\l.map (·.1)=zs
 | [],_,r=>by
  rw[List.map_nil] at r;cases r;exact{[],rfl,rfl}
 | z::zs,_,r=>by
  rw[abT] at r
  cases r with
  | cons b a=>
   obtain⟨t,rfl⟩:=b;obtain⟨l,rfl,rfl⟩:=rV a;exact{(z,t)::l,rfl,rfl}
def wJ(K:Frag):V->↥V->Hp->VK->Prop:=λx vs H Q=>∃(z:Str) (p:Addr) (zs:↥Str),x=.str z/\vs=[.ref p]/\SqL K H p (zs.map V.str)/\(zs.map (·.length)).sum+zs.length*z.length<=16777216/\Q (.str (Builtin.Str.glued z zs)) H
def Cg:MtR X "str.join" (wJ X.K):=by
 intro pins s σ H x vs v us Q I a b h;obtain⟨z,p,zs,rfl,rfl,f,d,q⟩:=h;obtain⟨t,rfl⟩:=a;obtain⟨u,rfl,c⟩:=dS b;cases c;obtain⟨its,r,pl,g⟩:=I.list f;obtain⟨l,rfl,e⟩:=rV r;exact SC.join pl.isList e (joinOk_of d) λt' k=>{.str _,H,I.tok k,{(t'),rfl},q}
def ig(zs:↥Str):(Builtin.Str.glued Str.empty zs).cps.toList=(zs.map λz=>z.cps.toList).flatten:=by
 unfold Builtin.Str.glued
 have gen:∀(l:↥Str) (a:Array Nat),(l.foldl (λacc p=>acc++Str.empty.cps++p.cps) a).toList=a.toList++(l.map λz=>z.cps.toList).flatten:=by
  intro l
  induction l with
  |nil=>intro a;simp
  |cons y l b=>intro a;rw [List.foldl_cons,b];simp [Str.empty]
 rw[gen]
 cases zs with
 |nil=>simp[Str.empty]
 |cons y l=>simp
inductive DV where
 |non|bl (b:Bool)|int (i:Int)|str (x:Str)|lst (xs:↥DV)|tup (xs:↥DV)
mutual
inductive Deep(K:Frag)(H:Hp):V->DV->Prop where
 |non:Deep K H .non .non
 |bl (b:Bool):Deep K H (.bl b) (.bl b)
 |int (i:Int):Deep K H (.int i) (.int i)
 |str (x:Str):Deep K H (.str x) (.str x)
 |lst {a:Addr} {xs:↥V} {ds:↥DV}:SqL K H a xs->Deeps K H xs ds->Deep K H (.ref a) (.lst ds)
 |tup {a:Addr} {xs:↥V} {ds:↥DV}:SqT K H a xs->Deeps K H xs ds->Deep K H (.ref a) (.tup ds)
inductive Deeps(K:Frag)(H:Hp):↥V->↥DV->Prop where
 |nil:Deeps K H [] []
 |cons {x:V} {d:DV} {xs:↥V} {ds:↥DV}:Deep K H x d->Deeps K H xs ds->Deeps K H (x::xs) (d::ds)
end
mutual
def deq:DV->DV->Bool
 |.non,.non=>true
 |.bl a,.bl b=>a==b
 |.bl a,.int b=>(if a then 1 else 0)==b
 |.int a,.bl b=>a==(if b then 1 else 0)
 |.int a,.int b=>a==b
 |.str a,.str b=>a==b
 |.lst a,.lst b=>deqs a b
 |.tup a,.tup b=>deqs a b
 |_,_=>false
def deqs:↥DV->↥DV->Bool
 |[],[]=>true
 |a::r,b::s=>deq a b&&deqs r s
 |_,_=>false
end
mutual
def dep:DV->Nat
 |.lst a=>deps a+1
 |.tup a=>deps a+1
 |_=>0
def deps:↥DV->Nat
 |[]=>0
 |a::r=>max (dep a) (deps r)
end
mutual
theorem nM:∀d:DV,deq d d=true
 |.non=>rfl
 |.bl b=>beq_self_eq_true b
 |.int i=>beq_self_eq_true i
 |.str x=>beq_self_eq_true x
 |.lst xs=>deqs_refl xs
 |.tup xs=>deqs_refl xs
theorem deqs_refl:∀ds:↥DV,deqs ds ds=true
 |[]=>rfl
 |d::ds=>ab1.mpr {nM d,deqs_refl ds}
end
def Deeps.length{K:Frag}{H:Hp}{xs:↥V}{ds:↥DV}(h:Deeps K H xs ds):xs.length=ds.length:=-
 Deeps.rec (motive_1:=λ_ _ _=>True) (motive_2:=λxs ds _=>xs.length=ds.length) trivial (λ_=>trivial) (λ_=>trivial) (λ_=>trivial) (λ_ _ _=>trivial) (λ_ _ _=>trivial) rfl (λ_ _ _ t=>congrArg (·+1) t) h
theorem Deeps.get{K:Frag}{H:Hp}:∀{xs:↥V} {ds:↥DV} {i:Nat} {x:V},Deeps K H xs ds->xs[i]?=!x->∃d,ds[i]?=!d/\Deep K H x d/\dep d<=deps ds
 |_,_,_,_,.nil,e=>by simp at e
 | _,_,0,_,.cons h _,e=>by
  simp at e;subst e;exact{_,rfl,h,by simp only[deps];nofun}
 | _,_,i+1,x,.cons h t,e=>by
  obtain⟨d,h1,h2,a⟩:=Deeps.get (i:=i) (x:=x) t (by exists e);exact{d,(by exists h1),h2,by simp only[deps];nofun}
def jv:∀{ds es:↥DV},ds.length=es.length->(List.range ds.length).all (λj=>deq (ds.getD j .non) (es.getD j .non))=deqs ds es:=by
 intro ds
 induction ds with
 | nil=>intro es h;cases es with
  |nil=>rfl
  |cons _ _=>simp at h
 | cons d ds a=>
  intro es h
  cases es with
  |nil=>simp at h
  | cons e es=>
   have h':ds.length=es.length:=(by exists h);rw[abX,List.range_succ_eq_map,aaT,List.all_map];exact congrArg (deq d e&&·) (a h')
theorem jU:∀{ds es:↥DV},ds.length≠es.length->deqs ds es=false
 |[],[],h=>absurd rfl h
 |[],_::_,_=>rfl
 |_::_,[],_=>rfl
 | d::ds,e::es,h=>by
  have h':ds.length≠es.length:=(by exists h);show (deq d e&&deqs ds es)=false;rw[jU h',Bool.and_false]
def wK{ds es:↥DV}:((List.range (min ds.length es.length)).all (λj=>deq (ds.getD j .non) (es.getD j .non))&&ds.length==es.length)=deqs ds es:=by
 by_cases h:ds.length=es.length
 .rw[← jv h,← h,Nat.min_self];simp
 .rw[jU h];simp[h]
def Inv.seq_inj(I:Inv X pins σ H s){ys:↥V}(h:SqL X.K H a xs)(h':SqT X.K H a ys):False:=by
 obtain⟨its,_,p,_⟩:=I.list h;obtain⟨its',_,f,_⟩:=I.tuple h';obtain⟨o,e,c,_⟩:=p.isList;obtain⟨o',b,d,_⟩:=f;rw[e] at b;cases b;rw[c] at d;injection d with z
 exact absurd z (by decide)
def Deep.inj(I:Inv X pins σ H s){x:V}{d e:DV}(h:Deep X.K H x d):Deep X.K H x e->d=e:=by
 refine Deep.rec (motive_1:=λx d _=>∀e,Deep X.K H x e->d=e) (motive_2:=λxs ds _=>∀es,Deeps X.K H xs es->ds=es) ?_ ?_ ?_ ?_ (λh _ t e h'=>?_) (λh _ t e h'=>?_) ?_ (λ_ _ h t e h'=>?_) h e
 .intro e h';cases h';rfl
 .intro _ e h';cases h';rfl
 .intro _ e h';cases h';rfl
 .intro _ e h';cases h';rfl
 .cases h' with
  | lst h2 t'=>
   have e:=I.list_inj h h2;subst e;rw[t _ t']
  |tup h2 _=>exact (I.seq_inj h h2).elim
 .cases h' with
  | tup h2 t'=>
   have e:=I.tuple_inj h h2;subst e;rw[t _ t']
  |lst h2 _=>exact (I.seq_inj h2 h).elim
 .intro e h';cases h';rfl
 .cases h' with|cons h2 a=>rw[h _ h2,t _ a]
def Deeps.inj(I:Inv X pins σ H s){xs:↥V}{ds es:↥DV}(h:Deeps X.K H xs ds):Deeps X.K H xs es->ds=es:=-
 Deeps.rec (motive_1:=λ_ _ _=>True) (motive_2:=λxs ds _=>∀es,Deeps X.K H xs es->ds=es) trivial (λ_=>trivial) (λ_=>trivial) (λ_=>trivial) (λ_ _ _=>trivial) (λ_ _ _=>trivial) (λes h'=>by cases h';rfl) (λh _ _ t es h'=>by cases h' with|cons h2 a=>rw[h.inj I h2,t _ a]) h es
def ii(I:Inv X pins σ H s):∀(n:Nat) (d e:DV) (x y:V) (u v:Value) (A:Around),dep d<=n->A.units+n<cLine->Deep X.K H x d->Deep X.K H y e->RelV x u->RelV y v ->
  SeqAt.RcAt A s u v (deq d e)/\SeqAt.RcNeAt A s u v (⇑(deq d e))/\SeqAt.EqAt A s u v (deq d e):=by
 intro n
 induction n with
 | zero=>
  intro d e x y u v A hd W z r q f;have c:A.units<cLine:=()
  cases z with
  |lst _ _=>simp only [dep] at hd;nofun
  |tup _ _=>simp only [dep] at hd;nofun
  | non=>
   cases q
   cases r with
   |non=>cases f;exact{SeqAt.RcAt.none_none,SeqAt.RcNeAt.none_none,SeqAt.EqAt.same _}
   |bl b=>cases f;exact{SeqAt.RcAt.none_bool b,SeqAt.RcNeAt.none_bool b,SeqAt.EqAt.none_bool b}
   |int b=>obtain⟨t,rfl⟩:=f;exact{SeqAt.RcAt.none_int b t,SeqAt.RcNeAt.none_int b t,SeqAt.EqAt.none_int b t}
   |str b=>obtain⟨t,rfl⟩:=f;exact{SeqAt.RcAt.none_str b t,SeqAt.RcNeAt.none_str b t,SeqAt.EqAt.none_str b t}
   |lst h _=>cases f;obtain⟨its,_,p,_⟩:=I.list h;exact{SeqAt.RcAt.none_list p.isList c,SeqAt.RcNeAt.none_list p.isList c,SeqAt.EqAt.none_list p.isList c}
   |tup h _=>cases f;obtain⟨its,_,p,_⟩:=I.tuple h;exact{SeqAt.RcAt.none_tuple p c,SeqAt.RcNeAt.none_tuple p c,SeqAt.EqAt.none_tuple p c}
  | bl a=>
   cases q
   cases r with
   |non=>cases f;exact{SeqAt.RcAt.bool_none a,SeqAt.RcNeAt.bool_none a,SeqAt.EqAt.bool_none a}
   |bl b=>cases f;exact{SeqAt.RcAt.bool_bool a b,SeqAt.RcNeAt.bool_bool a b,SeqAt.EqAt.bool_bool a b}
   |int b=>obtain⟨t,rfl⟩:=f;exact{SeqAt.RcAt.bool_int a b t,SeqAt.RcNeAt.bool_int a b t,SeqAt.EqAt.bool_int a b t}
   |str b=>obtain⟨t,rfl⟩:=f;exact{SeqAt.RcAt.bool_str a b t,SeqAt.RcNeAt.bool_str a b t,SeqAt.EqAt.bool_str a b t}
   |lst h _=>cases f;obtain⟨its,_,p,_⟩:=I.list h;exact{SeqAt.RcAt.bool_list a p.isList c,SeqAt.RcNeAt.bool_list a p.isList c,SeqAt.EqAt.bool_list a p.isList c}
   |tup h _=>cases f;obtain⟨its,_,p,_⟩:=I.tuple h;exact{SeqAt.RcAt.bool_tuple a p c,SeqAt.RcNeAt.bool_tuple a p c,SeqAt.EqAt.bool_tuple a p c}
  | int a=>
   obtain⟨t',rfl⟩:=q
   cases r with
   |non=>cases f;exact{SeqAt.RcAt.int_none a t',SeqAt.RcNeAt.int_none a t',SeqAt.EqAt.int_none a t'}
   |bl b=>cases f;exact{SeqAt.RcAt.int_bool a t' b,SeqAt.RcNeAt.int_bool a t' b,SeqAt.EqAt.int_bool a t' b}
   |int b=>obtain⟨t,rfl⟩:=f;exact{SeqAt.RcAt.int_int a t' b t,SeqAt.RcNeAt.int_int a t' b t,SeqAt.EqAt.int_int a t' b t}
   |str b=>obtain⟨t,rfl⟩:=f;exact{SeqAt.RcAt.int_str a t' b t,SeqAt.RcNeAt.int_str a t' b t,SeqAt.EqAt.int_str a t' b t}
   |lst h _=>cases f;obtain⟨its,_,p,_⟩:=I.list h;exact{SeqAt.RcAt.int_list a t' p.isList c,SeqAt.RcNeAt.int_list a t' p.isList c,SeqAt.EqAt.int_list a t' p.isList c}
   |tup h _=>cases f;obtain⟨its,_,p,_⟩:=I.tuple h;exact{SeqAt.RcAt.int_tuple a t' p c,SeqAt.RcNeAt.int_tuple a t' p c,SeqAt.EqAt.int_tuple a t' p c}
  | str a=>
   obtain⟨t',rfl⟩:=q
   cases r with
   |non=>cases f;exact{SeqAt.RcAt.str_none a t',SeqAt.RcNeAt.str_none a t',SeqAt.EqAt.str_none a t'}
   |bl b=>cases f;exact{SeqAt.RcAt.str_bool a t' b,SeqAt.RcNeAt.str_bool a t' b,SeqAt.EqAt.str_bool a t' b}
   |int b=>obtain⟨t,rfl⟩:=f;exact{SeqAt.RcAt.str_int a t' b t,SeqAt.RcNeAt.str_int a t' b t,SeqAt.EqAt.str_int a t' b t}
   |str b=>obtain⟨t,rfl⟩:=f;exact{SeqAt.RcAt.str_str a t' b t,SeqAt.RcNeAt.str_str a t' b t,SeqAt.EqAt.str_str a t' b t}
   |lst h _=>cases f;obtain⟨its,_,p,_⟩:=I.list h;exact{SeqAt.RcAt.str_list a t' p.isList c,SeqAt.RcNeAt.str_list a t' p.isList c,SeqAt.EqAt.str_list a t' p.isList c}
   |tup h _=>cases f;obtain⟨its,_,p,_⟩:=I.tuple h;exact{SeqAt.RcAt.str_tuple a t' p c,SeqAt.RcNeAt.str_tuple a t' p c,SeqAt.EqAt.str_tuple a t' p c}
 | succ n M=>
  intro d e x y u v A hd W z r q f;have c:A.units<cLine:=()
  have items:∀{xs ys:↥V} {ds es:↥DV} {us vs:↥Value},Deeps X.K H xs ds->Deeps X.K H ys es->deps ds<=n->Vals xs us->Vals ys vs->∀j (h1:j<us.toArray.size) (h2:j<vs.toArray.size),SeqAt.EqAt A.in1 s us.toArray[j] vs.toArray[j] (deq (ds.getD j .non) (es.getD j .non)):=by
   intro xs ys ds es us vs E D hn o i j h1 h2;have G:j<us.length:=(by exists h1);have F:j<vs.length:=(by exists h2);have l1:=o.length;have l2:=i.length;have ex:xs[j]?=!(xs[j]'()):=List.getElem?_eq_getElem ();have O:ys[j]?=!(ys[j]'()):=List.getElem?_eq_getElem ();obtain⟨d1,w,R,b1⟩:=E.get ex;obtain⟨Z,Y,p2,b2⟩:=D.get O;obtain⟨L,f1,Q⟩:=o.get ex;obtain⟨K,f2,P⟩:=i.get O
   have g1:us.toArray[j]=L:=by
    have:us[j]?=↑us[j]:=List.getElem?_eq_getElem G;rw[f1] at this;simpa using (aak this).symm
   have g2:vs.toArray[j]=K:=by
    have:vs[j]?=↑vs[j]:=List.getElem?_eq_getElem F;rw[f2] at this;simpa using (aak this).symm
   rw[g1,g2,List.getD_eq_getElem?_getD,List.getD_eq_getElem?_getD,w,Y];exact(M d1 Z _ _ L K A.in1 () (by show A.units+1+n<cLine;nofun) R p2 Q P).2.2
  by_cases B:dep d<=0
  .exact M d e x y u v A () () z r q f
  cases z with
  |non=>simp only [dep] at B;nofun
  |bl _=>simp only [dep] at B;nofun
  |int _=>simp only [dep] at B;nofun
  |str _=>simp only [dep] at B;nofun
  | @lst a xs ds h t=>
   cases q;simp only[dep] at hd;obtain⟨its,o,p,U⟩:=I.list h
   cases r with
   |non=>cases f;exact{SeqAt.RcAt.list_none p.isList c,SeqAt.RcNeAt.list_none p.isList c,SeqAt.EqAt.list_none p.isList c}
   |bl b=>cases f;exact{SeqAt.RcAt.list_bool b p.isList c,SeqAt.RcNeAt.list_bool b p.isList c,SeqAt.EqAt.list_bool b p.isList c}
   |int b=>obtain⟨k,rfl⟩:=f;exact{SeqAt.RcAt.list_int b k p.isList c,SeqAt.RcNeAt.list_int b k p.isList c,SeqAt.EqAt.list_int b k p.isList c}
   |str b=>obtain⟨k,rfl⟩:=f;exact{SeqAt.RcAt.list_str b k p.isList c,SeqAt.RcNeAt.list_str b k p.isList c,SeqAt.EqAt.list_str b k p.isList c}
   | tup h' _=>
    cases f;obtain⟨its',_,l,_⟩:=I.tuple h';exact{SeqAt.RcAt.list_tuple p.isList l c,SeqAt.RcNeAt.list_tuple p.isList l c,SeqAt.EqAt.list_tuple p.isList l c}
   | @lst b ys es h' t'=>
    cases f;obtain⟨its',i,l,C⟩:=I.list h';have l1:=o.length;have l2:=i.length;have T:=t.length;have S:=t'.length
    have g:SeqAt.RcAt A s (.ref a) (.ref b) (deqs ds es)/\SeqAt.RcNeAt A s (.ref a) (.ref b) (⇑(deqs ds es)):=by
     by_cases N:ds.length=es.length
     .have w:(List.range its.toArray.size).all (λj=>deq (ds.getD j .non) (es.getD j .non))=deqs ds es:=by
       rw[← jv N,show its.toArray.size=ds.length by simp;nofun]
      rw[← w];exact{SeqAt.RcAt.lists p.isList l.isList (by simp;nofun) c (items t t' () o i),SeqAt.RcNeAt.lists p.isList l.isList (by simp;nofun) c (items t t' () o i)}
     .rw[jU N];exact{SeqAt.RcAt.lists_lengths p.isList l.isList (by simp;nofun) c,SeqAt.RcNeAt.lists_lengths p.isList l.isList (by simp;nofun) c}
    refine{g.1,g.2,?_};show SeqAt.EqAt A s (.ref a) (.ref b) (deqs ds es);by_cases m:a=b
    .subst m;have J:=I.list_inj h h';subst J;rw[Deeps.inj I t t',deqs_refl];exact SeqAt.EqAt.same _
    .exact SeqAt.EqAt.of_refs m g.1
  | @tup a xs ds h t=>
   cases q;simp only[dep] at hd;obtain⟨its,o,p,U⟩:=I.tuple h
   cases r with
   |non=>cases f;exact{SeqAt.RcAt.tuple_none p c,SeqAt.RcNeAt.tuple_none p c,SeqAt.EqAt.tuple_none p c}
   |bl b=>cases f;exact{SeqAt.RcAt.tuple_bool b p c,SeqAt.RcNeAt.tuple_bool b p c,SeqAt.EqAt.tuple_bool b p c}
   |int b=>obtain⟨k,rfl⟩:=f;exact{SeqAt.RcAt.tuple_int b k p c,SeqAt.RcNeAt.tuple_int b k p c,SeqAt.EqAt.tuple_int b k p c}
   |str b=>obtain⟨k,rfl⟩:=f;exact{SeqAt.RcAt.tuple_str b k p c,SeqAt.RcNeAt.tuple_str b k p c,SeqAt.EqAt.tuple_str b k p c}
   | lst h' _=>
    cases f;obtain⟨its',_,l,_⟩:=I.list h';exact{SeqAt.RcAt.tuple_list p l.isList c,SeqAt.RcNeAt.tuple_list p l.isList c,SeqAt.EqAt.tuple_list p l.isList c}
   | @tup b ys es h' t'=>
    cases f;obtain⟨its',i,l,C⟩:=I.tuple h';have l1:=o.length;have l2:=i.length;have T:=t.length;have S:=t'.length
    have w:((List.range (min its.toArray.size its'.toArray.size)).all (λj=>deq (ds.getD j .non) (es.getD j .non))&&its.toArray.size==its'.toArray.size)=deqs ds es:=by
     rw[← wK,show its.toArray.size=ds.length by simp;nofun,show its'.toArray.size=es.length by simp;nofun]
    have g:SeqAt.RcAt A s (.ref a) (.ref b) (deqs ds es)/\SeqAt.RcNeAt A s (.ref a) (.ref b) (⇑(deqs ds es)):=by
     rw[← w];exact{SeqAt.RcAt.tuples p l c (items t t' () o i),SeqAt.RcNeAt.tuples p l c (items t t' () o i)}
    refine{g.1,g.2,?_};show SeqAt.EqAt A s (.ref a) (.ref b) (deqs ds es);by_cases m:a=b
    .subst m;have J:=I.tuple_inj h h';subst J;rw[Deeps.inj I t t',deqs_refl];exact SeqAt.EqAt.same _
    .exact SeqAt.EqAt.of_refs m g.1
def MR(K:Frag):R2:=λx y H Q=>∃d e,Deep K H x d/\Deep K H y e/\dep d<=40/\Q (.bl (deq d e)) H
def MS(K:Frag):R2:=λx y H Q=>∃d e,Deep K H x d/\Deep K H y e/\dep d<=40/\Q (.bl (⇑(deq d e))) H
def G1(g:X.A.units+64<cLine):OpR X (compareOp .Eq) (MR X.K):=by
 intro pins s σ H x y v u Q I b a h;obtain⟨d,e,hd,f,c,q⟩:=h;exact(ii I 40 d e x y v u X.A c () hd f b a).1 _ _ _ _ {.bl _,H,I,rfl,q}
def G2(g:X.A.units+64<cLine):OpR X (compareOp .NotEq) (MS X.K):=by
 intro pins s σ H x y v u Q I b a h;obtain⟨d,e,hd,f,c,q⟩:=h;exact(ii I 40 d e x y v u X.A c () hd f b a).2.1 _ _ _ _ {.bl _,H,I,rfl,q}
structure Own(P:Program)(w:World)(K:Frag)(mg:Str->Option Value)(base:Heap)(x:Str)(k:Nat)(ps:↥Str)(sp:Sp):Prop where
 ex:∃(f:Addr) (fd:FuncData),FnOk P w K mg base CX0 k f fd ps sp/\mg x=!(.ref f)/\PySem.W.keepIn K (.ref f)=true/\Binds K fd ps []
def Glo(mg:Str->Option Value)(x:Str)(v:V):Prop:=∃u,mg x=!u/\RelV v u
def G3{e:Expr}{es:↥Expr}{t:TA}{p:Pos}(O:Own X.prog X.w X.K X.mg X.base x k ps sp)(hr:Room k X.A)(l:PA X (e::es) t)(g:autoParam (Gl X x) L2.aR._auto_1)
  (b:autoParam ((x==("__debug__" : Str))=false) L2.aD._auto_1) (i:autoParam (starEach (e::es) X.env=(false,eval e X.env)::starEach es X.env) L2.aR._auto_1) (a:autoParam ((backTo pos (starEach es X.env)).any (·.1)=false) L2.aR._auto_1) :
  PE X (.Call (.Name x p) (e::es) [] pos) (kS sp [] E0 t):=by
 obtain⟨f,fd,F,c,d,j⟩:=O.ex;exact BF F hr g c d j .nil wD l b i a
def zW(h:Glo X.mg x v)(b:autoParam (Gl X x) L2.aR._auto_1)(hd:autoParam ((x==("__debug__" : Str))=false) L2.aD._auto_1):PE X (.Name x pos) (tC v):=by
 obtain⟨u,a,r⟩:=h;exact Bc b a r hd
def Lz{T:String}(c:X.mg x=none)(a:bootBuiltins x=!(.type T))(d:autoParam (Gl X x) L2.aR._auto_1)(b:autoParam (x ≠ "__name__") L2.aD._auto_1)(hd:autoParam ((x==("__debug__" : Str))=false) L2.aD._auto_1):PE X (.Name x pos) (tC (.ty T)):=-
 Bd d c a rfl b hd
def G4(K:Frag):V->Option Int->Option Int->Hp->VK->Prop:=λx lo hi H Q=>MQ x lo hi H Q∨MO K x lo hi H Q∨MK K x lo hi H Q
def zX:SlR X (G4 X.K):=-G0.or (BU.or GN)
def FY(K:Frag):↥V->Hp->VK->Prop:=λxs H Q=>(∃z,xs=[.str z]/\z.length<=sizeLine/\Q (.int z.length) H)∨(∃p ys,xs=[.ref p]/\(SqL K H p ys∨SqT K H p ys)/\Q (.int ys.length) H)∨(∃a kvs,xs=[V.ref a]/\Rd H a (.dK kvs)/\Q (.int kvs.length) H)
def pY:CallR X (.builtin "len") (λxs H Q=>∃a kvs,xs=[V.ref a]/\Rd H a (.dK kvs)/\Q (.int kvs.length) H):=by
 intro pins s σ H xs us Q I r h;obtain⟨a,kvs,rfl,c,q⟩:=h;obtain⟨u,rfl,b⟩:=dS r;cases b;exact Lu I c λt s' d=>{.int kvs.length,H,d,{(t),rfl},q}
def DGet.kR{kvs:↥(Key×V)}{k:Key}(e:Rd H a (.dK kvs)):DGet H a (kV k) (gC kvs k):=-.inl {(kvs),k,e,rfl,rfl}
def rW:CallR X (.builtin "len") (FY X.K):=-k9.or (k7.or pY)
def LA:↥V->Hp->VK->Prop:=λxs H Q=>∃i j,xs=[.int i,.int j]/\Q (.int (if j > i then j else i)) H
def LB:↥V->Hp->VK->Prop:=λxs H Q=>∃i j,xs=[.int i,.int j]/\Q (.int (if j<i then j else i)) H
def rX(a:X.calm=true):CallR X (.builtin "max") LA:=-rf a
def rY(a:X.calm=true):CallR X (.builtin "min") LB:=-rh a
def KE(K:Frag):↥V->Hp->VK->Prop:=λxs H Q=>∃(p:Addr) (bs:↥Bool),xs=[.ref p]/\SqL K H p (bs.map V.bl)/\Q (.bl (bs.all id)) H
def KF(K:Frag):↥V->Hp->VK->Prop:=λxs H Q=>∃(p:Addr) (bs:↥Bool),xs=[.ref p]/\SqL K H p (bs.map V.bl)/\Q (.bl (bs.any id)) H
def rZ(a:X.calm=true):CallR X (.builtin "all") (KE X.K):=-wH a
def r8(a:X.calm=true):CallR X (.builtin "any") (KF X.K):=-wI a
def rInS:R2:=λx y H Q=>∃(c:Nat) (j:Str),x=.str {#[c]}/\y=.str j/\Q (.bl (decide (c∈j.cps.toList))) H
def Ch:R2:=λx y H Q=>∃(c:Nat) (j:Str),x=.str {#[c]}/\y=.str j/\Q (.bl (⇑(decide (c∈j.cps.toList)))) H
def MT(K:Frag):R2:=λx y H Q=>rInS x y H Q∨rIn K false x y H Q
def r9(K:Frag):R2:=λx y H Q=>Ch x y H Q∨rIn K true x y H Q
def G5:OpR X (compareOp .In) (MT X.K):=-OpR.or pW rE
def sd:OpR X (compareOp .NotIn) (r9 X.K):=-OpR.or jT kZ
section
variable    {R:Bool->Hp->Prop} {QA:↥V->Hp->Prop} {D:Ends} {K:Frag}
end
def bt{o:HO}(a:H p=none):Same H (upd H p o):=-λb u h=>by rw[aj (cx h a)];exact h
def SqT.same{K:Frag}(h:SqT K H a xs)(e:Same H H'):SqT K H' a xs:=by
 rcases h with (h|⟨o,h⟩)|h
 .exact .inl (.inl (e _ _ h))
 .exact .inl (.inr {o,e _ _ h})
 .exact .inr h
def Ci(N:↥Str)(names:↥(Str×NameKind)):↥Str->↥Nat->Bool
 |[],[]=>true
 |x::F,i::ixs=>(N[i]?==!x)&&(names.lookup x==!.free)&&Ci N names F ixs
 |_,_=>false
theorem nN{N:↥Str}{names:↥(Str×NameKind)}:∀{F:↥Str} {ixs:↥Nat},Ci N names F ixs=true->ixs.length=F.length /\
  ∀(j i:Nat) (x:Str),ixs[j]?=!i->F[j]?=!x->N[i]?=!x/\names.lookup x=!.free
 |[],[],_=>{rfl,λj i x h=>by simp at h}
 |[],_::_,h=>(abU h).elim
 |_::_,[],h=>(abU h).elim
 | y::F,k::ixs,h=>by
  obtain⟨h,c⟩:=ab1.mp h;obtain⟨h1,h2⟩:=ab1.mp h;replace h1:=eq_of_beq h1;replace h2:=eq_of_beq h2;obtain⟨l,r⟩:=nN c;refine{by rw[abX,abX,l],λj i x a b=>?_}
  cases j with
  | zero=>
   simp at a b;subst a b;exact{(h1),h2}
  |succ j=>exact r j i x (by exists a) (by exists b)
def MU(names out:↥(Str×NameKind)):Bool:=names.all λy=>(y.2 != .cell)&&(y.2 != .local || names.lookup y.1==!.local)&&(y.2 != .free || out.lookup y.1==↑.cell || out.lookup y.1==!.free)
def CompScope.of(kind:scope.kind=.function)(h1:Ci X.N scope.names F ixs=true)(h2:MU scope.names X.env.scope.names=true):CompScope X T F ixs scope:=by
 obtain⟨l,c⟩:=nN h1;unfold MU at h2;rw[abM] at h2;refine{kind,λy a=>?_,λy a e=>?_,λj i x=>c j i x,l,λy a e=>?_}
 .have:=h2 y a;simp only[Bool.and_eq_true] at this;simpa using this.1.1
 .have:=h2 y a;simp only[Bool.and_eq_true] at this;have q:=this.1.2;rw[e] at q;simpa using q
 .have:=h2 y a;simp only[Bool.and_eq_true] at this;have q:=this.2;rw[e] at q;simpa using q
def KG(K:Frag):R2:=λx y H Q=>rEq x y H Q∨MR K x y H Q
def KH(K:Frag):R2:=λx y H Q=>rNe x y H Q∨MS K x y H Q
def G6(a:X.A.units+64<cLine):OpR X (compareOp .Eq) (KG X.K):=-Lf.or (G1 a)
def G7(a:X.A.units+64<cLine):OpR X (compareOp .NotEq) (KH X.K):=-Lg.or (G2 a)
end L2
namespace L2
open PySem
variable{α:Type}
def zY{xs:↥α}{i:Int}(b:0<=i)(h:i<xs.length):∃c,atI xs i=!c/\c∈xs:=by
 obtain⟨k,rfl⟩:=abC b;have a:k<xs.length:=()
 exact{xs[k],cE (List.getElem?_eq_getElem a),aaJ a}
def wL{xs:↥α}{lo hi:Option Int}{c:α}(h:c∈fR xs lo hi):c∈xs:=-abN (abm h)
def se(xs:↥α)(k:Nat):fR xs none ↑(k:Int)=xs.take k:=by
 unfold fR;rw[HT.sIx_none,HT.sIx_nat,Nat.sub_zero,aaR];by_cases h:k<=xs.length
 .rw[Nat.min_eq_left h]
 .rw[Nat.min_eq_right (),aai (aac _),aai ()]
def cG(xs:↥α)(k:Nat):fR xs ↑(k:Int) none=xs.drop k:=by
 unfold fR;rw[HT.sIx_none,HT.sIx_nat];by_cases h:k<=xs.length
 .rw[Nat.min_eq_left h,aai (by rw[aaN];nofun)]
 .rw[Nat.min_eq_right (),List.drop_of_length_le (aac _),List.drop_of_length_le ()];simp
def sg{z:Str}{l:↥Nat}(h:z.cps.toList=l):z.length=l.length:=by rw[← h];simp[Str.length]
end L2
namespace L2
open PySem PySem.Spec PyProof.Rows
variable{o tg l:Expr}{es:↥Expr}{to tl:TE}{name:Str}{apos cpos:Pos}{T:String}{r:V->↥V->Hp->VK->Prop}
section
variable {X:Cx}
def G8(K:Frag)(a:X.A.units+64<cLine)(h:autoParam (X.K=K) L2.aR._auto_1):OpR X (compareOp .Eq) (KG K):=by subst h;exact G6 a
def G9(K:Frag)(a:X.A.units+64<cLine)(h:autoParam (X.K=K) L2.aR._auto_1):OpR X (compareOp .NotEq) (KH K):=by subst h;exact G7 a
def Cj(K:Frag)(h:autoParam (X.K=K) L2.aR._auto_1):SlR X (G4 K):=by subst h;exact zX
def sh(K:Frag)(h:autoParam (X.K=K) L2.aR._auto_1):CallR X (.builtin "len") (FY K):=by subst h;exact rW
def si(K:Frag)(a:X.calm=true)(h:autoParam (X.K=K) L2.aR._auto_1):CallR X (.builtin "all") (KE K):=by subst h;exact rZ a
def sj(K:Frag)(a:X.calm=true)(h:autoParam (X.K=K) L2.aR._auto_1):CallR X (.builtin "any") (KF K):=by subst h;exact r8 a
def wM(K:Frag)(h:autoParam (X.K=K) L2.aR._auto_1):MtR X "str.join" (wJ K):=by subst h;exact Cg
def Ha{e:Expr}{t:TA}{id:String}(K:Frag)(g:PlainAttrs T)(slot:Slot T name id)(f:typeOf (.builtin id)=pure (.type "method_descriptor"))(j:MtR X id r)(i:PE X o to)(k:PA X (e::es) t)
  (l:autoParam (X.K=K) L2.aR._auto_1) (c:autoParam (attributeBase o name X.env (eval o X.env)=eval o X.env) L2.aR._auto_1)
  (d:autoParam (((backTo cpos (starEach (e::es) X.env)).all (λx=>⇑x.1)&&(backToKw cpos (keywordEach [] X.env)).all (λx=>x.1.isSome)
   && decide ((e::es).length+([]:↥Keyword).length+(if ([]:↥Keyword).isEmpty then 0 else 1)<30))=true) L2.aR._auto_1)
  (b:autoParam ((apos.endLine==cpos.line)=true) L2.aR._auto_1) (hs:autoParam (starEach (e::es) X.env=(false,eval e X.env)::starEach es X.env) L2.aR._auto_1) (a:autoParam ((backTo cpos (starEach es X.env)).any (·.1)=false) L2.aR._auto_1) :
  PE X (.Call (.Attribute o name apos) (e::es) [] cpos) (tBM K T r to t):=by subst l;exact Lp g slot f j i k c d b hs a
def Ck{id:String}(K:Frag)(d:PlainAttrs T)(slot:Slot T name id)(c:typeOf (.builtin id)=pure (.type "method_descriptor"))(f:MtR X id r)(e:PE X o to)
  (g:autoParam (X.K=K) L2.aR._auto_1) (b:autoParam (attributeBase o name X.env (eval o X.env)=eval o X.env) L2.aR._auto_1) (a:autoParam ((apos.endLine==cpos.line)=true) L2.aR._auto_1):PE X (.Call (.Attribute o name apos) [] [] cpos) (KD K T r to):=by subst g;exact GT d slot c f e b a
def Cm{k:Nat}{t:TGs}{n:Nat}{pos:Pos}(K:Frag)(c:X.calm=true)(h:PGs X es t)(d:autoParam (X.K=K) L2.aR._auto_1)
  (b:autoParam ((assignEach es X.env).length=n) L2.aR._auto_1) (a:autoParam ((assignEach es X.env).findIdx? (·.1)=none) L2.aR._auto_1):PG X (.Tuple es k pos) (Gq K n t):=by subst d;exact Gr c h b a
def wN(K:Frag)(a:PE X l tl)(b:autoParam (X.K=K) L2.aR._auto_1):PI X tg l (mz K tl):=by subst b;exact Bq a
def Cn(K:Frag)(a:PE X l tl)(b:autoParam (X.K=K) L2.aR._auto_1):PI X tg l (Kx K tl):=by subst b;exact Gw a
end
end L2
namespace L2
open PySem
end L2
namespace L2
theorem gK{α:Type}:∀zs:↥α,(zs.map λ_=>1).sum=zs.length
 |[]=>rfl
 |z::zs=>by rw[abT,List.sum_cons,gK zs,abX];nofun
end L2
namespace L2
open PySem PySem.Spec PyProof.Rows
variable{e a b c o tg iter l:Expr}{es:↥Expr}{env:Env}{pos p apos cpos:Pos}{X:Cx}{te ta tb to tl:TE}{t:TA}{x name:Str}{k i:Nat}{ps:↥Str}{sp:Sp}{r:↥V->Hp->VK->Prop}{T:String}{op op':CmpOp}{tc tA tB':TT}{r':R2}{trs:↥(TE×TE)}{wi:TI}{g:TG}{st:Stmt}{u:TS}{body:↥Stmt}
def a9:Expr->Bool
 |.Starred _ _=>false
 |_=>true
def aP(h:a9 e=true):starEach (e::es) env=(false,eval e env)::starEach es env:=by
 cases e <;> first|rfl|(cases h)
def cX(h:es.all a9=true):(backTo pos (starEach es env)).any (·.1)=false:=by
 induction es with
 |nil=>rfl
 | cons e es a=>
  rw[aaT,ab2] at h;rw[aP h.1];have:=a h.2;simpa [backTo] using this
def pa_c(b:PE X e te)(hr:PA X es t)(a:autoParam (a9 e=true) L2.aR._auto_1):PA X (e::es) (cQ te t):=-BC b hr (aP a)
def Co(O:Own X.prog X.w X.K X.mg X.base x k ps sp)(hr:Room k X.A)(d:PA X (e::es) t)(c:autoParam (Gl X x) L2.aR._auto_1)(b:autoParam ((e::es).all a9=true) L2.aR._auto_1)
  (a:autoParam ((x==("__debug__" : Str))=false) L2.aD._auto_1):PE X (.Call (.Name x p) (e::es) [] pos) (kS sp [] E0 t):=by
 have h:=b;rw[aaT,ab2] at h;exact G3 O hr d c a (aP h.1) (cX h.2)
def sk{id:String}(i:CallR X (.builtin id) r)(f:X.mg x=none)(c:bootBuiltins x=!(.builtin id))(j:PA X (e::es) t)(g:autoParam (Gl X x) L2.aR._auto_1)(a:autoParam ((e::es).all a9=true) L2.aR._auto_1)(d:autoParam (x ≠ "__name__") L2.aD._auto_1)
  (b:autoParam ((x==("__debug__" : Str))=false) L2.aD._auto_1):PE X (.Call (.Name x p) (e::es) [] pos) (tCB r t):=by
 have h:=a;rw[aaT,ab2] at h;exact wn i g f c j d b (aP h.1) (cX h.2)
def sn(i:CallR X (.type T) r)(f:X.mg x=none)(c:bootBuiltins x=!(.type T))(j:PA X (e::es) t)(g:autoParam (Gl X x) L2.aR._auto_1)(a:autoParam ((e::es).all a9=true) L2.aR._auto_1)(d:autoParam (x ≠ "__name__") L2.aD._auto_1)
  (b:autoParam ((x==("__debug__" : Str))=false) L2.aD._auto_1):PE X (.Call (.Name x p) (e::es) [] pos) (tCB r t):=by
 have h:=a;rw[aaT,ab2] at h;exact rC i g f c j d b (aP h.1) (cX h.2)
structure BE(X:Cx)(e:Expr)(t:TE):Prop where h:PE X e t
structure BT(X:Cx)(e:Expr)(t:TT):Prop where h:PT X e t
structure BW(X:Cx)(e:Expr)(t:TT):Prop where h:PW X e t
structure BA(X:Cx)(es:↥Expr)(t:TA):Prop where h:PA X es t
structure BS(X:Cx)(s:Stmt)(t:TS):Prop where h:PS X s t
structure BSs(X:Cx)(s:↥Stmt)(t:TS):Prop where h:PSs X s t
structure BG(X:Cx)(e:Expr)(t:TG):Prop where h:PG X e t
structure BGs(X:Cx)(es:↥Expr)(t:TGs):Prop where h:PGs X es t
structure BI(X:Cx)(tg e:Expr)(t:TI):Prop where h:PI X tg e t
structure BO(X:Cx)(e:Option Expr)(t:TO):Prop where h:PO X e t
structure BIf(X:Cx)(es:↥Expr)(t:TT):Prop where h:FX X es t
structure BPs(X:Cx)(pos:Pos)(ks:↥(Option Expr))(vs:↥Expr)(t:↥(TE×TE)):Prop where h:PPs X pos ks vs t
structure BOp(X:Cx)(f:Value->Value->Sem Value)(r:R2):Prop where h:OpR X f r
structure BCall(X:Cx)(f:Value)(r:↥V->Hp->VK->Prop):Prop where h:CallR X f r
structure BMt(X:Cx)(id:String)(r:V->↥V->Hp->VK->Prop):Prop where h:MtR X id r
def zZ(i:Nat)(c:X.N[i]?=!x)(b:Vis X.env.scope x)(hd:autoParam ((x==("__debug__" : Str))=false) L2.aD._auto_1)(a:autoParam ((x==("__classdict__" : Str))=false) L2.aD._auto_1):BE X (.Name x pos) (cV i):=-{Gd c b hd a}
def we_vl(i:Nat)(c:autoParam (X.N[i]?=!x) L2.aR._auto_1)(b:autoParam (X.env.scope.names.lookup x=!.local) L2.aR._auto_1)(hd:autoParam ((x==("__debug__":Str))=false) L2.aD._auto_1)(a:autoParam ((x==("__classdict__":Str))=false) L2.aD._auto_1):BE X (.Name x pos) (cV i):=-zZ i c (.inl b) hd a
def Aa{i j pos}:BE X (.Constant (.int i) j pos) (tC (.int i)):=-{(Ge)}
def LC{b j pos}:BE X (.Constant (.bool b) j pos) (tC (.bl b)):=-{(KW)}
def Hb{j pos}:BE X (.Constant .none j pos) (tC .non):=-{(Gf)}
def Ab{x j pos}:BE X (.Constant (.str x) j pos) (tC (.str x)):=-{(Gg)}
def Hc{v:V}(h:Glo X.mg x v)(a:X.env.kindOf x=!.globalImplicit)(hd:autoParam ((x==("__debug__" : Str))=false) L2.aD._auto_1):BE X (.Name x pos) (tC v):=-{zW h a hd}
def LD(c:X.mg x=none)(a:bootBuiltins x=!(.type T))(d:X.env.kindOf x=!.globalImplicit)(b:autoParam (x ≠ "__name__") L2.aD._auto_1)(hd:autoParam ((x==("__debug__" : Str))=false) L2.aD._auto_1):BE X (.Name x pos) (tC (.ty T)):=-{Lz c a d b hd}
def LF{op:Operator}{r:R2}(c:BOp X (binaryOp op) r)(e:BE X a ta)(d:BE X b tb):BE X (.BinOp a op b pos) (tOp r ta tb):=-{Ld c.h e.h d.h}
def Ac(b:BE X a ta):BE X (.UnaryOp .USub a pos) (tUn (rU λi=>.int (-i)) ta):=-{Le GD b.h}
def Hd(b:BE X a ta):BE X (.UnaryOp .Not a pos) (Bg ta):=-{Go b.h}
def He{op}{t:TE}(h:BE X a t):BE X (.BoolOp op [a] pos) t:=-{Gm h.h}
def Hf{rest:↥Expr}(d:BE X a ta)(c:BE X (.BoolOp .And (b::rest) pos) tb):BE X (.BoolOp .And (a::b::rest) pos) (Bf ta tb):=-{Gn d.h c.h}
def LG{rest:↥Expr}(d:BE X a ta)(c:BE X (.BoolOp .Or (b::rest) pos) tb):BE X (.BoolOp .Or (a::b::rest) pos) (K1 ta tb):=-{K3 d.h c.h}
def Hg{r:R2}(c:BOp X (compareOp op) r)(f:BE X a ta)(e:BE X b tb)(d:behindInMarks op b=false):BE X (.Compare a [op] [b] pos) (tOp r ta tb):=-{Bv c.h f.h e.h d}
def wO{tc:TE}{r:R2}(e:BOp X (compareOp op) r)(d:BOp X (compareOp op') r')(j:BE X a ta)(i:BE X b tb)(g:BE X c tc)(f:lastMarks [op,op'] [b,c]=false):BE X (.Compare a [op,op'] [b,c] pos) (kQ r r' ta tb tc):=-{wa e.h d.h j.h i.h g.h f}
def LH(d:BT X c tA)(f:BE X a ta)(e:BE X b tb):BE X (.IfExp c a b pos) (tIf tA ta tb):=-{vX d.h f.h e.h}
def Hi(O:Own X.prog X.w X.K X.mg X.base x k ps sp)(hr:Room k X.A)(d:BA X (e::es) t)(c:X.env.kindOf x=!.globalImplicit)(b:(e::es).all a9=true)
  (a:autoParam ((x==("__debug__" : Str))=false) L2.aD._auto_1):BE X (.Call (.Name x p) (e::es) [] pos) (kS sp [] E0 t):=-{Co O hr d.h c b a}
def wQ{id:String}(i:BCall X (.builtin id) r)(f:X.mg x=none)(c:bootBuiltins x=!(.builtin id))(j:BA X (e::es) t)(g:X.env.kindOf x=!.globalImplicit)(a:(e::es).all a9=true)(d:autoParam (x ≠ "__name__") L2.aD._auto_1)
  (b:autoParam ((x==("__debug__" : Str))=false) L2.aD._auto_1):BE X (.Call (.Name x p) (e::es) [] pos) (tCB r t):=-{sk i.h f c j.h g a d b}
def wR(i:BCall X (.type T) r)(f:X.mg x=none)(c:bootBuiltins x=!(.type T))(j:BA X (e::es) t)(g:X.env.kindOf x=!.globalImplicit)(a:(e::es).all a9=true)(d:autoParam (x ≠ "__name__") L2.aD._auto_1)
  (b:autoParam ((x==("__debug__" : Str))=false) L2.aD._auto_1):BE X (.Call (.Name x p) (e::es) [] pos) (tCB r t):=-{sn i.h f c j.h g a d b}
def nO(h:es.all a9=true)(a:es.length<29):((backTo pos (starEach es env)).all (λx=>⇑x.1)&&(backToKw pos (keywordEach [] env)).all (λx=>x.1.isSome)
      && decide (es.length+([]:↥Keyword).length+(if ([]:↥Keyword).isEmpty then 0 else 1)<30))=true:=by
  have h1:(backTo pos (starEach es env)).all (λx=>⇑x.1)=true:=by
    clear a
    induction es with
    |nil=>rfl
    | cons e es b=>
      rw[aaT,ab2] at h;rw[aP h.1];exact b h.2
  rw[h1];exact decide_eq_true (aaP a)
def Cp{id:String}{r:V->↥V->Hp->VK->Prop}(K:Frag)(f:PlainAttrs T)(slot:Slot T name id)(c:typeOf (.builtin id)=pure (.type "method_descriptor"))(i:BMt X id r)(g:BE X o to)(k:BA X (e::es) t)
  (l:X.K=K) (b:attributeBase o name X.env (eval o X.env)=eval o X.env) (d:(e::es).all a9=true) (j:(e::es).length<29) (a:(apos.endLine==cpos.line)=true):BE X (.Call (.Attribute o name apos) (e::es) [] cpos) (tBM K T r to t):=by
 have h:=d;rw[aaT,ab2] at h;exact{Ha K f slot c i.h g.h k.h l b (nO d j) a (aP h.1) (cX h.2)}
def wU{id:String}{r:V->↥V->Hp->VK->Prop}(K:Frag)(d:PlainAttrs T)(slot:Slot T name id)(c:typeOf (.builtin id)=pure (.type "method_descriptor"))(f:BMt X id r)(e:BE X o to)
  (g:X.K=K) (b:attributeBase o name X.env (eval o X.env)=eval o X.env) (a:(apos.endLine==cpos.line)=true):BE X (.Call (.Attribute o name apos) [] [] cpos) (KD K T r to):=-{Ck K d slot c f.h e.h g b a}
def wV{lo hi:Option Expr}{tl th:TO}{p2:Pos}(K:Frag)(c:BE X e te)(b:BO X lo tl)(a:BO X hi th)(d:X.K=K):BE X (.Subscript e (.Slice lo hi none p2) pos) (tSl (G4 K) te tl th):=-{nG (Cj K d) c.h b.h a.h}
def Hj(h:BA X es t):BE X (.List es pos) (KC t):=-{GM h.h}
def Hk{a}(h:BA X es t):BE X (.Tuple es a pos) (KB t):=-{GL h.h}
def Cq :BE X (.Dict [] [] pos) rJ:=-{(ww)}
def so{k:Option Expr}{keys:↥(Option Expr)}{values:↥Expr}(h:BPs X pos (k::keys) values trs)(a:(k::keys).all (·.isSome)=true)(c:(k::keys).length=values.length)(b:(k::keys).length<=15):BE X (.Dict (k::keys) values pos) (BZ trs):=-{B9 h.h a c (λz=>nomatch z) b}
def Cs :BPs X pos [] [] []:=-{(BY)}
def wW{k v:Expr}{ks:↥(Option Expr)}{vs:↥Expr}{tk tv:TE}(b:BE X k tk)(a:BE X v tv)(hr:BPs X pos ks vs trs):BPs X pos (↑k::ks) (v::vs) ((tk,tv)::trs):=-{wy b.h a.h hr.h}
def Cu{T F:↥Str}{ixs:↥Nat}{scope:Scope}{elt:Expr}{ifs:↥Expr}(d:X.calm=true)(S:CompScope X T F ixs scope)(hi:BI X tg iter wi)
  (b:∀C s H fp,BG (bq X (T++F) scope (aK X.env scope.names []) C s H fp) tg g) (a:∀C s H fp,BIf (bq X (T++F) scope (aK X.env scope.names []) C s H fp) ifs tc) (c:∀C s H fp,BE (bq X (T++F) scope (aK X.env scope.names []) C s H fp) elt te)
  (hs:∀x,foldedSetIterable iter X.env x=pure x):BE X (.ListComp elt [{(tg),iter,ifs,0}] scope pos) (dZ T.length ixs wi g tc te):=-
 {Ce d S hi.h (λC s H fp=>(b C s H fp).h) (λC s H fp=>(a C s H fp).h) (λC s H fp=>(c C s H fp).h) hs}
def Hl:BA X [] ja:=-{(GK)}
def wa_c(b:BE X e te)(hr:BA X es t)(a:a9 e=true):BA X (e::es) (cQ te t):=-{pa_c b.h hr.h a}
def Cv:BO X none mE:=-{(BL)}
def Cw(h:BE X e te):BO X ↑e (BK te):=-{BM h.h}
def Cy:BIf X [] Lx:=-{(Ca)}
def Cz{t:TT}(h:BT X c t):BIf X [c] t:=-{Cc h.h}
def Hm{r:R2}(c:BOp X (compareOp op) r)(f:BE X a ta)(e:BE X b tb)(d:behindInMarks op b=false):BT X (.Compare a [op] [b] pos) (re (tOp r ta tb)):=-{Bw c.h f.h e.h d}
def wX{tc:TE}{r:R2}(e:BOp X (compareOp op) r)(d:BOp X (compareOp op') r')(j:BE X a ta)(i:BE X b tb)(g:BE X c tc)(f:lastMarks [op,op'] [b,c]=false):BT X (.Compare a [op,op'] [b,c] pos) (re (kQ r r' ta tb tc)):=-{wc e.h d.h j.h i.h g.h f}
def Hn(b:BT X a tA):BT X (.UnaryOp .Not a pos) (KZ tA):=-{Gk b.h}
def wt_w{t:TT}(h:BW X e t):BT X e t:=-{(h.h.pt)}
def CA(b:BT X a tA):BW X (.BoolOp .And [a] pos) tA:=-{Be b.h}
def Ho(b:BT X a tA):BW X (.BoolOp .Or [a] pos) tA:=-{Gi b.h}
def Hq{rest:↥Expr}(d:BT X a tA)(c:BW X (.BoolOp .And (b::rest) pos) tB'):BW X (.BoolOp .And (a::b::rest) pos) (KY tA tB'):=-{Gj d.h c.h}
def LI{rest:↥Expr}(d:BT X a tA)(c:BW X (.BoolOp .Or (b::rest) pos) tB'):BW X (.BoolOp .Or (a::b::rest) pos) (tOr tA tB'):=-{K0 d.h c.h}
def CB{f:Expr}{as:↥Expr}{ks:↥Keyword}{t:TE}(h:BE X (.Call f as ks pos) t):BT X (.Call f as ks pos) (tB t):=-{Gh h.h (by intro _;cases f <;> rfl)}
def LJ(K:Frag)(ta:TE):TT:=λσ H Q=>ta σ H λx H'=>∃k,Kz K x H' k/\Q k H'
def CC{t:TE}(K:Frag)(h:BE X (.Name x pos) t)(a:X.K=K):BT X (.Name x pos) (LJ K t):=by subst a;exact{nE h.h (λ_=>rfl)}
def CD(b:X.N.Nodup)(hi:X.N[i]?=!x)(hx:Loc X.env.scope x)(a:X.fn x=true∨X.env.scope.names.lookup x=!.local):BG X (.Name x pos) (eQ i):=-{Bo b hi hx a}
def CF:BGs X [] Kw:=-{(Bp)}
def wY{t:TG}{u:TGs}(h1:BG X e t)(h2:BGs X es u)(hs:(assignEach (e::es) X.env).map (·.2)=assign e X.env::(assignEach es X.env).map (·.2)):BGs X (e::es) (pH t u):=-{v8 h1.h h2.h hs}
def Hr{t:TGs}{n:Nat}(K:Frag)(c:X.calm=true)(h:BGs X es t)(d:X.K=K)(b:(assignEach es X.env).length=n)(a:(assignEach es X.env).findIdx? (·.1)=none):BG X (.Tuple es k pos) (Gq K n t):=-{Cm K c h.h d b a}
def Hs{i:Expr}{b:TE}(c:BE X o to)(hi:BE X i b)
  (d:∀v,assign (.Subscript o i pos) X.env v=(do
   let ov ← holding [v] (eval o X.env)
   let a ← holding [v,ov] (eval i X.env)
   standAt pos
   holding [v,ov,a] (setItem ov a v)
   release [v,ov,a] [])):BG X (.Subscript o i pos) (La to b BR):=-{Gs c.h hi.h wt d}
def CG(K:Frag)(a:BE X l tl)(b:X.K=K):BI X tg l (mz K tl):=-{wN K a.h b}
def Ht(K:Frag)(a:BE X l tl)(b:X.K=K):BI X tg l (Kx K tl):=-{Cn K a.h b}
def Hu(K:Frag)(a:BE X l tl)(b:X.K=K):BI X tg l (Ly tl):=-{GY a.h}
def sq{ta:TA}(d:X.env.kindOf "range" = !.globalImplicit)(c:X.mg "range" = none)(e:BA X [a] ta)(b:a9 a=true):BI X tg (.Call (.Name "range" p) [a] [] pos) (Br ta):=-{qX d c e.h (aP b)}
def sr{ta:TA}(f:X.env.kindOf "range" = !.globalImplicit)(e:X.mg "range" = none)(g:BA X [a,b] ta)(d:a9 a=true)(c:a9 b=true):BI X tg (.Call (.Name "range" p) [a,b] [] pos) (Bs ta):=-
 {qY f e g.h (by rw[aP d,aP c];rfl) (by rw[aP c];rfl)}
def CH:BSs X [] Bh:=-{(Bi)}
def CI{t:TS}(h:BS X st t):BSs X [st] t:=-{Bj h.h}
def wZ{rest:↥Stmt}{t:TS}(h1:BS X st t)(h2:BSs X rest u):BSs X (st::rest) (K4 t u):=-{vY h1.h h2.h}
def w9 :BS X (.Break pos) qS:=-{(vZ)}
def mJ :BS X (.Continue pos) Bk:=-{(my)}
def CJ(a:BE X e te)(hs:swapsWith e none pos.line X.env=pure false):BS X (.Expr e pos) (v6 te):=-{Bl a.h hs}
def Hv(a:BE X e te):BS X (.Return ↑e pos) (K5 te):=-{Gp a.h}
def CK :BS X (.Return none pos) Bm:=-{(Bn)}
def LK{a b:↥Stmt}{t:TS}(d:BT X c tc)(f:BSs X a t)(e:BSs X b u):BS X (.If c a b pos) (K6 tc t u):=-{K8 d.h f.h e.h}
def Hw{pos':Pos}(c:X.N.Nodup)(hi:X.N[i]?=!x)(hx:Loc X.env.scope x)(b:BE X e te)(hs:swapsWith e ↑(.Name x pos') pos.line X.env=pure false)(a:X.fn x=true∨X.env.scope.names.lookup x=!.local) :
  BS X (.Assign [.Name x pos'] e pos) (pJ te (eQ i)):=-{Gv c hi hx b.h hs a}
def Hx(c:BE X e te)(b:BG X tg g)(hs:swapsWithSole [tg] e pos.line X.env=pure false)(a:swappedStores [tg] e X.env=pure none)(h1:(assignEach [tg] X.env).map (·.2)=[assign tg X.env]):BS X (.Assign [tg] e pos) (pJ te g):=-{Gu c.h b.h hs a h1}
def Hy{tb:TS}(a:PassesOwn (model X.prog X.w) X.A X.env X.xe)(c:X.calm=true)(hi:BI X tg iter wi)(b:BG X tg g)(d:BSs X body tb)(hs:∀x,foldedSetIterable iter X.env x=pure x):BS X (.For tg iter body [] pos) (Lb wi g tb):=-{Gx a c hi.h b.h d.h hs}
def xa{tb:TS}(a:PassesOwn (model X.prog X.w) X.A X.env X.xe)(b:BT X c tc)(d:BSs X body tb):BS X (.While c body [] pos) (qU tc tb):=-{v9 a b.h d.h}
def CL:BOp X (binaryOp .Sub) (rI0 λi j=>.int (i - j)):=-{(Gz)}
def CM:BOp X (binaryOp .Mult) (rI CMul λi j=>.int (i*j)):=-{(GA)}
def xb:BOp X (binaryOp .FloorDiv) (rI FR λi j=>.int (i / j)):=-{(Bt)}
def CN:BOp X (binaryOp .Mod) (rI (λ_ j=>0<j) λi j=>.int (i % j)):=-{(GB)}
def CO:BOp X (binaryOp .Pow) (rI FU λi j=>.int (i ^ j.toNat)):=-{(GC)}
def Hz(K:Frag)(a:X.A.units+64<cLine)(h:X.K=K):BOp X (compareOp .Eq) (KG K):=-{G8 K a h}
def HA(K:Frag)(a:X.A.units+64<cLine)(h:X.K=K):BOp X (compareOp .NotEq) (KH K):=-{G9 K a h}
def MV:R2:=λx y H Q=>y=.non/\Q (.bl (decide (x=.non))) H
def HB:R2:=λx y H Q=>y=.non/\Q (.bl (⇑(decide (x=.non)))) H
def CP:BOp X (compareOp .Is) MV:=-{(GE)}
def xc:BOp X (compareOp .IsNot) HB:=-{(Bu)}
def HC(K:Frag)(h:X.K=K):BCall X (.builtin "len") (FY K):=-{sh K h}
def HD(a:X.calm=true):BCall X (.builtin "max") LA:=-{rX a}
def HE(a:X.calm=true):BCall X (.builtin "min") LB:=-{rY a}
def HF(K:Frag)(a:X.calm=true)(h:X.K=K):BCall X (.builtin "all") (KE K):=-{si K a h}
def HG(K:Frag)(a:X.calm=true)(h:X.K=K):BCall X (.builtin "any") (KF K):=-{sj K a h}
def CQ(K:Frag)(h:X.K=K):BMt X "str.join" (wJ K):=-{wM K h}
def su(K:Frag)(h:X.K=K):BMt X "list.append" dY:=-{(lb)}
def Fun.okB{P:Program}{w:World}{K:Frag}{mg:Str->Option Value}{base:Heap}{qual:Str}{f:Addr}{fd:FuncData}{N:↥Str}(F:Fun K x qual st f fd)(S:FnScope N ps (av st))(len:∀vs H Q E,sp vs H Q E->vs.length=ps.length)
  (a:∀(cdv:Value) (A:Around) (outer:↥Env) (s:Shared) (H:Hp) (vs:↥V) (Q:VK) (E:XK),Room k (A.deeper (envOfC qual (av st) s.heap.objs.size f cdv))->sp vs H Q E ->
   ∃t,BSs (rA CX0 P w K mg base N qual (av st) f cdv A outer s H E).nox (bu st) t/\t { nx:=λ_ H'=>Q .non H',rt:=Q } (start N vs) H):FnOk P w K mg base CX0 (k+1) f fd ps sp:=-
 F.ok S len λcdv A outer s H vs Q E hr h=>by
  obtain⟨t,h1,h2⟩:=a cdv A outer s H vs Q E hr h;exact{(t),h1.h,h2}
end L2
namespace L2
open PySem
end L2
set_option maxHeartbeats 4000000
namespace KS
open PySem PySem.Spec PyProof.Rows
variable{xs order:Array Nat}{i j mask finger moves ep n c slot g:Nat}{led plain L:Bool}{hs:Array Int}{prog:Program}{w:World}{K α:Type}{A A':Around}{E Q:Value->Shared->Prop}{s:Shared}{h h':Heap}{a I pl:Addr}{o op:Obj}{es:Array (Int×Value)}{x:Value}{pls:Array Value}{Q':Option (Value×Nat)->Shared->Prop}
def Ris(xs:Array Nat):Prop:=xs.toList.Pairwise (·<·)
def Ris.lt(h:Ris xs){d:Nat}(a:i<j)(b:j<xs.size):xs.getD i d<xs.getD j d:=by
 have hi:i<xs.size:=acf a b;have q:=ab7.mp h i j (by exists hi) (by exists b) a;rw[Array.getD_eq_getD_getElem?,Array.getD_eq_getD_getElem?,Array.getElem?_eq_getElem hi,Array.getElem?_eq_getElem b];simpa using q
theorem jV{xs:Array Nat}{j:Nat}(h:Ris xs):∀(f lo hi:Nat),lo<=hi->hi<=xs.size->hi - lo<=f->(∀k,k<lo->xs.getD k j<j)->(∀k,hi<=k->k<xs.size->j<=xs.getD k j) ->
  SetTable.below.go xs j f lo hi<=xs.size/\(∀k,k<SetTable.below.go xs j f lo hi->xs.getD k j<j)/\∀k,SetTable.below.go xs j f lo hi<=k->k<xs.size->j<=xs.getD k j
 | 0,lo,hi,a,b,c,p,q=>by
  have e:hi=lo:=()
  subst e;exact{(b),p,q}
 | f+1,lo,hi,a,b,c,p,q=>by
  have n:SetTable.below.go xs j (f+1) lo hi=if lo<hi then (if xs.getD ((lo+hi) / 2) j<j then SetTable.below.go xs j f ((lo+hi) / 2+1) hi else SetTable.below.go xs j f lo ((lo+hi) / 2)) else lo:=rfl;rw[n];by_cases g:lo<hi
  .rw[if_pos g];have o:(lo+hi) / 2<hi:=()
   by_cases l:xs.getD ((lo+hi) / 2) j<j
   .rw[if_pos l];refine jV h f _ hi () b () (λk m=>?_) q;by_cases e:k=(lo+hi) / 2
    .rw[e];exact l
    .exact acf (h.lt (i:=k) (j:=(lo+hi) / 2) () ()) l
   .rw[if_neg l];refine jV h f lo _ () () () p λk m hs=>?_;by_cases e:k=(lo+hi) / 2
    .rw[e];nofun
    .have:=h.lt (i:=(lo+hi) / 2) (j:=k) (d:=j) () hs;nofun
  .rw[if_neg g];have e:hi=lo:=()
   subst e;exact{(b),p,q}
def fS(h:Ris xs)(j:Nat):SetTable.below xs j<=xs.size/\(∀k,k<SetTable.below xs j->xs.getD k j<j)/\∀k,SetTable.below xs j<=k->k<xs.size->j<=xs.getD k j:=-
 jV h _ _ _ (aan _) (aac _) () (λk a=>absurd a (Nat.not_lt_zero _)) λk a hs=>absurd hs ()
def pZ(h:Ris xs):SetTable.below xs 0=0:=by
 obtain⟨_,b,_⟩:=fS h 0;by_cases e:SetTable.below xs 0=0
 .exact e
 .exact absurd (b 0 ()) (Nat.not_lt_zero _)
def p8(h:Ris xs){p:Nat}(e:xs[i]?=!p):SetTable.below xs (p+1)=i+1:=by
 obtain⟨hi,ep⟩:=Array.getElem?_eq_some_iff.mp e;obtain⟨a,b,c⟩:=fS h (p+1);have g:∀d,xs.getD i d=p:=λd=>by rw[Array.getD_eq_getD_getElem?,e];rfl
 by_cases l:SetTable.below xs (p+1)<=i
 .have:=c i l hi;rw[g] at this;nofun
 .by_cases r:SetTable.below xs (p+1)=i+1
  .exact r
  .have h1:=b (i+1) ();have h2:=h.lt (i:=i) (j:=i+1) (d:=p+1) () ();rw[g] at h2;nofun
def NotIn(xs:Array Nat)(j:Nat):Prop:=xs[SetTable.below xs j]?≠!j
def qa(h:Ris xs)(n:NotIn xs j):Ris (SetTable.insertAt xs (SetTable.below xs j) j):=by
 obtain⟨a,b,c⟩:=fS h j;unfold NotIn at n;generalize SetTable.below xs j=p at a b c n
 have e:(SetTable.insertAt xs p j).toList=xs.toList.take p++j::xs.toList.drop p:=by
  unfold SetTable.insertAt;simp[Array.toList_extract,List.extract_eq_drop_take,Array.length_toList];exact aai (by rw[aaN,abZ];exact aac _)
 have lo:∀x∈xs.toList.take p,x<j:=by
  intro x g;obtain⟨k,f⟩:=List.mem_iff_getElem?.mp g;rw[List.getElem?_take] at f;split at f
  .rename_i m;have:=b k m;rw[Array.getD_eq_getD_getElem?,← Array.getElem?_toList,f] at this;exact this
  .cases f
 have hi:∀x∈xs.toList.drop p,j<x:=by
  intro x g;obtain⟨k,f⟩:=List.mem_iff_getElem?.mp g;rw[List.getElem?_drop] at f
  have hs:p+k<xs.size:=by
   have:=(List.getElem?_eq_some_iff.mp f).1;simpa using this
  have q:=c (p+k) () hs;rw[Array.getD_eq_getD_getElem?,← Array.getElem?_toList,f] at q;have q:j<=x:=q;rcases Nat.lt_or_ge j x with z|z
  .exact z
  .have ex:x=j:=()
   subst ex;exfalso;by_cases o:k=0
   .subst o;exact n (by rw[← Array.getElem?_toList];exact f)
   .have g1:=h.lt (i:=p) (j:=p+k) (d:=x) () hs;have g2:=c p (aac _) ();have g3:xs.getD (p+k) x=x:=by rw[Array.getD_eq_getD_getElem?,← Array.getElem?_toList,f];rfl
    nofun
 unfold Ris;rw[e];refine List.pairwise_append.mpr {List.Pairwise.sublist (aa1 p _) h,List.pairwise_cons.mpr {hi,List.Pairwise.sublist (List.drop_sublist p _) h},λx g y l=>?_};rcases abS.mp l with rfl|l
 .exact lo x g
 .exact acf (lo x g) (hi y l)
def li(t:SetTable)(p:SetTable.Probe):(t.advance p).dummy=p.dummy:=by
 unfold SetTable.advance;split
 .rfl
 .rfl
theorem fT{t:SetTable}{f:Nat->Int}{h:Int}:∀(a:Nat) (p:SetTable.Probe) (j:Nat) (d:Option Nat),(∀x,p.dummy=!x->NotIn t.place x)->SetTable.probe.go t f h a p=!(.empty j d)->NotIn t.place j/\∀x,d=!x->NotIn t.place x
 |0,p,j,d,_,e=>by unfold SetTable.probe.go at e;cases e
 | a+1,p,j,d,g,e=>by
  unfold SetTable.probe.go at e
  have ns:∀{s:SetTable.Slot},t.slot p.j=s->(∀i,s≠.live i)->NotIn t.place p.j:=by
   intro s es hs k;unfold SetTable.slot at es;dsimp only at es;rw[if_pos (by rw[k];simp)] at es;exact hs _ es.symm
  cases b:t.slot p.j with
  | empty=>
   rw[b] at e;have e:=aak e;injection e with m l
   subst m l;exact{ns b (λi z=>nomatch z),g}
  | dummy=>
   rw[b] at e;refine fT a _ j d (λx c=>?_) e;rw[li] at c;have c:↑p.j=!x:=c;injection c with c
   rw[← c];exact ns b λi z=>nomatch z
  | live i=>
   rw[b] at e;dsimp only at e;split at e
   .cases e
   .exact fT a _ j d (λx c=>g x (by rw[li] at c;exact c)) e
def qb{t:SetTable}{h:Int}{b:Bool}(e:t.freeSlot h=!(j,b)):NotIn t.place j:=by
 unfold SetTable.freeSlot at e;split at e
 .rename_i a d f;obtain⟨h1,h2⟩:=fT _ _ _ _ (λx c=>by cases (show (none:Option Nat)=↑x from c)) f;have e:=aak e;have g:d.getD a=j:=congrArg Prod.fst e;subst g
  cases d with
  |none=>exact h1
  |some x=>exact h2 x rfl
 .cases e
def CS(t:SetTable)(es:Array (Int×Value))(h:Int)(x:Value)(hr:t.plain=true->Ris t.place):(layNew t es h x).2.1.plain=true->Ris (layNew t es h x).2.1.place:=by
 unfold layNew;split
 .rename_i slot wd e;dsimp only;unfold SetTable.orStandIn;split
  .intro a;have a:t.plain=true:=a;exact qa (hr a) (qb e)
  .exact λz=>by cases z
 .exact λz=>by cases z
def xf{t:SetTable}(h:SetTable.laid mask finger moves led plain hs=!(t,order)):Ris t.place:=by
 unfold SetTable.laid at h
 cases e:SetTable.layClean mask hs with
 |none=>rw[e] at h;cases h
 | some owner=>
  rw[e] at h;have h':=aak h;rw[← congrArg (λp=>p.1.place) h'];dsimp only;unfold Ris;rw[List.toList_toArray,List.pairwise_map];refine List.Pairwise.filterMap _ (R:=(·<·)) (λa j d b f i c=>?_) List.pairwise_lt_range;obtain⟨y,_,rfl⟩:=Option.map_eq_some_iff.mp f;obtain⟨g,_,rfl⟩:=Option.map_eq_some_iff.mp c;exact d
def sv(t:SetTable)(es:Array (Int×Value))(a:Nat):(relayAll t es a).2.1.plain=true->Ris (relayAll t es a).2.1.place:=by
 unfold relayAll;split
 .rename_i t' order e;dsimp only;split
  .exact λ_=>xf (show SetTable.laid _ _ _ t.led t.plain _=↑(t',order) from e)
  .exact λz=>by cases z
 .exact λz=>by cases z
def CT(t:SetTable)(es:Array (Int×Value))(h:Int)(x:Value):(layNew t es h x).2.1.led=t.led/\((layNew t es h x).2.1.plain=true->t.plain=true):=by
 unfold layNew;split
 .dsimp only;unfold SetTable.orStandIn;split
  .exact{rfl,λz=>z}
  .exact{rfl,λz=>by cases z}
 .exact{rfl,λz=>by cases z}
def xg{t:SetTable}(h:SetTable.laid mask finger moves led plain hs=!(t,order)):t.led=led/\t.plain=plain:=by
 unfold SetTable.laid at h
 cases e:SetTable.layClean mask hs with
 |none=>rw[e] at h;cases h
 | some owner=>
  rw[e] at h;have h':=aak h;exact{(congrArg (λp=>p.1.led) h').symm,(congrArg (λp=>p.1.plain) h').symm}
def sx(t:SetTable)(es:Array (Int×Value))(a:Nat):(relayAll t es a).2.1.led=t.led/\((relayAll t es a).2.1.plain=true->t.plain=true):=by
 unfold relayAll;split
 .rename_i t' order e;have q:=xg (show SetTable.laid _ _ _ t.led t.plain _=↑(t',order) from e);dsimp only;split
  .exact{q.1,λz=>by rw[q.2] at z;exact z}
  .exact{rfl,λz=>by cases z}
 .exact{rfl,λz=>by cases z}
section
variable    [DecidableEq K] (knd:KeyKind prog w K)
def SetZ(h:Heap)(a:Addr)(σ:↥K)(L:Bool):Prop:=
 ∃o es ep t,h.get? a=!o/\o.ExactSet/\o.data=.set es ep t/\ElemsOf knd es.toList/\(∀k,k∈σ↔∃e∈es.toList,knd.is k e.2=true)/\es.size<scanBound/\t.fits es.size=true/\es.size=σ.length/\σ.Nodup/\t.led=L/\(t.plain=true->Ris t.place)
def dedup1(σ:↥K)(k:K):↥K:=if k∈σ then σ else σ++[k]
variable {knd}   
def nodup_snoc{σ:↥K}{k:K}(h:σ.Nodup)(c:k∉σ):(σ++[k]).Nodup:=by
 rw[abH];refine{h,by simp,λx b y a e=>?_};have a:y=k:=(by exists a);rw[e,a] at b;exact c b
def SetZ.at{σ:↥K}(c:SetZ knd h a σ L)(k:∀o,h.get? a=!o->h'.get? a=!o):SetZ knd h' a σ L:=by
 obtain⟨o,es,ep,t,b,r⟩:=c;exact{o,es,ep,t,k o b,r}
def MW{t:SetTable}(c:h.get? a=!o)(hd:o.data=.set es ep t)(b:Array (Int×Value))(t':SetTable) :
  (h.update a (Obj.putSet b t')).get? a=some { o with data:=.set b (ep+1) t' }:=by
 have q:=Heap.get?_update_self (Obj.putSet b t') c (by rw[putSet_of b t' hd];rfl);rw[putSet_of b t' hd] at q;exact q
def CU{g:Bool->Sem Unit}(I:∀(b:Bool) (i:Shared) (Q':Unit->Shared->Prop),Q' PUnit.unit i->wpAny (model prog w) A (g b) Q' E i)
      {t:SetTable} (D:s.heap.get? a=!o) (hex:o.ExactSet) (hd:o.data=.set es ep t)
  {c:Array (Int×Value)} {d:SetTable} {v:↥K}  (u:ElemsOf knd c.toList) (G:∀k',k'∈v↔∃e∈c.toList,knd.is k' e.2=true)
  (x:c.size<scanBound) (J:d.fits c.size=true) (F:c.size=v.length) (r:v.Nodup) (j:d.led=L) (z:d.plain=true->Ris d.place) {f:Bool} {R:Option Bool->Shared->Prop}
  (h:∀h',Heap.SameBut a s.heap h'->SetZ knd h' a v L->R ↑true { s with heap:=h' }) :
  wpAny (model prog w) A (do
    storeSet a c d
    if (⇑f&&d.tooFull)=true then do
      g (relayAll d c (SetTable.grown c.size)).2.2
      storeSet a (relayAll d c (SetTable.grown c.size)).1 (relayAll d c (SetTable.grown c.size)).2.1
      pure !true
     else pure !true) R E s:=by
 refine aaa (wpAny_storeSet_of D hd ?_ (fits_of_scanBound x));have g1:=MW D hd c d;have b1:=Heap.SameBut.update s.heap a (Obj.putSet c d);split
 .have p:=relayAll_perm d c (SetTable.grown c.size);have m:=relayAll_fits d c (SetTable.grown c.size);have l:=sx d c (SetTable.grown c.size);have k:=sv d c (SetTable.grown c.size);generalize M:relayAll d c (SetTable.grown c.size)=Y at p m l k ⊢;obtain⟨n,C,H⟩:=Y;dsimp only at p m l k ⊢;have y:n.size=c.size:=by rw[← Array.length_toList,p.length_eq,Array.length_toList]
  refine aaa (I _ _ _ ?_);refine aaa (wpAny_storeSet_of g1 rfl ?_ (fits_of_scanBound (by rw[y];exact x)))
  exact aaf (h _ (b1.trans (Heap.SameBut.update _ a _)) {_,n,_,C,MW g1 rfl n C,hex,rfl,u.perm p,λk'=>(G k').trans {fun⟨e,B,q⟩=>{e,p.mem_iff.mpr B,q},fun⟨e,B,q⟩=>{e,p.mem_iff.mp B,q}},
   by rw[y];exact x,m,y.trans F,r,l.1.trans j,k})
 .exact aaf (h _ b1 {_,c,_,d,g1,hex,rfl,u,G,x,J,F,r,j,z})
def addZ{σ:↥K}{k:K}{Q:Bool->Shared->Prop}(d:knd.is k x=true)(y:x.scannable=true)(T:SetZ knd s.heap a σ L)(N:σ.length+1<scanBound)
  (h:∀b h',Heap.SameBut a s.heap h'->SetZ knd h' a (dedup1 σ k) L->Q b { s with heap:=h' }):wpAny (model prog w) A (setAddHashed a x (knd.hash k)) Q E s:=by
 obtain⟨o,es,ep,t,M,hex,hd,F,R,hb,S,Z,B,g,O⟩:=id T;unfold setAddHashed setAddHashedIn;refine aaS (aaa (abk M hd S ?_));dsimp only;rw[byScan_of y hb F];simp only[↓reduceIte];unfold setAddByScan;refine aaa ?_;refine aaa (abE ?_);refine aaa (wpAny_setScan_of d M hd S F ?_)
 cases hr:List.findIdx? (λe=>knd.is k e.2) es.toList with
 | some j=>
  dsimp only;obtain⟨hj,P,_⟩:=List.findIdx?_eq_some_iff_getElem.mp hr;have I:k∈σ:=(R k).mpr {es.toList[j],aaJ hj,P};refine aaf (aaf ?_);have q:=h false s.heap (Heap.SameBut.refl a s.heap) (by unfold dedup1;rw[if_pos I];exact T);exact q
 | none=>
  dsimp only
  have I:k∉σ:=λz=>by
   obtain⟨e,n,m⟩:=(R k).mp z;have:=List.findIdx?_eq_none_iff.mp hr e n;rw[m] at this;cases this
  have p:∀(b:Bool) {c:Shared} {Q':Unit->Shared->Prop},Q' PUnit.unit c->wpAny (model prog w) A (match b with|true=>rule "set.scan.the-table-gave-way" | false=>pure PUnit.unit) Q' E c:=λb c Q' v=>by
   cases b
   .exact aaf v
   .exact abE v
  have m:=layNew_perm t es (knd.hash k) x;have i:=layNew_fits t es (knd.hash k) x;have f:=CT t es (knd.hash k) x;have r:=CS t es (knd.hash k) x O;generalize hL:layNew t es (knd.hash k) x=Y at m i f r ⊢;obtain⟨u,t1,H,U⟩:=Y;dsimp only at m i f r ⊢;rw[Array.toList_push] at m;have V:u.size=es.size+1:=by rw[← abZ,m.length_eq,aag,abZ];rfl
  have l:ElemsOf knd u.toList:=(F.push d y).perm m
  have D:∀J,J∈σ++[k]↔∃e∈u.toList,knd.is J e.2=true:=λJ=>by
   rw[abQ,R J,abR];constructor
   .rintro (⟨e,n,q⟩|rfl)
    .exact{e,m.mem_iff.mpr (aau _ n),q}
    .exact{_,m.mem_iff.mpr (aal _ (abR.mpr rfl)),d}
   .rintro⟨e,n,q⟩;rcases abQ.mp (m.mem_iff.mp n) with n|n
    .exact .inl {(e),n,q}
    .rw[abR] at n;subst n;exact .inr (knd.inj x J k q d)
  refine aaa (p _ ?_);have fin:∀h',Heap.SameBut a s.heap h'->SetZ knd h' a (σ++[k]) L->Q true { s with heap:=h' }:=λh' G z=>h true h' G (by unfold dedup1;rw[if_neg I];exact z);have C:u.size=(σ++[k]).length:=by rw[aag,V,Z];rfl
  split
  .refine aaa ?_;rw[hashByValue_scannable 8 y];refine aaf ?_
   cases W:plainKind x with
   | false=>
    refine CU ?_ M hex hd l D () (by rw[if_neg (by decide)];exact SetTable.fits_plain_off i) C (nodup_snoc B I) (L:=L) (by rw[if_neg (by decide)];exact f.1.trans g) (by rw[if_neg (by decide)];exact λz=>nomatch z) ?_
    .intro b c Q' v;exact p b v
    .intro h' G z;dsimp only;exact aaf (fin h' G z)
   | true=>
    refine CU ?_ M hex hd l D () (by rw[if_pos rfl];exact i) C (nodup_snoc B I) (L:=L) (by rw[if_pos rfl];exact f.1.trans g) (by rw[if_pos rfl];exact r) ?_
    .intro b c Q' v;exact p b v
    .intro h' G z;dsimp only;exact aaf (fin h' G z)
  .rename_i X;refine aaa (aaf ?_);simp only[↓reduceIte];refine CU ?_ M hex hd l D () i C (nodup_snoc B I) (L:=L) (f.1.trans g) r ?_
   .intro b c Q' v;exact p b v
   .intro h' G z;dsimp only;exact aaf (fin h' G z)
def metZ(val:Nat->K)(i:Nat):↥K:=((List.range i).map val).foldl dedup1 []
def ij(val:Nat->K)(i:Nat):metZ val (i+1)=dedup1 (metZ val i) (val i):=by
 unfold metZ;rw[List.range_succ,aae,abl];rfl
theorem metZ_len(val:Nat->K):∀i,(metZ val i).length<=i
 |0=>aac _
 | i+1=>by
  rw[ij];have a:=metZ_len val i;unfold dedup1;split
  .nofun
  .rw[aag,aaQ];nofun
theorem metZ_mem(val:Nat->K):∀(i:Nat) (k:K),k∈metZ val i↔∃j,j<i/\val j=k
 | 0,k=>by
  constructor
  .intro h;cases h
  .rintro⟨j,a,_⟩;nofun
 | i+1,k=>by
  have e:k∈metZ val (i+1)↔k∈metZ val i∨val i=k:=by
   rw[ij];unfold dedup1;split
   .rename_i h;exact{.inl,λz=>z.elim id λz=>z ▸ h}
   .rw[abQ,abR];exact{λz=>z.imp id Eq.symm,λz=>z.imp id Eq.symm}
  rw[e,metZ_mem val i k];constructor
  .rintro (⟨j,a,q⟩|q)
   .exact{j,(),q}
   .exact{i,(),q}
  .rintro⟨j,a,q⟩;by_cases z:j=i
   .exact .inr (z ▸ q)
   .exact .inl {j,(),q}
def CV{R:Result->Shared->Prop}{fp f:↥Addr}{G:Array GenState->Array GenState->Prop}{P:Nat->Value->Prop}{St:Nat->Shared->Prop}(W:WalksS prog w A.in1 I fp f G n P St)(S:Addr)(u:S∉fp)
  (val:Nat->K) (g:∀i v,P i v->knd.is (val i) v=true/\v.scannable=true) (d:n+1<scanBound) :
  ∀(k i:Nat) (s:Shared),n - i=k->i<=n->St i s->SetZ knd s.heap S (metZ val i) L ->
   (∀s',Moved (S::f) G s s'->SetZ knd s'.heap S (metZ val n) L->R (.ok (.ret .none)) s') ->
   codeAny (model prog w) A (.builtin "set.update.loop" {[.ref S,.ref I],[]}) R s:=by
 have t:S∉f:=λh=>u (W.sub _ h);have a:∀b∈f,b∈S::f:=λb d=>aad _ d;intro k
 induction k with
 | zero=>
  intro i s J hi c E F;obtain rfl:i=n:=()
  refine codeAny_builtin PyProof.Rows.F.entry_set_update_loop ?_;rw[aaG abo _];show wpAny _ A.in1 (pyNext (.ref I) >>= _) _ _ s;refine aaa (W.done s _ _ c λs' q=>?_);show wpAny _ A.in1 (ret Value.none) _ _ s';exact aaf (F s' (q.mono a) (E.at λo C=>q.heap S o t C))
 | succ k H=>
  intro i s J hi c E F;have r:i<n:=()
  refine codeAny_builtin PyProof.Rows.F.entry_set_update_loop ?_;rw[aaG abo _];show wpAny _ A.in1 (pyNext (.ref I) >>= _) _ _ s;refine aaa (W.item i s _ _ r c λv s' M l q=>?_);obtain⟨j,B⟩:=g i v M;have D:SetZ knd s'.heap S (metZ val i) L:=E.at λo C=>q.heap S o t C;show wpAny _ A.in1 (holding [v] (setAdd S v) >>= _) _ _ s';refine aaa (aaS ?_);unfold setAdd;refine aaS ?_;refine aaa (knd.pyHash (k:=val i) j ?_);refine addZ (s:={ s' with toks:=s'.toks+1 }) j B D (by have:=metZ_len val i;nofun) λb h' m x=>?_;rw[← ij] at x;refine aaf {plainId_quiet abo _,H (i+1) _ () r (W.frame _ s' _ _ l (aa7 _) λb d o e=>?_) x λz p y=>?_}
  .rw[m.2 b (λh:b=S=>u (by rw[← h];exact d))];exact e
  .refine F z (Moved.trans W.gtrans ((q.mono a).then_heap (aa7 _) λb o d e=>?_) p) y;rw[m.2 b (λh:b=S=>d (by rw[h];exact aab))];exact e
end
abbrev byText(w:World):Bool:=w.params.followText "set-order"
abbrev bY(w:World):Obj:={ cls:=.type "set", dict:=none,data:=.set #[] 0 (.fresh 0 0 (⇑(byText w))) }
def CW(a:Value){Q₁:Value->Shared->Prop}(h:Q₁ (.ref s.heap.objs.size) { s with heap:=s.heap.push (bY w) }) :
  codeAny (model prog w) A (.call (.builtin "set.__new__") {[.type "set", a],[]}) (wants Q₁ E) s:=by
 refine codeAny_of_tree ?_;show wpAny _ A.in1 (do checkBuiltinCall "set.__new__" {[.type "set", a],[]};again (.builtin "set.__new__" {[.type "set", a],[]})) _ _ s;refine aaa (aa9 (F.newCall_set_1 a) (aaf {plainId_quiet F.plain_set_new _,codeAny_builtin F.entry_set_new ?_}));rw[aaG F.plain_set_new _];unfold Builtin.«set.__new__» Builtin.Frozenset.newClass;have b:=sub_set_self;obtain⟨c,g,d,tk,os⟩:=s;dsimp only
 wp_walk
 refine abp (aaf ?_);dsimp only;simp only[newObj];refine aaa (wpAny_alloc (aaf ?_));exact aaf h
section
variable    [DecidableEq K] {knd:KeyKind prog w K}   
def HH(b:h.get? a=!(bY w)):SetZ knd h a [] (⇑(byText w)):=-
 {_,#[],0,_,b,{(rfl),rfl,rfl},rfl,λe c=>by simp at c,λk=>by simp,by decide,rfl,rfl,aaH,rfl,λ_=>List.Pairwise.nil}
set_option maxRecDepth 100000 in
set_option maxHeartbeats 8000000 in
def set_of_list{l:Addr}{items:Array Value}(hh:A.handled=none)(hl:s.heap.IsList l items)(val:Nat->K)
  (p:∀i v,items[i]?=!v->knd.is (val i) v=true/\v.scannable=true) (D:items.size+1<scanBound)
  (h:∀(h':Heap) (tk:Nat),SetZ knd h' s.heap.objs.size (metZ val items.size) (⇑(byText w))->(∀b o,b<s.heap.objs.size->s.heap.get? b=!o->h'.get? b=!o)->Q (.ref s.heap.objs.size) { s with heap:=h',toks:=tk }) :
  wpAny (model prog w) A (call (.type "set") [.ref l]) Q E s:=by
 obtain⟨c,tl,X⟩:=F.called_set.mro;have J:=F.called_set.made;have U:=F.called_set.sub;refine wpAny_call (codeAny_of_tree ?_);show wpAny _ _ (callAny (.type "set") _) _ _ _;refine aaf {Code.quiet_builtin _ ∅,codeAny_builtin F.entry_type_call ?_};rw[Around.under_plain (weight_type_call_type "set" [.ref l] []) rfl];have h1:=F.called_set.notType;have h2:=F.called_set.canCreate;have hct:=F.typeCall_set_1 (.ref l)
 repeat (any_goals (first|assumption|wp_step))
 refine codeAny_mono (CW (.ref l) (E:=E) (Q₁:=λobj g=>obj=.ref s.heap.objs.size/\g={ s with heap:=s.heap.push (bY w) }) {(rfl),rfl}) λr g hr=>?_
 cases r with
 |error e=>exact hr
 | ok fl=>
  cases fl with
  | ret obj=>
   obtain⟨rfl,rfl⟩:=hr;have Y:(s.heap.push (bY w)).get? s.heap.objs.size=!(bY w):=Heap.get?_push_size _ rfl;have hT:Shared.TypeIs { s with heap:=s.heap.push (bY w) } (.ref s.heap.objs.size) "set" := {_,Y,rfl};have hli:=F.called_set.init.lookup;have hbi:=F.called_set.init.bind (.ref s.heap.objs.size)
   repeat (any_goals (first|assumption|wp_step))
   refine codeAny_mono (codeAny_call_builtin (R:=wants (λr f=>r=.none/\∃h' tk,f={ s with heap:=h',toks:=tk } /\
     SetZ knd h' s.heap.objs.size (metZ val items.size) (⇑(byText w))/\(∀b o,b<s.heap.objs.size->s.heap.get? b=!o->h'.get? b=!o)) E) F.called_set.init.plain F.entry_set_init (check_set_init_1 hT ?_)) λn f a=>?_
   .obtain⟨ol,t,B,nl,z⟩:=hl;obtain⟨T,j,I,d⟩:=ol;simp only at B z;subst B;subst z;have q:(s.heap.push (bY w)).get? l=some { cls:=.type "list", dict:=j,data:=.seq items nl,slots:=d }:=Heap.get?_push_of_some _ t;have V:=F.sub_list_set;have W:=F.sub_list_frozenset;have hne:(Value.type "list" == Value.type "dict")=false:=by decide
    have y:(s.heap.push (bY w)).IsList l items:={_,q,rfl,nl,rfl};unfold Builtin.«set.__init__» noKeywords Builtin.Frozenset.updateFrom;generalize S:pyIter=PI
    wp_walk
    subst S;refine wpAny_pyIter_list y ?_;refine aaa (wpAny_runValue ?_);have x:l<s.heap.objs.size:=aah t;have M:A.in1.in1.in1.handled=none:=by simp[hh]
    have u:l≠(s.heap.push (bY w)).objs.size:=by
     rw[aa0];exact aam (aaP x)
    have P:s.heap.objs.size∉[(s.heap.push (bY w)).objs.size,l]:=by
     rw[aa0];simp only[List.mem_cons,List.mem_singleton,List.not_mem_nil,or_false,not_or];exact{aam (aaD _),Nat.ne_of_gt x}
    refine CV (knd:=knd) ((Walks.list M _ l u items).toS) s.heap.objs.size P val (λi v Z=>p i v Z) D (items.size - 0) 0 _ () (aan _)
     {{_,Heap.get?_push_size _ rfl,rfl,rfl},(y.push _)} (HH (Heap.get?_push_of_some _ Y)) ?hR
    case hR=>
     intro s' C k;obtain⟨h',g',d',G,H⟩:=s';have eg:g'=s.gens:=C.gens;have ed:d'=s.drawn:=C.drawn;have eo:H=s.os:=C.os;subst eg;subst ed;subst eo;show wpAny _ _ _ _ _ _;refine aaf ?_;show wpAny _ _ (ret Value.none) _ _ _;refine aaf {rfl,h',G,rfl,k,λb o D e=>?_};have O:b≠s.heap.objs.size:=aam D
     have N:b≠(s.heap.push (bY w)).objs.size:=by
      rw[aa0];exact aam (aaP D)
     exact C.heap b o (by simp only[List.mem_cons,List.mem_singleton,List.not_mem_nil,or_false,not_or];exact{(O),N}) (Heap.get?_push_of_some _ (Heap.get?_push_of_some _ e))
   .cases n with
    |error e=>exact a
    | ok m=>
     cases m with
     | ret r=>
      obtain⟨rfl,h',tk,rfl,k,L⟩:=a
      repeat (any_goals (first|assumption|wp_step))
      exact h _ _ k L
     |next=>exact a.elim
     |brk=>exact a.elim
     |cont=>exact a.elim
  |next=>exact hr.elim
  |brk=>exact hr.elim
  |cont=>exact hr.elim
end
def je:entryFor table "set.__iter__" = ↑Builtin.«frozenset.__iter__»:=-entryFor_alias (id' := "frozenset.__iter__") (by kernel_rfl) rfl ∅ (by kernel_rfl)
def jW(a:Value):argsOk "set.__iter__" {[a],[]}:=by unfold argsOk;kernel_rfl
def eT:Slot "set_iterator" "__iter__" "set_iterator.__iter__":=-
 .of (owner := "set_iterator") (n := "__iter__") (by rw[typeLookup_type,builtinLookup_eq_fast];kernel_rfl) ∅ ∅ ∅
  (by first|exact .inl ∅|exact .inr ∅) (by rw[isSubtype_type];kernel_rfl)
def aJ:Slot "set_iterator" "__next__" "set_iterator.__next__":=-
 .of (owner := "set_iterator") (n := "__next__") (by rw[typeLookup_type,builtinLookup_eq_fast];kernel_rfl) ∅ ∅ ∅
  (by first|exact .inl ∅|exact .inr ∅) (by rw[isSubtype_type];kernel_rfl)
def ik:entryFor table "set_iterator.__iter__" = ↑Builtin.«dict_keyiterator.__iter__»:=-entryFor_alias (id' := "dict_keyiterator.__iter__") (by kernel_rfl) rfl ∅ (by kernel_rfl)
def bZ:entryFor table "set_iterator.__next__" = ↑Builtin.«set_iterator.__next__»:=-entryFor_of_fast (by kernel_rfl)
def jf(a:Value):argsOk "set_iterator.__iter__" {[a],[]}:=by unfold argsOk;kernel_rfl
def ck(a:Value):argsOk "set_iterator.__next__" {[a],[]}:=by unfold argsOk;kernel_rfl
theorem fU{α:Type}:∀(l:↥α) (i:Nat) (h:i<l.length),(l[i]::l.eraseIdx i).Perm l
 |[],_,h=>by simp at h
 |x::l,0,_=>.refl _
 | x::l,i+1,h=>by
  have h':i<l.length:=(by exists h);show (l[i]::x::l.eraseIdx i).Perm (x::l);exact(List.Perm.swap x l[i] _).trans (List.Perm.cons x (fU l i h'))
def lj{k:Nat->Sem α}{Q:α->Shared->Prop}{M:Model}(b:n≠0)(h:∀i d',i<n->wpAny M A (k i) Q E { s with drawn:=d' }):wpAny M A (choose .order n >>= k) Q E s:=by
 intro c p a;refine{b,h _ _ (Nat.mod_lt _ (Nat.pos_of_ne_zero b)) c p a}
theorem jw{α:Type}{M:Model}:∀(n:Nat) (xs:↥α) (s:Shared) (Q:↥α->Shared->Prop),xs.length=n->(∀ys d',ys.Perm xs->Q ys { s with drawn:=d' })->wpAny M A (drawOrder n xs) Q E s
 | 0,xs,s,Q,a,h=>by
  have e:xs=[]:=aaA a;subst e;exact aaf (h [] s.drawn (.refl _))
 |n+1,[],s,Q,a,h=>by simp at a
 | n+1,x::xs,s,Q,a,h=>by
  refine lj (by simp) λi d hi=>?_;have b:(x::xs)[i]?=↑(x::xs)[i]:=List.getElem?_eq_getElem hi;rw[b];dsimp only;refine aaa (jw n ((x::xs).eraseIdx i) _ _ (by rw[List.length_eraseIdx_of_lt hi];simpa using a) λys d' c=>aaf (h _ d' ?_));exact(List.Perm.cons _ c).trans (fU _ i hi)
section
abbrev cW(first:Value)(i:Nat)(x:Value)(n ep:Nat):Obj:={ cls:=.type "set_iterator", dict:=none,data:=.fields #[first,.int (i:Int) 0,x,.int (n:Int) 0,.int (ep:Int) 0],slots:=#[] }
def sy{I:Addr}{Q:Option Value->Shared->Prop}(hh:A.handled=none)(c:∀h',(∀b o,s.heap.get? b=!o->h'.get? b=!o)->Q none { s with heap:=h' }){QQ:PySem.Fin->Shared->Prop} :
  wpAny (model prog w) A.in1 (do let e ← newExc (.type "StopIteration") [];raiseNew e:Sem PySem.Fin) QQ (λe s'=>wpAny (model prog w) A (do if (← isInstance e (.type "StopIteration"))=true then pure none else throw e) Q E s') s:=by
 refine aaa ?_;simp only[newExc,newTuple];refine aaa (aaM ?_ (by size_fits));refine aaa (m:=firstArgMember _ _) (aa9 (a:=Value.none) (by first|rfl|(simp only[firstArgMember];rfl)) ?_);refine aaM ?_ (by size_fits);simp only[raiseNew];refine aaa (wpAny_handled ?_);rw[show A.in1.handled=none from hh];refine aaa (aaf (wpAny_throw ?_));refine aaa (wpAny_isInstance (T := "StopIteration") (b:=true) {_,Heap.get?_push_size _ rfl,rfl} isSubtype_stop ?_);exact aaf (c _ λb o e=>Heap.get?_push_of_some _ (Heap.get?_push_of_some _ e))
variable    {f:Nat} {t:SetTable} {Q:Option Value->Shared->Prop}
def nP{nx:Nat}(b:s.heap.get? I=!(cW (.int (f:Int) 0) i (.ref a) n ep))(g:s.heap.get? a=!o)(hd:o.data=.set es ep t)(e:t.fits es.size=true)(d:n=es.size)
  (hs:∀(k:Value->Shared->Prop) (Q':Option (Value×Nat)->Shared->Prop),Q' ↑(x,nx) s->wpAny (model prog w) A.in1 (setNext a f i ep) Q' k s)
  (j:∀h',h'.get? I=!(cW (.int (nx:Int) 0) (i+1) (.ref a) n ep)->Heap.SameBut I s.heap h'->Q ↑x { s with heap:=h' }):wpAny (model prog w) A (pyNext (.ref I)) Q E s:=by
 have c:s.TypeIs (.ref I) "set_iterator" := {_,b,rfl};subst d;unfold pyNext;refine aaa (abO (wpAny_callSpecial?_slot (name:=Str.ofString "__next__") c aJ (aaC aJ c bZ ?_ (ck _))));unfold Builtin.«set_iterator.__next__»;refine aaa (m:=slotArgs "__next__" 0 _) (aaf ?_)
 try dsimp only
 refine aaa (wpAny_fieldsOf b rfl ?_)
 try dsimp only
 refine aaa (abq g hd e ?_);rw[if_neg (by simp)]
 try dsimp only
 simp only[Int.toNat_natCast];refine aaa (hs _ _ ?_)
 try dsimp only
 refine aaa (abe b (by simp) λh1 g1 b1=>?_);refine aaa (abe (s:={ s with heap:=h1 }) g1 (by simp) λh2 g2 b2=>?_);refine aaf {x,rfl,aaf (j h2 ?_ (b1.trans b2))};rw[g2];rfl
def nQ(hh:A.handled=none)(c:s.heap.get? I=!(cW (.int (f:Int) 0) i (.ref a) n ep))(p:s.heap.get? a=!o)(hd:o.data=.set es ep t)(j:t.fits es.size=true)(g:n=es.size)
  (hs:∀(r:Value->Shared->Prop) (Q':Option (Value×Nat)->Shared->Prop),Q' none s->wpAny (model prog w) A.in1 (setNext a f i ep) Q' r s)
  (q:∀h',(∀b ob,b≠I->s.heap.get? b=!ob->h'.get? b=!ob)->Q none { s with heap:=h' }):wpAny (model prog w) A (pyNext (.ref I)) Q E s:=by
 have d:s.TypeIs (.ref I) "set_iterator" := {_,c,rfl};subst g;unfold pyNext;refine aaa (abO (wpAny_callSpecial?_slot (name:=Str.ofString "__next__") d aJ (aaC aJ d bZ ?_ (ck _))));unfold Builtin.«set_iterator.__next__»;refine aaa (m:=slotArgs "__next__" 0 _) (aaf ?_)
 try dsimp only
 refine aaa (wpAny_fieldsOf c rfl ?_)
 try dsimp only
 refine aaa (abq p hd j ?_);rw[if_neg (by simp)]
 try dsimp only
 simp only[Int.toNat_natCast];refine aaa (hs _ _ ?_)
 try dsimp only
 refine aaa (abe c (by simp) λh1 g1 b1=>?_);exact sy (s:={ s with heap:=h1 }) (I:=I) hh λh' k=>q h' λb ob l e=>k b ob ((b1.2 b l).trans e)
def qc{hx:Int}{place:Nat}(f:s.heap.get? I=!(cW (.ref pl) i (.ref a) n ep))(j:s.heap.get? a=!o)(hd:o.data=.set es ep t)(g:t.fits es.size=true)(p:n=es.size)
  (l:s.heap.get? pl=!op) (e:op.data=.seq pls c) (d:pls[i]?=!(.int (place:Int) 0)) (b:es[place]?=!(hx,x))
  (q:∀h',h'.get? I=!(cW (.ref pl) (i+1) (.ref a) n ep)->Heap.SameBut I s.heap h'->Q ↑x { s with heap:=h' }):wpAny (model prog w) A (pyNext (.ref I)) Q E s:=by
 have k:s.TypeIs (.ref I) "set_iterator" := {_,f,rfl};subst p;unfold pyNext;refine aaa (abO (wpAny_callSpecial?_slot (name:=Str.ofString "__next__") k aJ (aaC aJ k bZ ?_ (ck _))));unfold Builtin.«set_iterator.__next__»;refine aaa (m:=slotArgs "__next__" 0 _) (aaf ?_)
 try dsimp only
 refine aaa (wpAny_fieldsOf f rfl ?_)
 try dsimp only
 refine aaa (abq j hd g ?_);rw[if_neg (by simp)]
 try dsimp only
 simp only[Int.toNat_natCast];refine aaa (m:=seqItems? _) ?_;unfold seqItems?;refine aaa (wpAny_load l ?_);rw[e];refine aaf ?_;dsimp only;rw[d];dsimp only;simp only[Int.toNat_natCast];refine aaa (m:=setNextDrawn _ _ _) ?_;unfold setNextDrawn;refine aaa (abk j hd g ?_);dsimp only;simp only[bne_self_eq_false,Bool.false_eq_true,if_false];rw[b];refine aaf ?_;refine aaa (abe f (by simp) λh1 g1 b1=>?_);refine aaf {x,rfl,aaf (q h1 ?_ b1)};rw[g1];rfl
def qd(hh:A.handled=none)(g:s.heap.get? I=!(cW (.ref pl) i (.ref a) n ep))(u:s.heap.get? a=!o)(hd:o.data=.set es ep t)(r:t.fits es.size=true)(q:n=es.size)
  (p:s.heap.get? pl=!op) (f:op.data=.seq pls c) (d:pls[i]?=none)
  (v:∀h',(∀b ob,b≠I->s.heap.get? b=!ob->h'.get? b=!ob)->Q none { s with heap:=h' }):wpAny (model prog w) A (pyNext (.ref I)) Q E s:=by
 have l:s.TypeIs (.ref I) "set_iterator" := {_,g,rfl};subst q;unfold pyNext;refine aaa (abO (wpAny_callSpecial?_slot (name:=Str.ofString "__next__") l aJ (aaC aJ l bZ ?_ (ck _))));unfold Builtin.«set_iterator.__next__»;refine aaa (m:=slotArgs "__next__" 0 _) (aaf ?_)
 try dsimp only
 refine aaa (wpAny_fieldsOf g rfl ?_)
 try dsimp only
 refine aaa (abq u hd r ?_);rw[if_neg (by simp)]
 try dsimp only
 simp only[Int.toNat_natCast];refine aaa (m:=seqItems? _) ?_;unfold seqItems?;refine aaa (wpAny_load p ?_);rw[f];refine aaf ?_;dsimp only;rw[d];dsimp only;refine aaa (abe g (by simp) λh1 g1 b1=>?_);refine aaa (abe (s:={ s with heap:=h1 }) g1 (by simp) λh2 g2 b2=>?_);exact sy (s:={ s with heap:=h2 }) (I:=I) hh λh' k=>v h' λb ob j e=>k b ob ((b2.2 b j).trans ((b1.2 b j).trans e))
def gr{r:Option (Value×Nat)}(b:byText w=true)(d:s.heap.get? a=!o)(hd:o.data=.set es ep t)(c:t.fits es.size=true)
  (hr:((pickOrder (w.params.setOrder a ep) es)[g]?).map (λe=>(e.2,slot))=r) (h:Q' r s):wpAny (model prog w) A' (setNext a slot g ep) Q' E s:=by
 unfold setNext;refine aaa (abk d hd c ?_);dsimp only;unfold setsByText;refine aaa (aaa (abp (aaf ?_)));rw[show (model prog w).w.params.followText "set-order" = true from b];simp only[bne_self_eq_false,Bool.false_eq_true,if_false,if_true];refine aaa (m:=setWalk a) ?_;unfold setWalk;refine aaa (abk d hd c ?_);dsimp only;unfold setsByText;refine aaa (aaa (abp (aaf ?_)));rw[show (model prog w).w.params.followText "set-order" = true from b];simp only[if_true];refine aaa (abp (aaf ?_));refine aaf ?_;rw[← hr] at h;exact h
def il(d:byText w=false)(f:s.heap.get? a=!o)(hd:o.data=.set es ep t)(e:t.fits es.size=true)(c:(⇑t.plain&&decide (es.size > 1))=false)(b:t.led=true)
  (h:Q' (match es[SetTable.below t.place slot]?,t.place[SetTable.below t.place slot]? with|some (_,x),↑j=>↑(x,j+1)|_,_=>none) s):wpAny (model prog w) A' (setNext a slot g ep) Q' E s:=by
 unfold setNext;refine aaa (abk f hd e ?_);dsimp only;unfold setsByText;refine aaa (aaa (abp (aaf ?_)));rw[show (model prog w).w.params.followText "set-order" = false from d];simp only[Bool.false_eq_true,if_false];show wpAny _ _ (if (⇑t.plain&&decide (es.size > 1))=true then _ else _) _ _ _;rw[c];simp only[Bool.false_eq_true,if_false];refine aaa ?_;show wpAny _ _ (if (⇑t.led&&⇑es.isEmpty)=true then _ else _) _ _ _;rw[b];simp only[Bool.not_true,Bool.false_and,Bool.false_eq_true,if_false];exact aaf (aaf h)
end
theorem sA{α:Type}(next:Nat->Nat):∀(a k:Nat) (left:↥α) (out:Array α),left.length<=a->(pickOrder.go next a k left out).toList.Perm (out.toList++left)
 | 0,k,left,out,h=>by
  have e:left=[]:=aaA ();subst e;show out.toList.Perm (out.toList++[]);rw[aaw]
 | a+1,k,[],out,_=>by
  show out.toList.Perm (out.toList++[]);rw[aaw]
 | a+1,k,x::left,out,h=>by
  show (match (x::left)[next k % (x::left).length]? with
   |some y=>pickOrder.go next a (k+1) ((x::left).eraseIdx (next k % (x::left).length)) (out.push y)
   |none=>out).toList.Perm _
  have hi:next k % (x::left).length<(x::left).length:=Nat.mod_lt _ (by simp);rw[List.getElem?_eq_getElem hi];dsimp only;refine(sA next a (k+1) _ _ (by rw[List.length_eraseIdx_of_lt hi];simp at h ⊢;nofun)).trans ?_;rw[Array.toList_push,aay];exact aaX _ (fU _ _ hi)
def im(next:Nat->Nat)(xs:Array α):(pickOrder next xs).toList.Perm xs.toList:=by
 unfold pickOrder;have q:=sA next xs.size 0 xs.toList #[] (by simp);simpa using q
theorem Ad(es:Array (Int×Value)):∀ys:↥Nat,(∀j∈ys,j<es.size)->ys.filterMap (λj=>(es[j]?).map (·.2))=ys.map λj=>((es[j]?).map (·.2)).getD Value.none
 |[],_=>rfl
 | j::ys,h=>by
  have a:=h j aab;rw[abu,Array.getElem?_eq_getElem a];show es[j].2::ys.filterMap (λj=>(es[j]?).map (·.2))=_;rw[Ad es ys λi hi=>h i (aad _ hi),abT,Array.getElem?_eq_getElem a];rfl
section
variable          {t:SetTable}
def io{f:Value}(b:s.heap.get? I=!(cW f i x n ep))(h:Q (.ref I) s):wpAny (model prog w) A (pyIter (.ref I)) Q E s:=by
 have a:s.TypeIs (.ref I) "set_iterator" := {_,b,rfl};refine wpAny_pyIter_slot a eT (aaC eT a ik ?_ (jf _));show wpAny _ _ (ret (.ref I)) _ _ s;exact aaf {_,rfl, "set_iterator", _,a,aJ.lookup,h}
def sB(hs:Heap.SameBut I s.heap h'):Moved [I] Eq s { s with heap:=h' }:=-
 {λb ob a e=>(hs.2 b (λz=>a (by simp[z]))).trans e,rfl,rfl,rfl,aac _}
def sC(hs:∀b ob,b≠I->s.heap.get? b=!ob->h'.get? b=!ob):Moved [I] Eq s { s with heap:=h' }:=-
 {λb ob a e=>hs b ob (λz=>a (by simp[z])) e,rfl,rfl,rfl,aac _}
theorem qe(hh:A.handled=none)(hne:a≠I)(hd:o.data=.set es ep t)(hf:t.fits es.size=true)(hby:byText w=true) :
  WalksS prog w A I [I,a] [I] Eq es.size (λi v=>((pickOrder (w.params.setOrder a ep) es).toList.map (·.2))[i]?=!v) (λi s=>s.heap.get? I=!(cW (.int ((0:Nat):Int) 0) i (.ref a) es.size ep)/\s.heap.get? a=!o) where
 sub:=λb hb=>by simp at hb;simp[hb]
 grefl:=λ_=>rfl
 gtrans:=λ_ _ _ x y=>x.trans y
 frame:=λi s h' tk st _ k=>{k I (by simp) _ st.1,k a (by simp) _ st.2}
 item:=λi s Q E hi st hQ=>by
  have hl:(pickOrder (w.params.setOrder a ep) es).size=es.size:=by rw[← abZ,(im _ es).length_eq,abZ]
  have hx:(pickOrder (w.params.setOrder a ep) es)[i]?=!((pickOrder (w.params.setOrder a ep) es)[i]'()):=Array.getElem?_eq_getElem _;refine nP (x:=((pickOrder (w.params.setOrder a ep) es)[i]'()).2) (nx:=0) st.1 st.2 hd hf rfl (λE' Q' q=>gr hby st.2 hd hf (by rw[hx];rfl) q) λh' g b=>hQ _ _ ?_ {g,(b.2 a hne).trans st.2} (sB b);rw[List.getElem?_map,Array.getElem?_toList,hx];rfl
 done:=λs Q E st hQ=>by
  have hl:(pickOrder (w.params.setOrder a ep) es).size=es.size:=by rw[← abZ,(im _ es).length_eq,abZ]
  refine nQ hh st.1 st.2 hd hf rfl (λE' Q' q=>gr hby st.2 hd hf (by rw[Array.getElem?_eq_none ()];rfl) q) λh' k=>hQ _ (sC k)
 self:=λi s Q E st h=>io st.1 h
theorem sD(hh:A.handled=none)(hne:a≠I)(hd:o.data=.set es ep t)(hf:t.fits es.size=true)(hby:byText w=false)(hdr:(⇑t.plain&&decide (es.size > 1))=false)(hr:Ris t.place)(hled:t.led=true) :
  WalksS prog w A I [I,a] [I] Eq es.size (λi v=>(es.toList.map (·.2))[i]?=!v) (λi s=>(∃f:Nat,SetTable.below t.place f=i/\s.heap.get? I=!(cW (.int (f:Int) 0) i (.ref a) es.size ep))/\s.heap.get? a=!o) where
 sub:=λb hb=>by simp at hb;simp[hb]
 grefl:=λ_=>rfl
 gtrans:=λ_ _ _ x y=>x.trans y
 frame:=λi s h' tk st _ k=>by
  obtain⟨⟨f,f0,g⟩,ga⟩:=st;exact{{f,f0,k I (by simp) _ g},k a (by simp) _ ga}
 item:=λi s Q E hi st hQ=>by
  obtain⟨⟨f,f0,g⟩,ga⟩:=st
  have hsz:t.place.size=es.size:=by
   have hf':=hf;simp only[SetTable.fits,Bool.and_eq_true,beq_iff_eq] at hf';exact hf'.1
  have hpl:t.place[i]?=!(t.place[i]'()):=Array.getElem?_eq_getElem _;have hes:es[i]?=!(es[i]'hi):=Array.getElem?_eq_getElem _;refine nP (x:=(es[i]'hi).2) (nx:=(t.place[i]'())+1) g ga hd hf rfl (λE' Q' q=>il hby ga hd hf hdr hled (by rw[f0,hes,hpl];exact q)) λh' g' b=>hQ _ _ ?_ {{_,p8 hr hpl,g'},(b.2 a hne).trans ga} (sB b);rw[List.getElem?_map,Array.getElem?_toList,hes];rfl
 done:=λs Q E st hQ=>by
  obtain⟨⟨f,f0,g⟩,ga⟩:=st;refine nQ hh g ga hd hf rfl (λE' Q' q=>il hby ga hd hf hdr hled ?_) λh' k=>hQ _ (sC k);have hbe:es[SetTable.below t.place f]?=none:=by rw[f0];exact Array.getElem?_eq_none (aac _)
  rw[hbe];exact q
 self:=λi s Q E st h=>by
  obtain⟨⟨f,f0,g⟩,ga⟩:=st;exact io g h
theorem mK{ys:↥Nat}(hh:A.handled=none)(hne:a≠I)(hnp:pl≠I)(hd:o.data=.set es ep t)(hf:t.fits es.size=true)(hpd:op.data=.seq (ys.map λ(i:Nat)=>Value.int (i:Int) 0).toArray c)(hys:ys.Perm (List.range es.size)) :
  WalksS prog w A I [I,a,pl] [I] Eq es.size (λi v=>(ys.filterMap λj=>(es[j]?).map (·.2))[i]?=!v) (λi s=>s.heap.get? I=!(cW (.ref pl) i (.ref a) es.size ep)/\s.heap.get? a=!o/\s.heap.get? pl=!op) where
 sub:=λb hb=>by simp at hb;simp[hb]
 grefl:=λ_=>rfl
 gtrans:=λ_ _ _ x y=>x.trans y
 frame:=λi s h' tk st _ k=>{k I (by simp) _ st.1,k a (by simp) _ st.2.1,k pl (by simp) _ st.2.2}
 item:=λi s Q E hi st hQ=>by
  have hl:ys.length=es.size:=by rw[hys.length_eq,ab8]
  have hyi:ys[i]?=!(ys[i]'()):=List.getElem?_eq_getElem _;have hlt:ys[i]'()<es.size:=aca.mp (hys.mem_iff.mp (aaJ _));have hes:es[ys[i]'()]?=↑es[ys[i]'()]:=Array.getElem?_eq_getElem hlt;refine qc (x:=es[ys[i]'()].2) (hx:=es[ys[i]'()].1) (place:=ys[i]'()) st.1 st.2.1 hd hf rfl st.2.2 hpd (by rw[List.getElem?_toArray,List.getElem?_map,hyi];rfl) hes λh' g b=>hQ _ _ ?_ {g,(b.2 a hne).trans st.2.1,(b.2 pl hnp).trans st.2.2} (sB b);have all:=Ad es ys λj hj=>aca.mp (hys.mem_iff.mp hj);rw[all,List.getElem?_map,hyi];show ↑(((es[ys[i]'()]?).map (·.2)).getD Value.none)=_;rw[hes];rfl
 done:=λs Q E st hQ=>by
  have hl:ys.length=es.size:=by rw[hys.length_eq,ab8]
  exact qd hh st.1 st.2.1 hd hf rfl st.2.2 hpd (by rw[List.getElem?_toArray,List.getElem?_eq_none (by rw[abP];nofun)]) λh' k=>hQ _ (sC k)
 self:=λi s Q E st h=>io st.1 h
def xh(y:s.heap.get? a=!o)(hex:o.ExactSet)(hd:o.data=.set es ep t)(u:t.fits es.size=true)(d:es.size<scanBound)(z:t.led=⇑(byText w))(M:t.plain=true->Ris t.place)
  (h:∀(I:Addr) (fp:↥Addr) (St:Nat->Shared->Prop) (ord:↥Value) (h':Heap) (d':Drawn),(∀A':Around,A'.handled=none->WalksS prog w A' I fp [I] Eq es.size (λi v=>ord[i]?=!v) St)->St 0 { s with heap:=h',drawn:=d' } ->
   (∀b∈fp,b<h'.objs.size)->I∈fp->a≠I->(∀b∈fp,b=a∨s.heap.objs.size<=b)->ord.Perm (es.toList.map (·.2))->(∀b ob,s.heap.get? b=!ob->h'.get? b=!ob)->Q (.ref I) { s with heap:=h',drawn:=d' }) :
  wpAny (model prog w) A (pyIter (.ref a)) Q E s:=by
 have R:s.TypeIs (.ref a) "set" := {(o),y,hex.1};refine wpAny_pyIter_slot R F.slot_set_iter (aaC F.slot_set_iter R je ?_ (jW _));unfold Builtin.«frozenset.__iter__»;refine aaa (m:=Builtin.Frozenset.slot0 "__iter__" _) (aaf ?_);refine aaa (m:=Builtin.Frozenset.sizeOf _) (aaa (abq y hd u (aaf ?_)));have alt:a<s.heap.objs.size:=aah y;unfold setDrawn;refine aaa (aaa (abk y hd u ?_));dsimp only;unfold setsByText;refine aaa (aaa (abp (aaf ?_)));refine aaf ?_;show wpAny _ _ (if (⇑(byText w)&&(⇑t.plain&&decide (es.size > 1)))=true then _ else _) _ _ _
 have fin:∀(first:Value) (h1:Heap) (K:Drawn),(∀b ob,s.heap.get? b=!ob->h1.get? b=!ob)->s.heap.objs.size<=h1.objs.size ->
   (∀(I:Addr),I=h1.objs.size->Q (.ref I) { s with heap:=h1.push (cW first 0 (.ref a) es.size ep),drawn:=K }) ->
   wpAny (model prog w) A.in1 (do
    let e ← setEpoch a
    let v ← newFields "set_iterator" [first,rawInt 0,Value.ref a,rawInt es.size,rawInt e]
    ret v) (λfin s'=>∃v,fin=Fin.done (Flow.ret v)/\∃T r,s'.TypeIs v T/\typeLookup (Value.type T) (Str.ofString "__next__")=pure !r/\Q v s') E { s with heap:=h1,drawn:=K }:=by
  intro first h1 K k Z q;refine aaa (wpAny_setEpoch_of (s:={ s with heap:=h1,drawn:=K }) (k a o y) hd u ?_);exact aaa (aaM (aaf {_,rfl, "set_iterator", _,{_,Heap.get?_push_size _ rfl,rfl},aJ.lookup,q _ rfl}))
 by_cases n:(⇑(byText w)&&(⇑t.plain&&decide (es.size > 1)))=true
 .rw[if_pos n];refine aaa (jw es.size (List.range es.size) s _ (by simp) λys d' O=>?_);refine aaa (wpAny_newTuple ?_ (by rw[List.length_map,O.length_eq,List.length_range];exact fits_of_scanBound d));generalize S:({ cls:=.type "tuple", data:=.seq (ys.map λ(i:Nat)=>rawInt (i:Int)).toArray }:Obj)=op;have l:(s.heap.push op).objs.size=s.heap.objs.size+1:=aa0 ..;have P:op.data=.seq (ys.map λ(i:Nat)=>Value.int (i:Int) 0).toArray 0:=by rw[← S];rfl
  refine fin _ (s.heap.push op) d' (λb ob e=>Heap.get?_push_of_some _ e) (by rw[l];exact aa7 _) λI g=>?_;rw[l] at g;have N:s.heap.objs.size≠I:=by rw[g];exact aam (aaD _)
  have c:a≠I:=by rw[g];exact aam (aaP alt)
  have L:((s.heap.push op).push (cW (.ref s.heap.objs.size) 0 (.ref a) es.size ep)).objs.size=s.heap.objs.size+2:=by rw[aa0,l]
  have J:((s.heap.push op).push (cW (.ref s.heap.objs.size) 0 (.ref a) es.size ep)).get? I=!(cW (.ref s.heap.objs.size) 0 (.ref a) es.size ep):=by
   rw[g,← l];exact Heap.get?_push_size _ rfl
  have H:((s.heap.push op).push (cW (.ref s.heap.objs.size) 0 (.ref a) es.size ep)).get? a=!o:=Heap.get?_push_of_some _ (Heap.get?_push_of_some _ y);have W:((s.heap.push op).push (cW (.ref s.heap.objs.size) 0 (.ref a) es.size ep)).get? s.heap.objs.size=!op:=Heap.get?_push_of_some _ (Heap.get?_push_size s.heap (o:=op) (by rw[← S];rfl))
  have V:∀b∈[I,a,s.heap.objs.size],b<((s.heap.push op).push (cW (.ref s.heap.objs.size) 0 (.ref a) es.size ep)).objs.size:=by
   intro b d;rw[L];simp only[List.mem_cons,List.not_mem_nil,or_false] at d;rcases d with rfl|rfl|rfl
   .rw[g];exact aaD _
   .exact aaP (aaP alt)
   .exact aaP (aaD _)
  have G:∀b∈[I,a,s.heap.objs.size],b=a∨s.heap.objs.size<=b:=by
   intro b d;simp only[List.mem_cons,List.not_mem_nil,or_false] at d;rcases d with rfl|rfl|rfl
   .exact .inr (by rw[g];exact aa7 _)
   .exact .inl rfl
   .exact .inr (aac _)
  have U:(ys.filterMap λj=>(es[j]?).map (·.2)).Perm (es.toList.map (·.2)):=by
   refine(O.filterMap λj=>(es[j]?).map (·.2)).trans ?_;rw[← PySem.filterMap_getElem?_range es,List.map_filterMap]
  exact h I [I,a,s.heap.objs.size] _ (ys.filterMap λj=>(es[j]?).map (·.2)) _ d' (λA' D=>mK (op:=op) D c N hd u P O) {(J),H,W} V (by simp) c G U (λb ob e=>Heap.get?_push_of_some _ (Heap.get?_push_of_some _ e))
 .rw[if_neg n];refine aaa (aaf ?_);refine fin _ s.heap s.drawn (λb ob e=>e) (aac _) λI g=>?_;have c:a≠I:=by rw[g];exact aam alt
  have B:∀b∈[I,a],b<(s.heap.push (cW (rawInt 0) 0 (.ref a) es.size ep)).objs.size:=by
   intro b d;rw[aa0];simp only[List.mem_cons,List.not_mem_nil,or_false] at d;rcases d with rfl|rfl
   .rw[g];exact aaD _
   .exact aaP alt
  have J:(s.heap.push (cW (rawInt 0) 0 (.ref a) es.size ep)).get? I=!(cW (rawInt 0) 0 (.ref a) es.size ep):=by rw[g];exact Heap.get?_push_size _ rfl
  have H:(s.heap.push (cW (rawInt 0) 0 (.ref a) es.size ep)).get? a=!o:=Heap.get?_push_of_some _ y
  have G:∀b∈[I,a],b=a∨s.heap.objs.size<=b:=by
   intro b d;simp only[List.mem_cons,List.not_mem_nil,or_false] at d;rcases d with rfl|rfl
   .exact .inr (by rw[g];exact aac _)
   .exact .inl rfl
  cases p:byText w with
  |true=>exact h I [I,a] _ ((pickOrder (w.params.setOrder a ep) es).toList.map (·.2)) _ s.drawn (fun A' D=>qe D c hd u p) {(J),H} B (by simp) c G ((im _ es).map _) (fun b ob e=>Heap.get?_push_of_some _ e)
  | false=>
   have f:(⇑t.plain&&decide (es.size > 1))=false:=by
    rw[p,Bool.not_false,Bool.true_and] at n;exact ab9.mpr n
   have hr:Ris t.place:=by
    cases q:t.plain with
    |true=>exact M q
    | false=>
     rw[q,Bool.not_false,Bool.true_and] at f;have h1:¬es.size > 1:=of_decide_eq_false f
     have X:t.place.size=es.size:=by
      have C:=u;simp only[SetTable.fits,Bool.and_eq_true,beq_iff_eq] at C;exact C.1
     have Y:t.place.toList.length<=1:=by rw[abZ];nofun
     unfold Ris
     match hq:t.place.toList,Y with
     |[],_=>exact .nil
     |[x],_=>exact List.pairwise_singleton _ _
   exact h I [I,a] _ (es.toList.map (·.2)) _ s.drawn (λA' D=>sD D c hd u p f hr (by rw[z,p];rfl)) {{0,pZ hr,J},H} B (by simp) c G (.refl _) (λb ob e=>Heap.get?_push_of_some _ e)
end
section
variable          {t:SetTable}
def xi{Q:Bool->Shared->Prop}(e:s.TypeIs (.ref a) "set")(h:Q false s):wpAny (model prog w) A (Builtin.List.listLengthHint (.ref a)) Q E s:=by
 unfold Builtin.List.listLengthHint;refine aaa (wpAny_specialOf e F.slot_set_len.lookup ?_);generalize c:("set.__len__" : String)=d
 wp_delta
 rw[show splitId d=↑("set", "__len__") from by subst c;decide +kernel];subst c;refine aaa (wpAny_isInstance (b:=true) e sub_set_self ?_);rw[if_neg (by decide)];show wpAny _ _ (if _=true then _ else _) _ _ _;rw[if_pos ∅];refine aaa (wpAny_typeOf e ?_);exact aaf h
def mL{Q:↥Value->Shared->Prop}(hh:A.handled=none)(M:s.heap.get? a=!o)(hex:o.ExactSet)(hd:o.data=.set es ep t)(hf:t.fits es.size=true)(p:es.size<scanBound)(m:t.led=⇑(byText w))(B:t.plain=true->Ris t.place)
  (hQ:∀(vs:↥Value) (h':Heap) (d':Drawn) (tk:Nat),vs.Perm (es.toList.map (·.2))->s.heap.objs.size<h'.objs.size->(∀b ob,s.heap.get? b=!ob->h'.get? b=!ob)->Q vs { s with heap:=h',drawn:=d',toks:=tk }) :
  wpAny (model prog w) A (collect (.ref a)) Q E s:=by
 have alt:a<s.heap.objs.size:=aah M;unfold collect;refine aaa (wpAny_runValue (codeAny_builtin F.entry_proto_collect ?_));rw[aaG F.plain_proto_collect _];show wpAny _ A.in1 (newList [] >>= λl=>again (.builtin "list.__iadd__" {[l,.ref a],[]})) _ _ s;refine aaa (aaM ?_);refine aaf {plainId_quiet F.plain_list_iadd _,codeAny_builtin F.entry_list_iadd ?_};rw[aaG F.plain_list_iadd _];generalize N:({ cls:=.type "list", dict:=none,data:=.seq ([]:↥Value).toArray }:Obj)=ol;have g1:(s.heap.push ol).get? s.heap.objs.size=!ol:=Heap.get?_push_size s.heap (o:=ol) (by rw[← N];rfl);have H:(s.heap.push ol).get? a=!o:=Heap.get?_push_of_some _ M;have hT:Shared.TypeIs { s with heap:=s.heap.push ol } (.ref a) "set" := {(o),H,hex.1};show wpAny _ A.in1 (Builtin.List.listExtendWith (.ref s.heap.objs.size) (.ref a) (.ref s.heap.objs.size)) _ _ _;unfold Builtin.List.listExtendWith;refine aaa (wpAny_typeOf hT ?_)
 have h1:Builtin.List.listSameRef (.ref s.heap.objs.size) (.ref a)=false:=by
  simp only[Builtin.List.listSameRef,beq_eq_false_iff_ne];exact(aam alt).symm
 rw[if_neg (by rw[h1];decide)];refine aaa (xh (s:={ s with heap:=s.heap.push ol }) H hex hd hf p m B λI fp St ord h2 U W u Z O G n c C=>?_);refine aaa (aaS (xi {o,C a o H,hex.1} ?_));rw[if_pos (by decide)];refine aaa (abE ?_);refine aaa ?_;have g2:h2.get? s.heap.objs.size=some { cls:=.type "list", data:=.seq ([]:↥Value).toArray }:=by rw[N];exact C _ _ g1
 show wpAny _ A.in1 (updateSeq s.heap.objs.size (·.push .none) >>= λ_=>updateSeq s.heap.objs.size (·.pop)) _ _ _;refine aaa (wpAny_updateSeq (s:={ s with heap:=h2,drawn:=U }) g2 rfl ?_);have g3:=Heap.get?_update_self (Obj.mapSeq (·.push Value.none)) g2 rfl;refine wpAny_updateSeq g3 rfl ?_;have S:=Heap.get?_update_self (Obj.mapSeq (·.pop)) g3 rfl;generalize D:(h2.update s.heap.objs.size (Obj.mapSeq (·.push Value.none))).update s.heap.objs.size (Obj.mapSeq (·.pop))=P at S ⊢
 have i:∀b ob,b≠s.heap.objs.size->h2.get? b=!ob->P.get? b=!ob:=λb ob k e=>by
  rw[← D];exact(Heap.get?_update_other _ _ (abz k)).trans ((Heap.get?_update_other _ _ (abz k)).trans e)
 have K:(s.heap.push ol).objs.size=s.heap.objs.size+1:=aa0 ..
 have f:s.heap.objs.size∉fp:=λg=>by
  rcases n _ g with z|z
  .exact absurd z (aam alt).symm
  .have z:(s.heap.push ol).objs.size<=s.heap.objs.size:=z;rw[K] at z;exact absurd z (Nat.not_succ_le_self _)
 have hIS:I≠s.heap.objs.size:=λe=>f (e ▸ O);have r:=(W A.in1 hh).frame 0 _ P s.toks u (aac _) λb p ob e=>i b ob (λz=>f (z ▸ p)) e
 have x:∀b ob,s.heap.get? b=!ob->b≠s.heap.objs.size/\b≠I:=λb ob e=>by
  refine{aam (aah e),λz=>?_};rcases n _ O with y|y
  .exact G y.symm
  .have y:(s.heap.push ol).objs.size<=I:=y;rw[K,← z] at y;exact absurd (aaq (aah e) (Nat.le_of_succ_le y)) (aaZ _)
 refine aaf {plainId_quiet F.plain_extend_loop _,codeAny_extend_loopS (W A.in1 hh) (fits_of_scanBound p) _ f _ es.size 0 _ _ _ rfl (aan _) r S (ItemsOf.nil _) λs' acc c' g R d=>?_};show wpAny _ A (load s.heap.objs.size >>= _) _ _ s';refine aaa (wpAny_load R ?_);refine aaf ?_;obtain⟨h9,g9,d9,q,v⟩:=s';have eg:g9=s.gens:=g.gens.symm;have ed:d9=U:=g.drawn;have eo:v=s.os:=g.os;subst eg ed eo;have hl:ord.length=es.size:=by rw[c.length_eq,abP,abZ]
 have X:acc.toList=ord:=by
  refine List.ext_getElem? λj=>?_;by_cases L:j<acc.size
  .have T:acc[j]?=↑acc[j]:=Array.getElem?_eq_getElem L;rw[Array.getElem?_toList,T,d.2 j _ T]
  .have Y:es.size<=j:=by rw[d.1] at L;nofun
   rw[Array.getElem?_toList,Array.getElem?_eq_none (),List.getElem?_eq_none ()]
 refine hQ _ h9 _ q (by rw[X];exact c) (aah R) λb ob e=>?_;obtain⟨J,V⟩:=x b ob e;exact g.heap b ob (by simp[J,V]) (i b ob J (C b ob (Heap.get?_push_of_some _ e)))
end
theorem ip{α:Type}[DecidableEq α]:∀(σ ss:↥α),σ.Nodup->(∀k∈σ,k∈ss)->ss.length=σ.length->ss.Perm σ
 | [],ss,_,_,d=>by
  have:ss=[]:=aaA (by exists d);subst this;exact .refl _
 | k::σ,ss,l,g,d=>by
  have m:k∈ss:=g k (aab ..);have f:=List.perm_cons_erase m;have a:=abV.mp l
  have b:(ss.erase k).length=σ.length:=by
   have:=f.length_eq;simp only[List.length_cons] at this d;nofun
  refine f.trans (.cons k (ip σ (ss.erase k) a.2 (λj i=>?_) b));have c:j≠k:=λe=>a.1 (e ▸ i);exact(List.mem_erase_of_ne c).mpr (g j (aad _ i))
def xj{x:Str}{v:Value}(h:Value.isStrOf x v=true):strOf v=x:=by
 obtain⟨t,rfl⟩:=Value.isStrOf_shape h;rfl
def sorted_set{σ:↥Str}(hh:A.handled=none)(T:SetZ (PySem.strKind prog w) s.heap a σ (⇑(byText w)))(M:σ.length<64)
  (U:∀(p:Addr) (out:↥Value) (ss:↥Str) (e:Nat) (h':Heap) (d':Drawn) (tk:Nat),s.heap.objs.size<=p->h'.get? p=!(seqObj "list" out.toArray e)->StrsAre out ss->ss.Perm σ->sortedS ss=true ->
   (∀b o,s.heap.get? b=!o->h'.get? b=!o)->Q (.ref p) { s with heap:=h',drawn:=d',toks:=tk }) :
  wpAny (model prog w) A (call (.builtin "sorted") [.ref a]) Q E s:=by
 obtain⟨o,es,ep,t,R,hex,hd,V,l,z,S,D,H,n,G⟩:=T;refine Calls.call_function_entry kind_sorted plain_sorted entry_sorted (args_sorted1 _) ?_;unfold Builtin.«sorted»;refine aaa (m:=checkCount "sorted" 1 1 _) (aaf ?_);refine aaa (mL (by exists hh) R hex hd S z n G λvs h' d' tk c I u=>?_);have d:vs.length=σ.length:=by rw[c.length_eq,abP,abZ];exact D
 refine aaa (wpAny_newList ?_ (hsz:=by rw[sizeLine_eq];nofun));show wpAny _ _ _ _ _ { s with heap:=h'.push (seqObj "list" vs.toArray 0),drawn:=d',toks:=tk };have f:(h'.push (seqObj "list" vs.toArray 0)).get? h'.objs.size=!(seqObj "list" vs.toArray 0):=Heap.get?_push_size _ rfl
 have j:∀v∈vs,∃x t,v=.str x t:=λv P=>by
  have C:=c.mem_iff.mp P;obtain⟨e,L,rfl⟩:=abW.mp C;obtain⟨⟨k,u,_⟩,_⟩:=V e L;obtain⟨t,q⟩:=Value.isStrOf_shape u;exact{(k),t,q}
 have g:=strsAre_map vs j
 have F:(vs.map strOf).Perm σ:=by
  refine ip σ _ H (λk u=>?_) (by rw[abP,d]);obtain⟨e,L,J⟩:=(l k).mp u;refine abW.mpr {e.2,c.mem_iff.mpr (abW.mpr {(e),L,rfl}),xj J}
 have r:s.heap.objs.size<=h'.objs.size:=acg I;refine aaa (aaS (aaC slot_list_sort {_,f,rfl} entry_list_sort (list_sort_treeK strKind_oneLt f g.keysOf (λO N rest e=>keyKind_strs (by rw[← e];exact g)) (by rw[d];exact M) λi Z Y=>{_,rfl,?_}) (args_list_sort _)));obtain⟨B,b1,b2,X⟩:=sorted_out_str g Z Y;obtain⟨W,K⟩:=sortedHeap_at (out:=(arrOf i).map (·.2)) f;refine aaf {_,rfl,U h'.objs.size ((arrOf i).map (·.2)).toList B W _ d' tk r (by rw[abn];exact K) b1 (b2.trans F) X λb ob z=>?_};have y:b<h'.objs.size:=aaq (aah z) r;rw[sortedHeap_old (aam y) (by rw[size_push'];exact aaP y)];exact Heap.get?_push_of_some _ (u b ob z)
end KS
namespace L2
open PySem PySem.Spec PyProof.Rows
variable{ss zs:↥Str}{X:Cx}{σ σ0:St}{H F F' H' Z F1:Hp}{s:Shared}{a p:Addr}{ty tv te ta tb:TE}{pos:Pos}{ixs T μ m:↥Nat}{i n j no:Nat}{y z x b:Str}{wi:TI}{g:TG}{tc u:TT}{ys:↥(Key×V)}{Q:VK}{v:V}{xs vs:↥V}{A B:↥Addr}{ks k:↥Key}{t:TA}{gs:TGs}{w:World}{gV:Int->Int->V}
def ef{vs:↥Value}(h:StrsAre vs ss):Vals (ss.map V.str) vs:=by
 induction h with
 |nil=>exact .nil
 |cons y t h a=>exact .cons {(t),rfl} a
theorem eh:∀{ss:↥Str} {vs:↥Value},Vals (ss.map V.str) vs->StrsAre vs ss
 |[],_,.nil=>.nil
 |s::ss,_,.cons ⟨t,e⟩ r=>by subst e;exact .cons s t (eh r)
theorem Ae:∀{vs:↥Value} {ss:↥Str} {i:Nat} {v:Value},StrsAre vs ss->vs[i]?=!v->∃t,v=.str (ss.getD i "") t
 |_,_,_,_,.nil,e=>by simp at e
 |_,_,0,_,.cons y t h,e=>by simp at e;exact{t,by rw[← e];rfl}
 | _,_,i+1,v,.cons y t h,e=>by
  obtain⟨u,q⟩:=Ae (i:=i) (v:=v) h (by exists e);exact{u,(by exists q)}
theorem StrsAre.len:∀{vs:↥Value} {ss:↥Str},StrsAre vs ss->vs.length=ss.length
 |_,_,.nil=>rfl
 |_,_,.cons _ _ h=>by simp[StrsAre.len h]
def KI(P:Program)(w:World)(q:Addr)(σ:↥Str):HO:=.ext λh=>KS.SetZ (PySem.strKind P w) h q σ (⇑(KS.byText w))
def Inv.laidD{pins:↥(Addr×Obj)}{h':Heap}{o:HO}{t':Nat}{d':Drawn}(I:Inv X pins σ H s)(k:∀b u,s.heap.get? b=!u->h'.get? b=!u)(c:s.heap.objs.size<=a)(new:ObjOk X.prog X.w (upd H a o) h' a o) :
  Inv X pins σ (upd H a o) { s with heap:=h',drawn:=d',toks:=t' }:=-
 I.call (ch:=[]) (g':=s.gens) (Un.laid k c (I.hok.fresh c)) (I.hok.laid k c new) I.bare (λ_ z=>nomatch z)
def KJ(P:Program)(w:World)(K:Frag):↥V->Hp->VK->Prop:=λxs H Q=>∃(p:Addr) (zs:↥Str),xs=[.ref p]/\SqL K H p (zs.map .str)/\zs.length+1<scanBound /\
 ∀q σ,H q=none->(∀k,k∈σ↔k∈zs)->σ.Nodup->σ.length<=zs.length->Q (.ref q) (upd H q (KI P w q σ))
def sE(B:X.calm=true):CallR X (.type "set") (KJ X.prog X.w X.K):=by
 intro pins s σ H xs us Q I r h;obtain⟨p,zs,rfl,y,C,q⟩:=h;obtain⟨u,rfl,w⟩:=dS r;cases w;obtain⟨its,r',pl,x⟩:=I.list y;have n:=eh r';have c:=StrsAre.len n;refine KS.set_of_list (knd:=PySem.strKind X.prog X.w) (I.ok.hd B) pl.isList (λi=>zs.getD i "") (λi v e=>?_) (by simp only[List.size_toArray];nofun) λh' tk m g=>?_
 .obtain⟨t,rfl⟩:=Ae (i:=i) n (by exists e);exact{kO _ t,rfl}
 .have a:∀k,k∈KS.metZ (λi=>zs.getD i "") its.toArray.size↔k∈zs:=λk=>by
   rw[KS.metZ_mem];simp only[List.size_toArray,c];constructor
   .rintro⟨j,d,rfl⟩;rw[List.getD,List.getElem?_eq_getElem d];exact aaJ d
   .intro g;obtain⟨j,d,e⟩:=abt g;exact{j,d,by rw[List.getD,List.getElem?_eq_getElem d];exact e}
  have l:=id m;obtain⟨o,es,ep,t,A,_,_,_,_,_,_,_,f,_,_⟩:=l;refine{.ref s.heap.objs.size,_,I.laid (t':=tk) (o:=KI X.prog X.w s.heap.objs.size (KS.metZ (λi=>zs.getD i "") its.toArray.size)) (λb o e=>g b o (aah e) e) (aac _) ?_,rfl,q _ _ (I.hok.fresh (aac _)) a f ?_}
  .exact{m,{(o),A},λh1 h2 z k=>KS.SetZ.at z k}
  .exact aar (KS.metZ_len _ _) (by simp only[List.size_toArray];nofun)
def sG(P:Program)(w:World)(K:Frag):↥V->Hp->VK->Prop:=λxs H Q=>∃(p:Addr) (σ:↥Str),xs=[.ref p]/\(H p=↑(KI P w p σ)∨SqL K H p (σ.map .str))/\σ.length<64 /\
 ∀q ss,H q=none->ss.Perm σ->sortedS ss=true->Q (.ref q) (upd H q (.lst (ss.map .str)))
def ll(x:X.calm=true):CallR X (.builtin "sorted") (sG X.prog X.w X.K):=by
 intro pins s σ H xs us Q I r h;obtain⟨p,A,rfl,a,f,q⟩:=h;obtain⟨u,rfl,l⟩:=dS r;cases l;rcases a with a|a
 .obtain⟨d,_,_⟩:=I.hok p _ a;refine KS.sorted_set (I.ok.hd x) d f λi out ss e h' z tk c v g j hs t=>?_;have n:ss.length<64:=by rw[j.length_eq];exact f
  refine{.ref i,_,I.laidD (t':=tk) (d':=z) (o:=.lst (ss.map .str)) t c {?_,out,e,ef g,v},rfl,q i ss (I.hok.fresh c) j hs};rw[abP,sizeLine_eq];nofun
 .obtain⟨its,r',pl,m⟩:=I.list a;have d:=eh r';have k:=StrsAre.len d;refine sorted_strs pl.isList d () λout ss h1 h2 y=>?_;obtain⟨e,w⟩:=sortedAll_at s.heap its out;have n:ss.length<64:=by rw[h2.length_eq];exact f
  refine{.ref (s.heap.objs.size+1),_,I.laid (t':=s.toks) (o:=.lst (ss.map .str)) (λb o e=>sortedAll_old e) (aa7 _) {?_,out.toList,e,ef h1,by rw[abn];exact w},rfl,q _ ss (I.hok.fresh (aa7 _)) h2 y};rw[abP,sizeLine_eq];nofun
def qf(K:X.calm=true):CallR X (.type "list") (λxs H Q=>∃p kvs,xs=[.ref p]/\Rd H p (.dK kvs)/\∀l,H l=none->Q (.ref l) (upd H l (.lst (kvs.map λkv=>kV kv.1)))):=by
 intro pins s σ H xs us Q I r h;obtain⟨p,kvs,rfl,B,q⟩:=h;obtain⟨u,rfl,E⟩:=dS r;cases E;obtain⟨w,L,vs,A,m⟩:kvs.length<=sizeLine/\(p==sysModules)=false/\∃vs,KV kvs vs/\s.heap.DictOf (aw X.prog X.w) p vs:=B.ok I.hok;obtain⟨ep,n⟩:=m.dictAt;have y:kvs.length=vs.length:=aa4 A;refine PySem.W.kdl_call (PySem.W.kdl_dict (knd:=aw X.prog X.w) (kvs:=vs) (ep:=ep) L) (I.ok.hd K) n (by rw[← y];exact w) λh' tk c O J C f=>?_
 have G:Vals (kvs.map λkv=>kV kv.1) c.toList:=by
  have g:c.toList.length=kvs.length:=by rw[abZ,f.1,y]
  have d:∀j v,c.toList[j]?=!v->∃k x,vs[j]?=!(k,x)/\jO k v=true:=λj v e=>f.2 j v (by rw[← Array.getElem?_toList];exact e);clear f C;generalize c.toList=us at g d;clear n m y w q B I
  induction A generalizing us with
  |nil=>cases us with|nil=>exact .nil|cons a b=>simp at g
  | cons h1 h2 F=>
   cases us with
   |nil=>simp at g
   | cons a b=>
    refine .cons ?_ (F b (by exists g) λj v e=>by simpa using d (j+1) v (by exists e));obtain⟨k,x,D,N⟩:=d 0 a rfl;simp only[List.getElem?_cons_zero,Option.some.injEq] at D;subst D;have M:_=k:=h1.1;show RelV (kV _) a;rw[M];rcases aT N with ⟨i,t,rfl,rfl⟩|⟨z,t,rfl,rfl⟩
    .exact{(t),rfl}
    .exact{(t),rfl}
 exact{.ref s.heap.objs.size,_,I.laid (t':=tk) (o:=.lst (kvs.map λkv=>kV kv.1)) J (aac _) {by rw[abP];exact w,c.toList,O,G,by rw[abn];exact C},rfl,q _ (I.hok.fresh (aac _))}
def sH(K:Frag):↥V->Hp->VK->Prop:=λxs H Q=>(∃p ys,xs=[.ref p]/\(SqL K H p ys∨SqT K H p ys)/\∀l,H l=none->Q (.ref l) (upd H l (.lst ys)))∨∃p kvs,xs=[.ref p]/\Rd H p (.dK kvs)/\∀l,H l=none->Q (.ref l) (upd H l (.lst (kvs.map λa=>kV a.1)))
def sI(K:Frag):↥V->Hp->VK->Prop:=λxs H Q=>∃p ys,xs=[.ref p]/\((SqL K H p ys/\∀l,H l=none->Q (.ref l) (upd H l (.tup ys)))∨(SqT K H p ys/\Q (.ref p) H))
def CY(K:Frag)(a:X.calm=true)(h:X.K=K):BCall X (.type "list") (sH K):=by subst h;exact{la.or (qf a)}
def xk(K:Frag)(h:X.K=K):BCall X (.type "tuple") (sI K):=by subst h;exact{(jR)}
def HI(P:Program)(w:World)(K:Frag)(b:X.calm=true)(c:X.prog=P)(a:X.w=w)(h:X.K=K):BCall X (.type "set") (KJ P w K):=by subst h c a;exact{sE b}
def CZ{o i value:Expr}{td:TE}{pos':Pos}(b:X.A.units+1<cLine)(c:BE X o td)(hi:BE X i ty)(a:BE X value tv)(hs:swapsWith value ↑(.Subscript o i pos') pos.line X.env=pure false) :
  BS X (.Assign [.Subscript o i pos'] value pos) (wu td ty tv):=-{BX b c.h hi.h a.h hs}
def C5{T F:↥Str}{scope:Scope}{elt tg iter:Expr}{ifs:↥Expr}{py a:Pos}(k:X.calm=true)(S:CompScope X T F ixs scope)(hi:BI X tg iter wi)
  (e:∀C s H fp,BG (bq X (T++F) scope (aK X.env scope.names []) C s H fp) tg g) (d:∀C s H fp,BIf (bq X (T++F) scope (aK X.env scope.names []) C s H fp) ifs tc) (j:∀C s H fp,BE (bq X (T++F) scope (aK X.env scope.names []) C s H fp) elt te)
  (hs:∀x,foldedSetIterable iter X.env x=pure x) (l:X.N.Nodup) (c:X.N[i]?=!y) (hx:Loc X.env.scope y)
  (b:swapsWith (.ListComp elt [{(tg),iter,ifs,0}] scope pos) ↑(.Name y py) a.line X.env=pure true) (f:X.fn y=true∨X.env.scope.names.lookup y=!.local) :
  BS X (.Assign [.Name y py] (.ListComp elt [{(tg),iter,ifs,0}] scope pos) a) (pJ (dZ T.length ixs wi g tc te) (eQ i)):=-
 {Cf k S hi.h (λC s H fp=>(e C s H fp).h) (λC s H fp=>(d C s H fp).h) (λC s H fp=>(j C s H fp).h) hs l c hx b f}
def LL{α:Type}{x:α}{r:↥α}:atI (x::r) (0:Int)=!x:=-cE (j:=0) rfl
def HJ(K:Frag)(mg:Str->Option Value)(x:Str)(xs:↥V):Prop:=∃a,mg x=!(.ref a)/\∀H,SqT K H a xs
def sJ{K:Frag}{ys:↥V}(h:SqL K H p ys)(q:∀l,H l=none->Q (.ref l) (upd H l (.lst ys))):sH K [.ref p] H Q:=-.inl {p,ys,rfl,.inl h,q}
def sK{K:Frag}{ys:↥V}(h:SqT K H p ys)(q:∀l,H l=none->Q (.ref l) (upd H l (.lst ys))):sH K [.ref p] H Q:=-.inl {p,ys,rfl,.inr h,q}
def qg{K:Frag}{kvs:↥(Key×V)}(h:Rd H p (.dK kvs))(q:∀l,H l=none->Q (.ref l) (upd H l (.lst (kvs.map λkv=>kV kv.1)))):sH K [.ref p] H Q:=-.inr {(p),kvs,rfl,h,q}
def qh{K:Frag}{ys:↥V}(h:SqL K H p ys)(q:∀l,H l=none->Q (.ref l) (upd H l (.tup ys))):sI K [.ref p] H Q:=-{p,ys,rfl,.inl {(h),q}}
def gu(h:zs.Nodup):(KS.dedup1 zs z).Nodup:=by
 unfold KS.dedup1;split
 .exact h
 .rename_i a;exact KS.nodup_snoc h a
def fV :y∈KS.dedup1 zs z↔y∈zs∨y=z:=by
 unfold KS.dedup1;split
 .rename_i a;exact{.inl,λh=>h.elim id λe=>e ▸ a}
 .simp
def qi(zs:↥Str)(z:Str):zs.length<=(KS.dedup1 zs z).length/\(KS.dedup1 zs z).length<=zs.length+1/\1<=(KS.dedup1 zs z).length:=by
 unfold KS.dedup1;split
 .rename_i a;exact{aac _,aa7 _,abD a}
 .simp
inductive D where
 |non|bl (b:Bool)|int (i:Int)|str (x:Str)|lst (xs:↥D)|tup (xs:↥D)|dct (ks:↥Key) (xs:↥D)|ty (T:String)|opq (a:Addr) (n:Nat)|gt (xs:↥D)|dt (ks:↥↥Key) (xs:↥D)
variable{d e:D}{ds as:↥D}{gD:Int->Int->D}
def plKV:Key×V->Bool
 |(.inr z,.int i)=>decide (z.length<=20)&&z.cps.toList.all (λc=>decide (c<16 ^ 8))&&decide (i.natAbs.log2<20)&&decide ((PySem.PyData.shown (.int i)).length<=8)
 |_=>false
mutual
inductive Den(K:Frag)(F:Hp):V->D->Prop where
 |non:Den K F .non .non
 |bl (b:Bool):Den K F (.bl b) (.bl b)
 |int (i:Int):Den K F (.int i) (.int i)
 |str (x:Str):Den K F (.str x) (.str x)
 |ty (T:String):Den K F (.ty T) (.ty T)
 |lst {a:Addr} {xs:↥V} {ds:↥D}:SqL K F a xs->Dens K F xs ds->Den K F (.ref a) (.lst ds)
 |tup {a:Addr} {xs:↥V} {ds:↥D}:F a=!(.tup xs)->Dens K F xs ds->Den K F (.ref a) (.tup ds)
 |dct {a:Addr} {ys:↥(Key×V)} {ks:↥Key} {ds:↥D}:Rd F a (.dK ys)->ys.map (·.1)=ks->Dens K F (ys.map (·.2)) ds->Den K F (.ref a) (.dct ks ds)
 |opq {a:Addr} {ys:↥(Key×V)} {n:Nat}:Rd F a (.dK ys)->ys.length=n->ys.all plKV=true->Den K F (.ref a) (.opq a n)
 |gt {a:Addr} {xs:↥V} {ds:↥D}:SqT K F a xs->Dens K F xs ds->Den K F (.ref a) (.gt ds)
 |dt {a:Addr} {ys:↥(↥Key×V)} {ks:↥↥Key} {ds:↥D}:Rd F a (.dT ys)->ys.map (·.1)=ks->Dens K F (ys.map (·.2)) ds->Den K F (.ref a) (.dt ks ds)
inductive Dens(K:Frag)(F:Hp):↥V->↥D->Prop where
 |nil:Dens K F [] []
 |cons {x:V} {d:D} {xs:↥V} {ds:↥D}:Den K F x d->Dens K F xs ds->Dens K F (x::xs) (d::ds)
end
def Same.rd{u:HO}(e:Same F F')(h:Rd F a u):Rd F' a u:=-h.elim (λh=>.inl (e _ _ h)) fun⟨o,h⟩=>.inr {o,e _ _ h}
def Den.mono{K:Frag}(e:Same F F')(h:Den K F v d):Den K F' v d:=-
 Den.rec (motive_1:=λv d _=>Den K F' v d) (motive_2:=λv d _=>Dens K F' v d) .non .bl .int .str .ty (λh _ t=>.lst (e.seq h) t) (λh _ t=>.tup (e _ _ h) t) (λh k _ t=>.dct (e.rd h) k t) (λh k p=>.opq (e.rd h) k p) (λh _ t=>.gt (h.same e) t) (λh k _ t=>.dt (e.rd h) k t) .nil (λ_ _ h t=>.cons h t) h
def Dens.mono{K:Frag}(e:Same F F'){v:↥V}{d:↥D}(h:Dens K F v d):Dens K F' v d:=-
 Dens.rec (motive_1:=λ_ _ _=>True) (motive_2:=λv d _=>Dens K F' v d) trivial (λ_=>trivial) (λ_=>trivial) (λ_=>trivial) (λ_=>trivial) (λ_ _ _=>trivial) (λ_ _ _=>trivial) (λ_ _ _ _=>trivial) (λ_ _ _=>trivial) (λ_ _ _=>trivial) (λ_ _ _ _=>trivial) .nil (λh _ _ t=>.cons (h.mono e) t) h
section
variable {K:Frag} 
def Dens.length{xs:↥V}{ds:↥D}(h:Dens K F xs ds):xs.length=ds.length:=-
 Dens.rec (motive_1:=λ_ _ _=>True) (motive_2:=λxs ds _=>xs.length=ds.length) trivial (λ_=>trivial) (λ_=>trivial) (λ_=>trivial) (λ_=>trivial) (λ_ _ _=>trivial) (λ_ _ _=>trivial) (λ_ _ _ _=>trivial) (λ_ _ _=>trivial) (λ_ _ _=>trivial) (λ_ _ _ _=>trivial) rfl (λ_ _ _ t=>congrArg (·+1) t) h
theorem Dens.get:∀{xs:↥V} {ds:↥D} {i:Nat} {d:D},Dens K F xs ds->ds[i]?=!d->∃x,xs[i]?=!x/\Den K F x d
 |_,_,_,_,.nil,e=>by simp at e
 |_,_,0,_,.cons h _,e=>by simp at e;subst e;exact{_,rfl,h}
 | _,_,i+1,d,.cons h t,e=>by
  obtain⟨x,h1,h2⟩:=Dens.get (i:=i) (d:=d) t (by exists e);exact{x,(by exists h1),h2}
theorem Dens.get':∀{xs:↥V} {ds:↥D} {i:Nat} {x:V},Dens K F xs ds->xs[i]?=!x->∃d,ds[i]?=!d/\Den K F x d
 |_,_,_,_,.nil,e=>by simp at e
 |_,_,0,_,.cons h _,e=>by simp at e;subst e;exact{_,rfl,h}
 | _,_,i+1,d,.cons h t,e=>by
  obtain⟨x,h1,h2⟩:=Dens.get' (i:=i) (x:=d) t (by exists e);exact{x,(by exists h1),h2}
def Dens.append{ys:↥V}{es:↥D}(h:Dens K F xs ds)(s:Dens K F ys es):Dens K F (xs++ys) (ds++es):=-
 Dens.rec (motive_1:=λ_ _ _=>True) (motive_2:=λxs ds _=>Dens K F (xs++ys) (ds++es)) trivial (λ_=>trivial) (λ_=>trivial) (λ_=>trivial) (λ_=>trivial) (λ_ _ _=>trivial) (λ_ _ _=>trivial) (λ_ _ _ _=>trivial) (λ_ _ _=>trivial) (λ_ _ _=>trivial) (λ_ _ _ _=>trivial) s (λh _ _ t=>.cons h t) h
theorem Dens.take:∀{xs:↥V} {ds:↥D} (n:Nat),Dens K F xs ds->Dens K F (xs.take n) (ds.take n)
 |_,_,0,_=>.nil
 |_,_,_+1,.nil=>.nil
 |_,_,n+1,.cons r t=>.cons r (Dens.take n t)
theorem Dens.drop:∀{xs:↥V} {ds:↥D} (n:Nat),Dens K F xs ds->Dens K F (xs.drop n) (ds.drop n)
 |_,_,0,r=>r
 |_,_,_+1,.nil=>.nil
 |_,_,n+1,.cons r t=>Dens.drop n t
theorem Dens.set{x:V}{d:D}(r:Den K F x d):∀{xs:↥V} {ds:↥D} (i:Nat),Dens K F xs ds->Dens K F (xs.set i x) (ds.set i d)
 |_,_,_,.nil=>.nil
 |_,_,0,.cons _ t=>.cons r t
 |_,_,i+1,.cons q t=>.cons q (Dens.set r i t)
def Dens.snoc{x:V}(h:Dens K F xs ds)(q:Den K F x d):Dens K F (xs++[x]) (ds++[d]):=-h.append (.cons q .nil)
theorem Dens.strs:∀(zs:↥Str),Dens K F (zs.map V.str) (zs.map D.str)
 |[]=>.nil
 |z::zs=>.cons (.str z) (Dens.strs zs)
theorem Dens.ints:∀(zs:↥Int),Dens K F (zs.map V.int) (zs.map D.int)
 |[]=>.nil
 |z::zs=>.cons (.int z) (Dens.ints zs)
def Den.str_eq(h:Den K F v (.str z)):v=.str z:=by cases h;rfl
def Den.int_eq{z:Int}(h:Den K F v (.int z)):v=.int z:=by cases h;rfl
def Den.bl_eq{z:Bool}(h:Den K F v (.bl z)):v=.bl z:=by cases h;rfl
def Den.non_eq(h:Den K F v .non):v=.non:=by cases h;rfl
theorem Dens.strs_eq:∀{zs:↥Str} {xs:↥V},Dens K F xs (zs.map D.str)->xs=zs.map V.str
 |[],_,.nil=>rfl
 |z::zs,_,.cons h t=>by rw[h.str_eq,Dens.strs_eq t];rfl
theorem Dens.bls_eq:∀{zs:↥Bool} {xs:↥V},Dens K F xs (zs.map D.bl)->xs=zs.map V.bl
 |[],_,.nil=>rfl
 |z::zs,_,.cons h t=>by rw[h.bl_eq,Dens.bls_eq t];rfl
end
mutual
def nR:D->DV
 |.non=>.non
 |.bl b=>.bl b
 |.int i=>.int i
 |.str x=>.str x
 |.lst xs=>.lst (toDVs xs)
 |.tup xs=>.tup (toDVs xs)
 |.dct _ _=>.non
 |.ty _=>.non
 |.opq _ _=>.non
 |.gt _=>.non
 |.dt _ _=>.non
def toDVs:↥D->↥DV
 |[]=>[]
 |d::ds=>nR d::toDVs ds
end
mutual
def okD:D->Bool
 |.lst xs=>okDs xs
 |.tup xs=>okDs xs
 |.dct _ _=>false
 |.ty _=>false
 |.opq _ _=>false
 |.gt _=>false
 |.dt _ _=>false
 |_=>true
def okDs:↥D->Bool
 |[]=>true
 |d::ds=>okD d&&okDs ds
end
def Den.deep{K:Frag}(h:Den K H v d):okD d=true->Deep K H v (nR d):=-
 Den.rec (motive_1:=λv d _=>okD d=true->Deep K H v (nR d)) (motive_2:=λv d _=>okDs d=true->Deeps K H v (toDVs d)) (λ_=>.non) (λb _=>.bl b) (λb _=>.int b) (λb _=>.str b) (λ_ o=>nomatch o) (λh _ t o=>.lst h (t o)) (λh _ t o=>.tup (SqT.of h) (t o)) (λ_ _ _ _ o=>nomatch o) (λ_ _ _ o=>nomatch o) (λ_ _ _ o=>nomatch o) (λ_ _ _ _ o=>nomatch o) (λ_=>.nil) (λ_ _ h t o=>.cons (h (ab1.mp o).1) (t (ab1.mp o).2)) h
def Dens.deep{K:Frag}{v:↥V}{d:↥D}(h:Dens K H v d):okDs d=true->Deeps K H v (toDVs d):=-
 Dens.rec (motive_1:=λ_ _ _=>True) (motive_2:=λv d _=>okDs d=true->Deeps K H v (toDVs d)) trivial (λ_=>trivial) (λ_=>trivial) (λ_=>trivial) (λ_=>trivial) (λ_ _ _=>trivial) (λ_ _ _=>trivial) (λ_ _ _ _=>trivial) (λ_ _ _=>trivial) (λ_ _ _=>trivial) (λ_ _ _ _=>trivial) (λ_=>.nil) (λh _ _ t o=>.cons (h.deep (ab1.mp o).1) (t (ab1.mp o).2)) h
def dEq(d e:D):Bool:=deq (nR d) (nR e)
inductive FV where
 |fz (d:D)|fl (a:Addr) (ds:↥D)|fd (a:Addr) (ks:↥Key) (ds:↥D)|ft (a:Addr) (ks:↥↥Key) (ds:↥D)
def C6:Nat->Str
 |0 => "Asking"
 |1 => "Reader"
 |_ => "Desk"
def cm:Nat->↥Str
 |0=>["form", "name", "place", "at", "turn", "steps", "done", "length"]
 |_=>[]
structure Oo where
 a:Addr
 c:Nat
 ps:↥FV
inductive OV where
 |fz (d:D)|fl (ds:↥D)|fd (ks:↥Key) (ds:↥D)|ft (ks:↥↥Key) (ds:↥D)|ot (ps:↥FV)|ob (o:Oo)|obs (xs:↥Oo)|obh (xs:↥Oo) (a:Addr)|ol (ps:↥FV)|olh (ps:↥FV) (k:Nat) (b:Addr)
variable{o:OV}{P:OV->Prop}{f:D->D->(OV->Prop)->Prop}
inductive Fw(K:Frag)(F H:Hp):V->FV->↥Addr->Prop where
 |fz {v:V} {d:D}:Den K F v d->Fw K F H v (.fz d) []
 |fl {a:Addr} {xs:↥V} {ds:↥D}:H a=!(.lst xs)->Dens K F xs ds->Fw K F H (.ref a) (.fl a ds) [a]
 |fd {a:Addr} {ys:↥(Key×V)} {ks:↥Key} {ds:↥D}:H a=!(.dK ys)->ys.map (·.1)=ks->Dens K F (ys.map (·.2)) ds->Fw K F H (.ref a) (.fd a ks ds) [a]
 |ft {a:Addr} {ys:↥(↥Key×V)} {ks:↥↥Key} {ds:↥D}:H a=!(.dT ys)->ys.map (·.1)=ks->Dens K F (ys.map (·.2)) ds->Fw K F H (.ref a) (.ft a ks ds) [a]
inductive Fws(K:Frag)(F H:Hp):↥V->↥FV->↥Addr->Prop where
 |nil:Fws K F H [] [] []
 |cons {x:V} {o:FV} {xs:↥V} {os:↥FV} {A B:↥Addr}:Fw K F H x o A->Fws K F H xs os B->Fws K F H (x::xs) (o::os) (A++B)
inductive Ob(K:Frag)(F H:Hp):V->Oo->↥Addr->Prop where
 |mk {a C dx:Addr} {c:Nat} {fs:↥(Str×V)} {ps:↥FV} {A:↥Addr}:H a=!(.ins C dx fs)->PySem.W.nsIn K mainGlobals (C6 c)=!!(.ref C)->fs.map (·.1)=(cm c).take ps.length->ps.length<=(cm c).length->Fws K F H (fs.map (·.2)) ps A->Ob K F H (.ref a) ⟨a,c,ps⟩ (a::A)
inductive Obs(K:Frag)(F H:Hp):↥V->↥Oo->↥Addr->Prop where
 |nil:Obs K F H [] [] []
 |cons {x:V} {o:Oo} {xs:↥V} {os:↥Oo} {A B:↥Addr}:Ob K F H x o A->Obs K F H xs os B->Obs K F H (x::xs) (o::os) (A++B)
inductive Ow(K:Frag)(F H:Hp):V->OV->↥Addr->Prop where
 |fz {v:V} {d:D}:Den K F v d->Ow K F H v (.fz d) []
 |fl {a:Addr} {xs:↥V} {ds:↥D}:H a=!(.lst xs)->Dens K F xs ds->Ow K F H (.ref a) (.fl ds) [a]
 |fd {a:Addr} {ys:↥(Key×V)} {ks:↥Key} {ds:↥D}:H a=!(.dK ys)->ys.map (·.1)=ks->Dens K F (ys.map (·.2)) ds->Ow K F H (.ref a) (.fd ks ds) [a]
 |ft {a:Addr} {ys:↥(↥Key×V)} {ks:↥↥Key} {ds:↥D}:H a=!(.dT ys)->ys.map (·.1)=ks->Dens K F (ys.map (·.2)) ds->Ow K F H (.ref a) (.ft ks ds) [a]
 |ot {a:Addr} {xs:↥V} {ps:↥FV} {A:↥Addr}:F a=!(.tup xs)->Fws K F H xs ps A->Ow K F H (.ref a) (.ot ps) A
 |ob {v:V} {o:Oo} {A:↥Addr}:Ob K F H v o A->Ow K F H v (.ob o) A
 |obs {a:Addr} {xs:↥V} {os:↥Oo} {A:↥Addr}:H a=!(.lst xs.reverse)->Obs K F H xs os A->Ow K F H (.ref a) (.obs os) (a::A)
 |obh {a b:Addr} {xs:↥V} {os:↥Oo} {A:↥Addr}:H a=!(.lst (.ref b::xs).reverse)->Obs K F H xs os A->Ow K F H (.ref a) (.obh os b) (a::A)
 |ol {a:Addr} {xs:↥V} {ps:↥FV} {A:↥Addr}:H a=!(.lst xs)->Fws K F H xs ps A->Ow K F H (.ref a) (.ol ps) (a::A)
 |olh {a b:Addr} {k:Nat} {xs:↥V} {ps:↥FV} {A:↥Addr}:H a=!(.lst xs)->xs[k]?=!(.ref b)->Fws K F H (xs.set k .non) (ps.set k (.fz .non)) A->Ow K F H (.ref a) (.olh ps k b) (a::A)
section
variable {K:Frag} 
def Fw.keep(e:Same F F'){o:FV}(h:Fw K F H v o A)(k:∀a u,a∈A->H a=!u->H' a=!u):Fw K F' H' v o A:=by
 cases h with
 |fz h=>exact .fz (h.mono e)
 |fl h t=>exact .fl (k _ _ (aab ..) h) (t.mono e)
 |fd h q t=>exact .fd (k _ _ (aab ..) h) q (t.mono e)
 |ft h q t=>exact .ft (k _ _ (aab ..) h) q (t.mono e)
def Fws.keep(e:Same F F'){v:↥V}{o:↥FV}(h:Fws K F H v o A)(k:∀a u,a∈A->H a=!u->H' a=!u):Fws K F' H' v o A:=by
 induction h with
 |nil=>exact .nil
 |cons h t c=>exact .cons (h.keep e λa u b=>k a u (aau _ b)) (c λa u b=>k a u (aal _ b))
def Ob.keep(e:Same F F'){o:Oo}(h:Ob K F H v o A)(k:∀a u,a∈A->H a=!u->H' a=!u):Ob K F' H' v o A:=by
 cases h with
 |mk h c n l t=>exact .mk (k _ _ (aab ..) h) c n l (t.keep e λa u b=>k a u (aad _ b))
def Obs.keep(e:Same F F'){v:↥V}{o:↥Oo}(h:Obs K F H v o A)(k:∀a u,a∈A->H a=!u->H' a=!u):Obs K F' H' v o A:=by
 induction h with
 |nil=>exact .nil
 |cons h t c=>exact .cons (h.keep e λa u b=>k a u (aau _ b)) (c λa u b=>k a u (aal _ b))
def Fw.live{o:FV}(h:Fw K F H v o A):∀a∈A,∃u,H a=!u:=by
 cases h with
 |fz h=>exact λ_ z=>nomatch z
 |fl h t=>exact λb z=>{_,abR.mp z ▸ h}
 |fd h q t=>exact λb z=>{_,abR.mp z ▸ h}
 |ft h q t=>exact λb z=>{_,abR.mp z ▸ h}
def Fws.live{v:↥V}{o:↥FV}(h:Fws K F H v o A):∀a∈A,∃u,H a=!u:=by
 induction h with
 |nil=>exact λ_ z=>nomatch z
 |cons h t c=>exact λb z=>(abQ.mp z).elim (h.live b) (c b)
def Ob.live{o:Oo}(h:Ob K F H v o A):∀a∈A,∃u,H a=!u:=by
 cases h with
 |mk h c n l t=>exact λb z=>(abS.mp z).elim (λz=>{_,z ▸ h}) (t.live b)
def Obs.live{v:↥V}{o:↥Oo}(h:Obs K F H v o A):∀a∈A,∃u,H a=!u:=by
 induction h with
 |nil=>exact λ_ z=>nomatch z
 |cons h t c=>exact λb z=>(abQ.mp z).elim (h.live b) (c b)
end
inductive Ows(K:Frag)(F H:Hp):↥V->↥OV->↥Addr->Prop where
 |nil:Ows K F H [] [] []
 |cons {x:V} {o:OV} {xs:↥V} {os:↥OV} {A B:↥Addr}:Ow K F H x o A->Ows K F H xs os B->Ows K F H (x::xs) (o::os) (A++B)
def Ow.keep{K:Frag}(e:Same F F')(h:Ow K F H v o A)(k:∀a u,a∈A->H a=!u->H' a=!u):Ow K F' H' v o A:=by
 cases h with
 |fz h=>exact .fz (h.mono e)
 |fl h t=>exact .fl (k _ _ (aab ..) h) (t.mono e)
 |fd h q t=>exact .fd (k _ _ (aab ..) h) q (t.mono e)
 |ft h q t=>exact .ft (k _ _ (aab ..) h) q (t.mono e)
 |ot h t=>exact .ot (e _ _ h) (t.keep e k)
 |ob h=>exact .ob (h.keep e k)
 |obs h t=>exact .obs (k _ _ (aab ..) h) (t.keep e λa u b=>k a u (aad _ b))
 |obh h t=>exact .obh (k _ _ (aab ..) h) (t.keep e λa u b=>k a u (aad _ b))
 |ol h t=>exact .ol (k _ _ (aab ..) h) (t.keep e λa u b=>k a u (aad _ b))
 |olh h g t=>exact .olh (k _ _ (aab ..) h) g (t.keep e λa u b=>k a u (aad _ b))
def Ows.keep{K:Frag}(e:Same F F'){v:↥V}{o:↥OV}(h:Ows K F H v o A)(k:∀a u,a∈A->H a=!u->H' a=!u):Ows K F' H' v o A:=by
 induction h with
 |nil=>exact .nil
 |cons h t c=>exact .cons (h.keep e λa u b=>k a u (aau _ b)) (c λa u b=>k a u (aal _ b))
def Ow.live{K:Frag}(h:Ow K F H v o A):∀a∈A,∃u,H a=!u:=by
 cases h with
 |fz h=>exact λ_ z=>nomatch z
 |fl h t=>exact λb z=>{_,abR.mp z ▸ h}
 |fd h q t=>exact λb z=>{_,abR.mp z ▸ h}
 |ft h q t=>exact λb z=>{_,abR.mp z ▸ h}
 |ot h t=>exact t.live
 |ob h=>exact h.live
 |obs h t=>exact λb z=>(abS.mp z).elim (λz=>{_,z ▸ h}) (t.live b)
 |obh h t=>exact λb z=>(abS.mp z).elim (λz=>{_,z ▸ h}) (t.live b)
 |ol h t=>exact λb z=>(abS.mp z).elim (λz=>{_,z ▸ h}) (t.live b)
 |olh h g t=>exact λb z=>(abS.mp z).elim (λz=>{_,z ▸ h}) (t.live b)
def Ows.live{K:Frag}{v:↥V}{o:↥OV}(h:Ows K F H v o A):∀a∈A,∃u,H a=!u:=by
 induction h with
 |nil=>exact λ_ z=>nomatch z
 |cons h t c=>exact λb z=>(abQ.mp z).elim (h.live b) (c b)
def NT(H:Hp)(A:↥Addr):Prop:=∀a∈A,∀xs,H a≠!(.tup xs)
def NT.nil :NT H []:=-λ_ z=>nomatch z
def NT.one{o:HO}(h:H a=!o)(n:∀xs,o≠.tup xs)(t:NT H A):NT H (a::A):=-λb c xs z=>(abS.mp c).elim (λy=>n xs (aak (h.symm.trans (y ▸ z)))) (λy=>t b y xs z)
def NT.app(s:NT H A)(t:NT H B):NT H (A++B):=-λb a=>(abQ.mp a).elim (s b) (t b)
section
variable {K:Frag} 
def Fw.nt{o:FV}(h:Fw K F H v o A):NT H A:=by
 cases h with
 |fz h=>exact .nil
 |fl h t=>exact .one h (λ_ z=>nomatch z) .nil
 |fd h q t=>exact .one h (λ_ z=>nomatch z) .nil
 |ft h q t=>exact .one h (λ_ z=>nomatch z) .nil
def Fws.nt{v:↥V}{o:↥FV}(h:Fws K F H v o A):NT H A:=by
 induction h with
 |nil=>exact .nil
 |cons h t a=>exact h.nt.app a
def Ob.nt{o:Oo}(h:Ob K F H v o A):NT H A:=by
 cases h with
 |mk h c n l t=>exact .one h (λ_ z=>nomatch z) t.nt
def Obs.nt{v:↥V}{o:↥Oo}(h:Obs K F H v o A):NT H A:=by
 induction h with
 |nil=>exact .nil
 |cons h t a=>exact h.nt.app a
def Ow.nt(h:Ow K F H v o A):NT H A:=by
 cases h with
 |fz h=>exact .nil
 |fl h t=>exact .one h (λ_ z=>nomatch z) .nil
 |fd h q t=>exact .one h (λ_ z=>nomatch z) .nil
 |ft h q t=>exact .one h (λ_ z=>nomatch z) .nil
 |ot h t=>exact t.nt
 |ob h=>exact h.nt
 |obs h t=>exact .one h (λ_ z=>nomatch z) t.nt
 |obh h t=>exact .one h (λ_ z=>nomatch z) t.nt
 |ol h t=>exact .one h (λ_ z=>nomatch z) t.nt
 |olh h g t=>exact .one h (λ_ z=>nomatch z) t.nt
end
def iq:FV->D
 |.fz d=>d
 |.fl _ ds=>.lst ds
 |.fd _ ks ds=>.dct ks ds
 |.ft _ ks ds=>.dt ks ds
def FZ:OV->Option D
 |.fz d=>!d
 |.fl ds=>!(.lst ds)
 |.fd ks ds=>!(.dct ks ds)
 |.ft ks ds=>!(.dt ks ds)
 |.ot ps=>!(.tup (ps.map iq))
 |_=>none
def Fw.freeze{K:Frag}(e:Same F F'){o:FV}(h:Fw K F H v o A)(k:∀a u,a∈A->H a=!u->F' a=!u):Den K F' v (iq o):=by
 cases h with
 |fz h=>exact h.mono e
 |fl h t=>exact .lst (SqL.of (k _ _ (aab ..) h)) (t.mono e)
 |fd h q t=>exact .dct (.inl (k _ _ (aab ..) h)) q (t.mono e)
 |ft h q t=>exact .dt (.inl (k _ _ (aab ..) h)) q (t.mono e)
def Fws.freeze{K:Frag}(e:Same F F'){v:↥V}{o:↥FV}(h:Fws K F H v o A)(k:∀a u,a∈A->H a=!u->F' a=!u):Dens K F' v (o.map iq):=by
 induction h with
 |nil=>exact .nil
 |cons h t c=>exact .cons (h.freeze e λa u b=>k a u (aau _ b)) (c λa u b=>k a u (aal _ b))
def Ow.freeze{K:Frag}(e:Same F F')(h:Ow K F H v o A)(k:∀a u,a∈A->H a=!u->F' a=!u)(hd:FZ o=!d):Den K F' v d:=by
 cases h with
 |fz h=>cases hd;exact h.mono e
 |fl h t=>cases hd;exact .lst (SqL.of (k _ _ (aab ..) h)) (t.mono e)
 |fd h q t=>cases hd;exact .dct (.inl (k _ _ (aab ..) h)) q (t.mono e)
 |ft h q t=>cases hd;exact .dt (.inl (k _ _ (aab ..) h)) q (t.mono e)
 |ot h t=>cases hd;exact .tup (e _ _ h) (t.freeze e k)
 |_=>cases hd
def flat:OV->Option D
 |.fz d=>!d
 |.fl ds=>!(.lst ds)
 |.fd ks ds=>!(.dct ks ds)
 |.ft ks ds=>!(.dt ks ds)
 |_=>none
inductive Acc(K:Frag)(F H:Hp):V->D->Prop where
 |fz {v:V} {d:D}:Den K F v d->Acc K F H v d
 |lst {a:Addr} {xs:↥V} {ds:↥D}:H a=!(.lst xs)->Dens K F xs ds->Acc K F H (.ref a) (.lst ds)
 |dct {a:Addr} {ys:↥(Key×V)} {ks:↥Key} {ds:↥D}:H a=!(.dK ys)->ys.map (·.1)=ks->Dens K F (ys.map (·.2)) ds->Acc K F H (.ref a) (.dct ks ds)
 |dt {a:Addr} {ys:↥(↥Key×V)} {ks:↥↥Key} {ds:↥D}:H a=!(.dT ys)->ys.map (·.1)=ks->Dens K F (ys.map (·.2)) ds->Acc K F H (.ref a) (.dt ks ds)
section
variable {K:Frag} 
def Ow.acc(h:Ow K F H v o A)(e:flat o=!d):Acc K F H v d:=by
 cases h with
 |fz h=>simp only[flat,Option.some.injEq] at e;subst e;exact .fz h
 |fl h t=>simp only[flat,Option.some.injEq] at e;subst e;exact .lst h t
 |fd h q t=>simp only[flat,Option.some.injEq] at e;subst e;exact .dct h q t
 |ft h q t=>cases e;exact .dt h q t
 |_=>cases e
def Acc.den(e:Same F H)(h:Acc K F H v d):Den K H v d:=by
 cases h with
 |fz h=>exact h.mono e
 |lst h t=>exact .lst (SqL.of h) (t.mono e)
 |dct h k t=>exact .dct (.inl h) k (t.mono e)
 |dt h k t=>exact .dt (.inl h) k (t.mono e)
def Acc.asL(e:Same F H)(h:Acc K F H v (.lst ds)):∃a xs,v=.ref a/\SqL K H a xs/\Dens K F xs ds:=by
 cases h with
 |fz h=>cases h with|lst h t=>exact{_,_,rfl,e.seq h,t}
 |lst h t=>exact{_,_,rfl,SqL.of h,t}
def Acc.asT(e:Same F H)(h:Acc K F H v (.tup ds)):∃a xs,v=.ref a/\SqT K H a xs/\Dens K F xs ds:=by
 cases h with
 |fz h=>cases h with|tup h t=>exact{_,_,rfl,SqT.of (e _ _ h),t}
def Acc.asD(e:Same F H)(h:Acc K F H v (.dct ks ds)):∃a ys,v=.ref a/\Rd H a (.dK ys)/\ys.map (·.1)=ks/\Dens K F (ys.map (·.2)) ds:=by
 cases h with
 |fz h=>cases h with|dct h k t=>exact{_,_,rfl,e.rd h,k,t}
 |dct h k t=>exact{_,_,rfl,.inl h,k,t}
def Acc.asTH(e:Same F H)(h:Acc K F H v (.tup ds)):∃a xs,v=.ref a/\H a=!(.tup xs)/\Dens K F xs ds:=by
 cases h with
 |fz h=>cases h with|tup h t=>exact{_,_,rfl,e _ _ h,t}
def Acc.asG(e:Same F H)(h:Acc K F H v (.gt ds)):∃a xs,v=.ref a/\SqT K H a xs/\Dens K F xs ds:=by
 cases h with
 |fz h=>cases h with|gt h t=>exact{_,_,rfl,h.same e,t}
def Acc.asDT{ks:↥↥Key}(e:Same F H)(h:Acc K F H v (.dt ks ds)):∃a ys,v=.ref a/\Rd H a (.dT ys)/\ys.map (·.1)=ks/\Dens K F (ys.map (·.2)) ds:=by
 cases h with
 |fz h=>cases h with|dt h k t=>exact{_,_,rfl,e.rd h,k,t}
 |dt h k t=>exact{_,_,rfl,.inl h,k,t}
def Acc.str_eq(h:Acc K F H v (.str z)):v=.str z:=by cases h with|fz h=>exact h.str_eq
def Acc.int_eq{z:Int}(h:Acc K F H v (.int z)):v=.int z:=by cases h with|fz h=>exact h.int_eq
def Acc.bl_eq{z:Bool}(h:Acc K F H v (.bl z)):v=.bl z:=by cases h with|fz h=>exact h.bl_eq
def Acc.non_eq(h:Acc K F H v .non):v=.non:=by cases h with|fz h=>exact h.non_eq
def Acc.ty_eq{T:String}(h:Acc K F H v (.ty T)):v=.ty T:=by cases h with|fz h=>cases h;rfl
end
abbrev FSt:=↥(Option OV)
variable{ρ:FSt}
inductive Slots(K:Frag)(F H:Hp):St->FSt->↥Addr->Prop where
 |nil:Slots K F H [] [] []
 |skip {x:Option V} {σ:St} {ρ:FSt} {A:↥Addr}:Slots K F H σ ρ A->Slots K F H (x::σ) (none::ρ) A
 |has {v:V} {o:OV} {σ:St} {ρ:FSt} {A B:↥Addr}:Ow K F H v o A->Slots K F H σ ρ B->Slots K F H (↑v::σ) (↑o::ρ) (A++B)
section
variable {K:Frag} 
def Slots.keep(e:Same F F')(h:Slots K F H σ ρ A)(k:∀a u,a∈A->H a=!u->H' a=!u):Slots K F' H' σ ρ A:=by
 induction h with
 |nil=>exact .nil
 |skip t b=>exact .skip (b k)
 |has h t b=>exact .has (h.keep e λa u c=>k a u (aau _ c)) (b λa u c=>k a u (aal _ c))
def Slots.live(h:Slots K F H σ ρ A):∀a∈A,∃u,H a=!u:=by
 induction h with
 |nil=>exact λ_ z=>nomatch z
 |skip t c=>exact c
 |has h t c=>exact λb z=>(abQ.mp z).elim (h.live b) (c b)
def Slots.nt(h:Slots K F H σ ρ A):NT H A:=by
 induction h with
 |nil=>exact .nil
 |skip _ a=>exact a
 |has h _ a=>exact h.nt.app a
def Slots.len(h:Slots K F H σ ρ A):σ.length=ρ.length:=by
 induction h with
 |nil=>rfl
 |skip t a=>exact congrArg (·+1) a
 |has _ t a=>exact congrArg (·+1) a
def Slots.take(h:Slots K F H σ ρ A)(e:ρ[i]?=!!o):∃v B A',σ[i]?=!!v/\Ow K F H v o B/\A.Perm (B++A')/\Slots K F H σ (ρ.set i none) A':=by
 induction h generalizing i with
 |nil=>cases e
 | skip t a=>
  cases i with
  |zero=>cases e
  | succ i=>
   obtain⟨v,B,A',h1,h2,c,b⟩:=a (i:=i) e;exact{v,B,A',h1,h2,c,.skip b}
 | @has _ _ _ _ C _ h t a=>
  cases i with
  |zero=>cases e;exact {_,_,_,rfl,h,aaB _,.skip t}
  | succ i=>
   obtain⟨v,B,A',h1,h2,c,b⟩:=a (i:=i) e;exact{v,B,C++A',h1,h2,(aaX C c).trans (by rw[← aay,← aay];exact abb A' abi),.has h b}
def Slots.drop(i:Nat)(x:Option V)(h:Slots K F H σ ρ A):∃A' B,A.Perm (B++A')/\Slots K F H (σ.set i x) (ρ.set i none) A':=by
 induction h generalizing i with
 |nil=>exact{[],[],aaB _,.nil}
 | skip t a=>
  cases i with
  |zero=>exact {_,[],aaB _,.skip t}
  | succ i=>
   obtain⟨A',B,h1,h2⟩:=a i;exact{A',B,h1,.skip h2}
 | @has _ _ _ _ C _ h t a=>
  cases i with
  |zero=>exact {_,_,aaB _,.skip t}
  | succ i=>
   obtain⟨A',B,c,b⟩:=a i;exact{C++A',B,(aaX C c).trans (by rw[← aay,← aay];exact abb A' abi),.has h b}
def Slots.put(s:Slots K F H σ ρ A)(e:ρ[i]?=!none)(b:σ[i]?=!!v)(h:Ow K F H v o B):∃A',A'.Perm (B++A)/\Slots K F H σ (ρ.set i !o) A':=by
 induction s generalizing i with
 |nil=>cases e
 | skip t a=>
  cases i with
  |zero=>cases b;exact {_,aaB _,.has h t}
  | succ i=>
   obtain⟨A',h1,h2⟩:=a (i:=i) e b;exact{A',h1,.skip h2}
 | @has _ _ _ _ C _ h' t a=>
  cases i with
  |zero=>cases e
  | succ i=>
   obtain⟨A',h1,h2⟩:=a (i:=i) e b;exact{C++A',(aaX C h1).trans (by rw[← aay,← aay];exact abb _ abi),.has h' h2}
end
inductive RV where
 |ov (o:OV)|br (i:Nat)
variable{r:RV}
structure SameN(Z H:Hp):Prop where
 s:Same Z H
 n:∀a xs,Z a≠!(.tup xs)
def SameN.free(h:SameN Z H)(e:H a=none):Z a=none:=-h.s.free e
def SameN.trans(h:SameN Z H)(e:Same H H'):SameN Z H':=-{h.s.trans e,h.n}
def SameN.back{b:Hp}(h:SameN b H)(e:Same Z b):SameN Z H:=-{e.trans h.s,λa xs z=>h.n a xs (e a _ z)}
def SameN.none :SameN (λ_=>.none) H:=-{(λ_ _ z=>nomatch z),λ_ _ z=>nomatch z}
structure Rel(K:Frag)(F Z H:Hp)(σ:St)(ρ:FSt)(A:↥Addr):Prop where
 sl:Slots K F H σ ρ A
 nd:A.Nodup
 fr:∀a∈A,F a=none/\Z a=none
 fh:Same F H
 zh:SameN Z H
 dj:∀a o,F a=!o->Z a=none
def RV1(K:Frag)(F H:Hp)(σ:St)(v:V):RV->↥Addr->Prop
 |.ov o,B=>Ow K F H v o B
 |.br i,B=>σ[i]?=!!v/\B=[]
structure Fresh(F Z:Hp)(A B:↥Addr):Prop where
 nd:B.Nodup
 fr:∀b∈B,F b=none/\Z b=none/\b∉A
def Fresh.nil :Fresh F Z A []:=-{aaH,λ_ z=>nomatch z}
inductive RVL(K:Frag)(F H:Hp)(σ:St):↥V->↥RV->↥Addr->Prop where
 |nil:RVL K F H σ [] [] []
 |cons {v:V} {r:RV} {vs:↥V} {rs:↥RV} {A B:↥Addr}:RV1 K F H σ v r A->RVL K F H σ vs rs B->RVL K F H σ (v::vs) (r::rs) (A++B)
section
variable {K:Frag}    
def RV1.keep(h:RV1 K F H σ v r B)(e:Same F F')(k:∀a u,a∈B->H a=!u->H' a=!u):RV1 K F' H' σ v r B:=by
 cases r with
 |ov o=>exact Ow.keep e h k
 |br i=>exact h
def RV1.live(h:RV1 K F H σ v r B):∀b∈B,∃u,H b=!u:=by
 cases r with
 |ov o=>exact Ow.live h
 |br i=>intro b a;rw[h.2] at a;cases a
def RV1.nt(h:RV1 K F H σ v r B):NT H B:=by
 cases r with
 |ov o=>exact Ow.nt h
 |br i=>intro b a;rw[h.2] at a;cases a
def RVL.keep(e:Same F F'){v:↥V}{r:↥RV}(h:RVL K F H σ v r B)(k:∀a u,a∈B->H a=!u->H' a=!u):RVL K F' H' σ v r B:=by
 induction h with
 |nil=>exact .nil
 |cons h t c=>exact .cons (h.keep e λa u b=>k a u (aau _ b)) (c λa u b=>k a u (aal _ b))
def mix(B:↥Addr)(H Z:Hp):∃G:Hp,(∀b,b∈B->G b=H b)/\∀b,b∉B->G b=Z b:=by
 classical
 exact{λb=>if b∈B then H b else Z b,λb a=>if_pos a,λb a=>if_neg a}
def Rel.hold(R:Rel K F Z H σ ρ A)(live:∀b∈B,∃u,H b=!u)(nt:NT H B)(f:Fresh F Z A B):∃i,Same Z i/\Rel K F i H σ ρ A/\(∀b∈B,∃u,i b=!u) /\
  ∀l H2 g m,Same F l->Rel K l i H2 σ g m->Rel K l Z H2 σ g m/\Fresh l Z m B/\∀b u,b∈B->H b=!u->H2 b=!u:=by
 obtain⟨i,e,d⟩:=mix B H Z;refine{i,λb o h=>?_,{R.sl,R.nd,λa k=>{(R.fr a k).1,?_},R.fh,{λb o h=>?_,λb xs h=>?_},λa o h=>?_},λb c=>?_,λl H2 g m n R2=>?_}
 .rw[d b λc=>by rw[(f.fr b c).2.1] at h;cases h];exact h
 .rw[d a λc=>(f.fr a c).2.2 k];exact(R.fr a k).2
 .by_cases c:b∈B
  .rw[e b c] at h;exact h
  .rw[d b c] at h;exact R.zh.s b o h
 .by_cases c:b∈B
  .rw[e b c] at h;exact nt b c xs h
  .rw[d b c] at h;exact R.zh.n b xs h
 .rw[d a λc=>by rw[(f.fr a c).1] at h;cases h];exact R.dj a o h
 .obtain⟨u,j⟩:=live b c;exact{u,by rw[e b c];exact j}
 .have sz:Same Z i:=λb o h=>by
   rw[d b λc=>by rw[(f.fr b c).2.1] at h;cases h];exact h
  refine{{R2.sl,R2.nd,λa k=>{(R2.fr a k).1,sz.free (R2.fr a k).2},R2.fh,R2.zh.back sz,λa o h=>sz.free (R2.dj a o h)},{f.nd,λb c=>?_},λb u c j=>?_}
  .obtain⟨u,j⟩:=live b c;refine{?_,(f.fr b c).2.1,λh=>?_}
   .cases q:l b with
    |none=>rfl
    | some w=>
     have:=R2.dj b w q;rw[e b c,j] at this;cases this
   .have:=(R2.fr b h).2;rw[e b c,j] at this;cases this
  .exact R2.zh.s b u (by rw[e b c];exact j)
structure Pure(F H F' H':Hp):Prop where
 ff:Same F F'
 hh:Same H H'
 fh:Same F' H'
 nw:∀a o,F' a=!o->F a=none->H a=none
def Pure.refl(e:Same F H):Pure F H F H:=-{Same.refl _,Same.refl _,e,λa o h n=>by rw[n] at h;cases h}
def Pure.new{o:HO}(e:Same F H)(b:H p=none):Pure F H F (upd H p o):=-{Same.refl _,bt b,e.trans (bt b),λa o h n=>by rw[n] at h;cases h}
def Pure.frz{p:Addr}{o:HO}(e:Same F H)(d:H p=none):Pure F H (upd F p o) (upd H p o):=by
 have f:F p=none:=e.free d;refine{bt f,bt d,λb u h=>?_,λa u h n=>?_}
 .by_cases c:b=p
  .subst c;rw[ag] at h ⊢;exact h
  .rw[aj c] at h ⊢;exact e b u h
 .by_cases c:a=p
  .subst c;exact d
  .rw[aj c,n] at h;cases h
def Pure.trans{d H1 H2:Hp}(a:Pure F H F1 H1)(b:Pure F1 H1 d H2):Pure F H d H2:=-{a.ff.trans b.ff,a.hh.trans b.hh,b.fh,λc o h n=>by
 cases q:F1 c with
 |none=>exact a.hh.free (b.nw c o h q)
 |some u=>exact a.nw c u q n}
def Rel.step(R:Rel K F Z H σ ρ A)(p:Pure F H F' H'):Rel K F' Z H' σ ρ A:=by
 refine{R.sl.keep p.ff λa u _ h=>p.hh a u h,R.nd,λa b=>{?_,(R.fr a b).2},p.fh,R.zh.trans p.hh,λa o h=>?_}
 .cases q:F' a with
  |none=>rfl
  | some o=>
   have:=p.nw a o q (R.fr a b).1;obtain⟨u,c⟩:=R.sl.live a b;rw[c] at this;cases this
 .cases q:F a with
  |none=>exact R.zh.free (p.nw a o h q)
  |some u=>exact R.dj a u q
structure New(H F':Hp)(B:↥Addr):Prop where
 nd:B.Nodup
 fr:∀b∈B,H b=none/\F' b=none
def New.nil:New H F' []:=-{aaH,λ_ z=>nomatch z}
def New.one(h:H p=none)(f:F' p=none):New H F' [p]:=-{by simp,λb a=>by
 have:b=p:=(by exists a);rw[this];exact{(h),f}}
def Rel.fresh(R:Rel K F Z H σ ρ A)(n:New H F' B):Fresh F' Z A B:=-{n.nd,λb a=>{(n.fr b a).2,R.zh.free (n.fr b a).1,λd=>by
 obtain⟨u,c⟩:=R.sl.live b d;rw[(n.fr b a).1] at c;cases c}}
def KL:RV->FSt->Option (D×FSt)
 | .ov o,ρ=>match FZ o with
  |some d=>!(d,ρ)
  |none=>none
 | .br i,ρ=>match ρ[i]? with
  | some ↑o=>match FZ o with
   |some d=>!(d,ρ.set i !(.fz d))
   |none=>none
  |_=>none
def fzR:RV->FSt->Option (D×FSt)
 |.ov (.fz d),ρ=>!(d,ρ)
 |.ov (.fl ds),ρ=>!(.lst ds,ρ)
 |.ov (.fd ks ds),ρ=>!(.dct ks ds,ρ)
 |.ov (.ft ks ds),ρ=>!(.dt ks ds,ρ)
 |.ov (.ot ps),ρ=>!(.tup (ps.map iq),ρ)
 |.ov _,_=>none
 | .br i,ρ=>match ρ[i]? with
  |some ↑(.fz d)=>!(d,ρ)
  |some ↑(.fl ds)=>!(.lst ds,ρ.set i !(.fz (.lst ds)))
  |some ↑(.fd ks ds)=>!(.dct ks ds,ρ.set i !(.fz (.dct ks ds)))
  |some ↑(.ft ks ds)=>!(.dt ks ds,ρ.set i !(.fz (.dt ks ds)))
  |some ↑(.ot ps)=>!(.tup (ps.map iq),ρ.set i !(.fz (.tup (ps.map iq))))
  |_=>none
def HK{x:Option OV}(h:ρ[i]?=!x):ρ.set i x=ρ:=by
 apply List.ext_getElem?;intro j;by_cases a:i=j
 .subst a;rw[h,List.getElem?_set_self (List.getElem?_eq_some_iff.mp h).1]
 .rw[List.getElem?_set_ne a]
def HL(r:RV)(ρ:FSt):fzR r ρ=KL r ρ:=by
 cases r with
 |ov o=>cases o <;> rfl
 | br i=>
  simp only[fzR,KL]
  cases e:ρ[i]? with
  |none=>rfl
  | some x=>
   cases x with
   |none=>rfl
   | some o=>
    cases o with
    |fz d=>simp only[FZ];rw[HK e]
    |_=>rfl
def fzL:↥RV->FSt->Option (↥D×FSt)
 |[],ρ=>!([],ρ)
 | r::c,ρ=>match fzR r ρ with
  | some (d,b)=>match fzL c b with
   |some (ds,a)=>!(d::ds,a)
   |none=>none
  |none=>none
def Rel.grow(R:Rel K F Z H σ ρ A)(live:∀b∈B,∃u,H b=!u)(f:∀b∈B,F b=none/\Z b=none/\b∉A):∃F',Same F F'/\Rel K F' Z H σ ρ A/\(∀a u,a∈B->H a=!u->F' a=!u)/\∀a o,F' a=!o->F a=none->a∈B:=by
 obtain⟨G,e,c⟩:=mix B H F
 have s:Same F G:=λb o h=>by
  rw[c b λd=>by rw[(f b d).1] at h;cases h];exact h
 refine{G,s,{R.sl.keep s λ_ _ _ h=>h,R.nd,λa g=>{?_,(R.fr a g).2},λb o h=>?_,R.zh,λa o h=>?_},λa u g h=>?_,λa o h n=>?_}
 .rw[c a λd=>(f a d).2.2 g];exact(R.fr a g).1
 .by_cases d:b∈B
  .rw[e b d] at h;exact h
  .rw[c b d] at h;exact R.fh b o h
 .by_cases d:a∈B
  .exact(f a d).2.1
  .rw[c a d] at h;exact R.dj a o h
 .rw[e a g];exact h
 .by_cases d:a∈B
  .exact d
  .rw[c a d,n] at h;cases h
def aQ{C:↥Addr}(h:A.Perm (B++C))(n:A.Nodup):B.Nodup/\C.Nodup/\(∀b∈B,b∉C):=by
 have:=h.nodup_iff.mp n;rw[abH] at this;exact{this.1,this.2.1,λb c a=>this.2.2 b c b a rfl}
def Rel.takeI(R:Rel K F Z H σ ρ A)(e:ρ[i]?=!!o):∃v B A',σ[i]?=!!v/\Ow K F H v o B/\Rel K F Z H σ (ρ.set i none) A'/\Fresh F Z A' B/\A.Perm (B++A'):=by
 obtain⟨v,B,A',h1,h2,d,m⟩:=R.sl.take e;obtain⟨l,k,j⟩:=aQ d R.nd;have mA:∀a∈A',a∈A:=λa c=>d.mem_iff.mpr (abQ.mpr (.inr c));have g:∀a∈B,a∈A:=λa c=>d.mem_iff.mpr (abQ.mpr (.inl c));exact{v,B,A',h1,h2,{m,k,λa c=>R.fr a (mA a c),R.fh,R.zh,R.dj},{l,λb f=>{(R.fr b (g b f)).1,(R.fr b (g b f)).2,j b f}},d}
def cT(e:ρ[i]?=!!o):(ρ.set i none)[i]?=!none:=by
 have hi:i<ρ.length:=(List.getElem?_eq_some_iff.mp e).1;simp[hi]
def Rel.putI(R:Rel K F Z H σ ρ A)(e:ρ[i]?=!none)(d:σ[i]?=!!v)(h:Ow K F H v o B)(f:Fresh F Z A B):∃A',Rel K F Z H σ (ρ.set i !o) A'/\A'.Perm (B++A):=by
 obtain⟨A',h1,h2⟩:=R.sl.put e d h;refine{A',{h2,h1.nodup_iff.mpr ?_,λa c=>?_,R.fh,R.zh,R.dj},h1}
 .exact ab0.mpr {f.nd,R.nd,λa c b g z=>(f.fr a c).2.2 (z ▸ g)}
 .rcases abQ.mp (h1.mem_iff.mp c) with q|q
  .exact{(f.fr a q).1,(f.fr a q).2.1}
  .exact R.fr a q
def Rel.frz{v:V}{r:RV}{B:↥Addr}{d:D}{b:FSt}(R:Rel K F Z H σ ρ A)(h:RV1 K F H σ v r B)(f:Fresh F Z A B)(e:fzR r ρ=!(d,b)) :
  ∃F' A',Same F F'/\Rel K F' Z H σ b A'/\Den K F' v d/\(∀a o,F' a=!o->F a=none->a∈A∨a∈B)/\∀a∈A',a∈A:=by
 rw[HL] at e
 cases r with
 | ov o=>
  simp only[KL] at e
  cases hs:FZ o with
  |none=>rw [hs] at e;cases e
  | some u=>
   rw[hs] at e;cases e;obtain⟨F',s,c,k,n⟩:=R.grow (Ow.live h) f.fr;exact{F',A,s,c,Ow.freeze s h k hs,λa o h1 h2=>.inr (n a o h1 h2),λ_ z=>z}
 | br i=>
  simp only[KL] at e;split at e
  .rename_i o g
   cases hs:FZ o with
   |none=>rw[hs] at e;cases e
   | some u=>
    rw[hs] at e;cases e;obtain⟨l,x,A',h1,h2,c,t,pm⟩:=R.takeI g;have p:l=v:=aak (aak (h1.symm.trans h.1));subst p;obtain⟨F',s,R2,k,n⟩:=c.grow (Ow.live h2) t.fr;have dn:=Ow.freeze s h2 k hs;obtain⟨w,j,m⟩:=R2.putI (cT g) h1 (.fz dn) Fresh.nil;rw[aa5] at j;refine{F',w,s,j,dn,λa o h1 h2=>.inl (pm.mem_iff.mpr (abQ.mpr (.inl (n a o h1 h2)))),λa q=>?_};have:=m.mem_iff.mp q;exact pm.mem_iff.mpr (abQ.mpr (.inr (by exists this)))
  .cases e
def Rel.frzL:∀{c:↥RV} {vs:↥V} {B:↥Addr} {ds:↥D} {ρ a:FSt} {F:Hp} {A:↥Addr},Rel K F Z H σ ρ A->RVL K F H σ vs c B->Fresh F Z A B->fzL c ρ=↑(ds,a) ->
  ∃F' A',Same F F'/\Rel K F' Z H σ a A'/\Dens K F' vs ds:=by
 intro c
 induction c with
 | nil=>
  intro vs B ds ρ a F A R h f e;simp only[fzL,Option.some.injEq,Prod.mk.injEq] at e;obtain⟨rfl,rfl⟩:=e;cases h;exact{F,A,Same.refl _,R,.nil}
 | cons r c w=>
  intro vs B ds ρ a F A R h f e
  cases h with
  | @cons v _ vs _ L B2 h t=>
   simp only[fzL] at e;split at e
   .rename_i d l y;split at e
    .rename_i C k x;simp only[Option.some.injEq,Prod.mk.injEq] at e;obtain⟨rfl,rfl⟩:=e;obtain⟨p,o,n⟩:=aQ (aaB (L++B2)) f.nd;obtain⟨F1,N,j,I,G,m,s⟩:=R.frz h {p,λb g=>f.fr b (abQ.mpr (.inl g))} y
     obtain⟨J,M,i,R2,E⟩:=w I (t.keep j λ_ _ _ z=>z) {o,λb g=>by
      have fb:=f.fr b (abQ.mpr (.inr g));refine{?_,fb.2.1,λz=>fb.2.2 (s b z)}
      cases q:F1 b with
      |none=>rfl
      | some u=>
       rcases m b u q fb.1 with z|z
       .exact absurd z fb.2.2
       .exact absurd g (n b z)} x
     exact{J,M,j.trans i,R2,.cons (G.mono i) E}
    .cases e
   .cases e
def look(ρ:FSt):RV->Option OV
 |.ov o=>!o
 | .br i=>match ρ[i]? with
  |some ↑o=>!o
  |_=>none
def jg(ρ:FSt):RV->Option D
 |.ov o=>flat o
 | .br i=>match ρ[i]? with
  |some ↑o=>flat o
  |_=>none
def jx(ρ:FSt):↥RV->Option ↥D
 |[]=>![]
 | r::a=>match jg ρ r with
  | some d=>match jx ρ a with
   |some ds=>!(d::ds)
   |none=>none
  |none=>none
def Rel.acc(R:Rel K F Z H σ ρ A)(h:RV1 K F H σ v r B)(e:jg ρ r=!d):Acc K F H v d:=by
 cases r with
 |ov o=>exact Ow.acc h e
 | br i=>
  simp only[jg] at e;split at e
  .rename_i o c;obtain⟨a,f,A',h1,h2,_⟩:=R.takeI c;have b:a=v:=aak (aak (h1.symm.trans h.1));subst b;exact h2.acc e
  .cases e
inductive Accs(K:Frag)(F H:Hp):↥V->↥D->Prop where
 |nil:Accs K F H [] []
 |cons {v:V} {d:D} {vs:↥V} {ds:↥D}:Acc K F H v d->Accs K F H vs ds->Accs K F H (v::vs) (d::ds)
def Rel.accs{a:↥RV}(R:Rel K F Z H σ ρ A)(h:RVL K F H σ vs a B)(e:jx ρ a=!ds):Accs K F H vs ds:=by
 induction h generalizing ds with
 |nil=>cases e;exact .nil
 | @cons v r vs a A B h t f=>
  unfold jx at e
  cases b:jg ρ r with
  |none=>rw [b] at e;cases e
  | some d=>
   cases c:jx ρ a with
   |none=>rw[b,c] at e;cases e
   | some g=>
    rw[b,c] at e;cases e;exact .cons (R.acc h b) (f c)
end
abbrev FE:=FSt->(RV->FSt->Prop)->Prop
variable{fa fb fe fk:FE}
abbrev FT:=FSt->(Bool->FSt->Prop)->Prop
variable{fc ft:FT}
abbrev FA:=FSt->(↥RV->FSt->Prop)->Prop
abbrev FO:=FSt->(Option Int->FSt->Prop)->Prop
def View(μ:↥Nat)(a σ:St):Prop:=∀j i:Nat,μ[j]?=!i->a[j]?=σ[i]?/\j<a.length/\i<σ.length
def View.id(a:σ.length=n):View (List.range n) σ σ:=-λj i h=>by
 rw[List.getElem?_eq_some_iff] at h;obtain⟨h1,h2⟩:=h;rw[List.getElem_range] at h2;rw[ab8] at h1;subst h2;exact{rfl,(),()}
structure EF(K:Frag)(μ:↥Nat)(t:TE)(f:FE):Prop where
 h:∀{F Z H:Hp} {τ σ:St} {ρ:FSt} {A:↥Addr} {Q:VK} {P:RV->FSt->Prop},View μ τ σ->Rel K F Z H σ ρ A->f ρ P ->
  (∀r ρ' v F' H' A' B,P r ρ'->Same F F'->Rel K F' Z H' σ ρ' A'->RV1 K F' H' σ v r B->Fresh F' Z A' B->Q v H')->t τ H Q
structure TF(K:Frag)(μ:↥Nat)(t:TT)(f:FT):Prop where
 h:∀{F Z H:Hp} {τ σ:St} {ρ:FSt} {A:↥Addr} {Q:Bool->Hp->Prop} {P:Bool->FSt->Prop},View μ τ σ->Rel K F Z H σ ρ A->f ρ P ->
  (∀b ρ' F' H' A',P b ρ'->Same F F'->Rel K F' Z H' σ ρ' A'->Q b H')->t τ H Q
structure AF(K:Frag)(μ:↥Nat)(t:TA)(f:FA):Prop where
 h:∀{F Z H:Hp} {τ σ:St} {ρ:FSt} {A:↥Addr} {Q:↥V->Hp->Prop} {P:↥RV->FSt->Prop},View μ τ σ->Rel K F Z H σ ρ A->f ρ P ->
  (∀rs ρ' vs F' H' A' B,P rs ρ'->Same F F'->Rel K F' Z H' σ ρ' A'->RVL K F' H' σ vs rs B->Fresh F' Z A' B->Q vs H')->t τ H Q
structure OF(K:Frag)(μ:↥Nat)(t:TO)(f:FO):Prop where
 h:∀{F Z H:Hp} {τ σ:St} {ρ:FSt} {A:↥Addr} {Q:Option Int->Hp->Prop} {P:Option Int->FSt->Prop},View μ τ σ->Rel K F Z H σ ρ A->f ρ P ->
  (∀x ρ' F' H' A',P x ρ'->Same F F'->Rel K F' Z H' σ ρ' A'->Q x H')->t τ H Q
def C8(K:Frag)(F H:Hp)(P:OV->Prop)(Q:VK):Prop:=∀o v F' H' B,P o->Pure F H F' H'->Ow K F' H' v o B->New H F' B->Q v H'
structure OpF(K:Frag)(r:R2)(f:D->D->(OV->Prop)->Prop):Prop where
 h:∀{F H:Hp} {x y:V} {d e:D} {Q:VK} {P:OV->Prop},Same F H->Acc K F H x d->Acc K F H y e->f d e P->C8 K F H P Q->r x y H Q
structure CallF(K:Frag)(r:↥V->Hp->VK->Prop)(f:↥D->(OV->Prop)->Prop):Prop where
 h:∀{F H:Hp} {xs:↥V} {ds:↥D} {Q:VK} {P:OV->Prop},Same F H->Accs K F H xs ds->f ds P->C8 K F H P Q->r xs H Q
structure SlF(K:Frag)(r:V->Option Int->Option Int->Hp->VK->Prop)(f:D->Option Int->Option Int->(OV->Prop)->Prop):Prop where
 h:∀{F H:Hp} {x:V} {d:D} {lo hi:Option Int} {Q:VK} {P:OV->Prop},Same F H->Acc K F H x d->f d lo hi P->C8 K F H P Q->r x lo hi H Q
@[irreducible] def br(b:Bool)(A B:Prop):Prop:=if b=true then A else B
def cw{A B:Prop}(h:A):br true A B:=by unfold br;exact h
def cP{A B:Prop}(h:B):br false A B:=by unfold br;exact h
def sL{A B:Prop}(h:br true A B):A:=by unfold br at h;exact h
def sM{A B:Prop}(h:br false A B):B:=by unfold br at h;exact h
def al{b:Bool}{A B:Prop}(c:Prop)(e:b=true↔c)(h1:c->A)(h2:¬c->B):br b A B:=by
 cases b with
 |true=>exact cw (h1 (e.mp rfl))
 |false=>exact cP (h2 λz=>nomatch e.mpr z)
def ab(i:Nat):FE:=λρ Q=>match ρ[i]? with
 |some ↑(.fz d)=>Q (.ov (.fz d)) ρ
 |some ↑_=>Q (.br i) ρ
 |_=>False
def fC(d:D):FE:=λρ Q=>Q (.ov (.fz d)) ρ
def on2(ρ:FSt)(r s:RV)(k:D->D->Prop):Prop:=match jg ρ r with
 | some d=>match jg ρ s with
  |some e=>k d e
  |none=>False
 |none=>False
def on1(ρ:FSt)(r:RV)(k:D->Prop):Prop:=match jg ρ r with
 |some d=>k d
 |none=>False
def onL(ρ:FSt)(a:↥RV)(k:↥D->Prop):Prop:=match jx ρ a with
 |some d=>k d
 |none=>False
def onB(d:D)(k:Bool->Prop):Prop:=match d with
 |.bl b=>k b
 |_=>False
def fOp(f:D->D->(OV->Prop)->Prop)(fa fb:FE):FE:=λρ Q=>fa ρ λr b=>fb b λs a=>on2 a r s λd e=>f d e λo=>Q (.ov o) a
def fW(fa fb:FE):FE:=λρ Q=>fa ρ λr a=>on1 a r λd=>onB d λc=>br c (fb a Q) (Q (.ov (.fz (.bl false))) a)
def LM(fa fb:FE):FE:=λρ Q=>fa ρ λr a=>on1 a r λd=>onB d λc=>br c (Q (.ov (.fz (.bl true))) a) (fb a Q)
def C9(fa:FE):FE:=λρ Q=>fa ρ λr a=>on1 a r λd=>onB d λc=>Q (.ov (.fz (.bl (⇑c)))) a
def KM(fc:FT)(fa fb:FE):FE:=λρ Q=>fc ρ λb a=>br b (fa a Q) (fb a Q)
def jy(f g:D->D->(OV->Prop)->Prop)(fa fb fc:FE):FE:=λρ Q=>fa ρ λr c=>fb c λs a=>on2 a r s λd e=>f d e λo=>match o with
 |.fz (.bl k)=>br k (fc a λt b=>on2 b s t λj i=>g j i λo=>Q (.ov o) b) (Q (.ov (.fz (.bl false))) a)
 |_=>False
def au(fa:FE):FT:=λρ Q=>fa ρ λr a=>on1 a r λd=>onB d λc=>Q c a
def kL(ft:FT):FT:=λρ Q=>ft ρ λc a=>Q (⇑c) a
def Da(fa fb:FT):FT:=λρ Q=>fa ρ λc a=>br c (fb a Q) (Q false a)
def fOr(fa fb:FT):FT:=λρ Q=>fa ρ λc a=>br c (Q true a) (fb a Q)
def vT:D->Option Bool
 |.non=>!false
 |.bl b=>!b
 |.int i=>!(i != 0)
 |.str y=>if y.length<=sizeLine then ↑((y.length:Int) != 0) else none
 |.lst xs=>!(⇑xs.isEmpty)
 |.tup xs=>!(⇑xs.isEmpty)
 |.dct _ _=>none
 |.ty _=>none
 |.opq _ _=>none
 |.gt _=>none
 |.dt _ _=>none
def Dc(fa:FE):FT:=λρ Q=>fa ρ λr a=>on1 a r λd=>match vT d with
 |some k=>Q k a
 |none=>False
def jh:FT:=λρ Q=>Q true ρ
def af:FA:=λρ Q=>Q [] ρ
def aa(fa:FE)(fr:FA):FA:=λρ Q=>fa ρ λr b=>fr b λc a=>Q (r::c) a
def fCB(f:↥D->(OV->Prop)->Prop)(fa:FA):FE:=λρ Q=>fa ρ λb a=>onL a b λds=>f ds λo=>Q (.ov o) a
def gv(fa:FA):FE:=λρ Q=>fa ρ λc b=>match fzL c b with
 |some (ds,a)=>ds.length<=sizeLine/\Q (.ov (.fl ds)) a
 |none=>False
def fX(fa:FA):FE:=λρ Q=>fa ρ λc b=>match fzL c b with
 |some (ds,a)=>ds.length<=sizeLine/\Q (.ov (.fz (.tup ds))) a
 |none=>False
def cH:FO:=λρ Q=>Q none ρ
def ir(fa:FE):FO:=λρ Q=>fa ρ λr a=>on1 a r λd=>match d with
 |.int i=>Q ↑i a
 |_=>False
def fSl(f:D->Option Int->Option Int->(OV->Prop)->Prop)(fe:FE)(fl fh:FO):FE:=λρ Q=>fe ρ λr c=>fl c λlo b=>fh b λhi a=>on1 a r λd=>f d lo hi λo=>Q (.ov o) a
def xl:FE:=λρ Q=>Q (.ov (.fd [] [])) ρ
section
variable {K:Frag} 
def b4{k:D->Prop}(h:on1 ρ r k):∃d,jg ρ r=!d/\k d:=by
 unfold on1 at h;split at h
 .exact{_,by assumption,h}
 .exact h.elim
def nS{s:RV}{k:D->D->Prop}(h:on2 ρ r s k):∃d e,jg ρ r=!d/\jg ρ s=!e/\k d e:=by
 unfold on2 at h;split at h
 .split at h
  .exact{_,_,by assumption,by assumption,h}
  .exact h.elim
 .exact h.elim
def nT{r:↥RV}{k:↥D->Prop}(h:onL ρ r k):∃d,jx ρ r=!d/\k d:=by
 unfold onL at h;split at h
 .exact{_,by assumption,h}
 .exact h.elim
def nU{k:Bool->Prop}(h:onB d k):∃b,d=.bl b/\k b:=by
 unfold onB at h;split at h
 .exact{_,rfl,h}
 .exact h.elim
def sN(b:μ[j]?=!i):EF K μ (cV j) (ab i):=-{by
 intro F Z H c σ ρ A Q P a R h q;unfold ab at h;generalize e:ρ[i]?=o at h
 cases o with
 |none=>exact False.elim h
 | some o=>
  cases o with
  |none=>exact False.elim h
  | some o=>
   obtain⟨v,B,A',h1,h2,k,g,f⟩:=R.takeI e;refine{v,(a j i b).1.trans h1,?_}
   cases o with
   | fz d=>
    cases h2 with
    |fz dn=>exact q _ _ v F H A [] h (Same.refl _) R (.fz dn) Fresh.nil
   |_=>exact q _ _ v F H A [] h (Same.refl _) R {(h1),rfl} Fresh.nil}
def HM(hd:∀F,Den K F v d):EF K μ (tC v) (fC d):=-{fun {F Z H a σ ρ A Q P} b R h q=>q _ _ v F H A [] h (Same.refl _) R (.fz (hd F)) Fresh.nil}
def HN{i:Int}:EF K μ (tC (.int i)) (fC (.int i)):=-HM λ_=>.int i
def HP{i:Str}:EF K μ (tC (.str i)) (fC (.str i)):=-HM λ_=>.str i
def LN{i:Bool}:EF K μ (tC (.bl i)) (fC (.bl i)):=-HM λ_=>.bl i
def HQ:EF K μ (tC .non) (fC .non):=-HM λ_=>.non
def LO{T:String}:EF K μ (tC (.ty T)) (fC (.ty T)):=-HM λ_=>.ty T
def Rel.after(R:Rel K F Z H σ ρ A)(q:∀o v F' H' B,P o->Same F F'->Rel K F' Z H' σ ρ A->Ow K F' H' v o B->Fresh F' Z A B->Q v H'):C8 K F H P Q:=-
 λo v F' H' B p a b nw=>q o v F' H' B p a.ff (R.step a) b (R.fresh nw)
def LP{r:R2}(t:OpF K r f)(w:EF K μ ta fa)(u:EF K μ tb fb):EF K μ (tOp r ta tb) (fOp f fa fb):=-{by
 intro F Z H J σ ρ A Q P g R h q;refine w.h g R h λN j x F1 H1 Y W h1 m I v1 f1=>?_;obtain⟨O,sz,c,L,back⟩:=I.hold v1.live v1.nt f1;refine u.h g c h1 λM i y U H2 X V h2 b R2 k f2=>?_;obtain⟨a,C,s⟩:=back _ _ _ _ b R2;obtain⟨d,e,E,D,z⟩:=nS h2;refine t.h a.fh (a.acc (v1.keep b s) E) (a.acc k D) z (a.after λo v T S B p l G n fr=>q _ _ _ _ _ _ _ p ((m.trans b).trans l) G n fr)}
def Dd(l:EF K μ ta fa)(k:EF K μ tb fb):EF K μ (Bf ta tb) (fW fa fb):=-{by
 intro F Z H n σ ρ A Q P b R h q;refine l.h b R h λp i x F1 H1 v t h1 e a v1 f1=>?_;obtain⟨d,m,h2⟩:=b4 h1;obtain⟨c,rfl,f⟩:=nU h2;refine{c,(a.acc v1 m).bl_eq,?_}
 cases c with
 |true=>exact k.h b a (sL f) λo g y r H2 u s h2 j=>q _ _ _ _ _ _ _ h2 (e.trans j)
 |false=>exact q _ _ _ _ _ _ _ (sM f) e a (.fz (.bl false)) Fresh.nil}
def HR(l:EF K μ ta fa)(k:EF K μ tb fb):EF K μ (K1 ta tb) (LM fa fb):=-{by
 intro F Z H n σ ρ A Q P b R h q;refine l.h b R h λp i x F1 H1 v t h1 e a v1 f1=>?_;obtain⟨d,m,h2⟩:=b4 h1;obtain⟨c,rfl,f⟩:=nU h2;refine{c,(a.acc v1 m).bl_eq,?_}
 cases c with
 |false=>exact k.h b a (sM f) λo g y r H2 u s h2 j=>q _ _ _ _ _ _ _ h2 (e.trans j)
 |true=>exact q _ _ _ _ _ _ _ (sL f) e a (.fz (.bl true)) Fresh.nil}
def De(g:EF K μ ta fa):EF K μ (Bg ta) (C9 fa):=-{by
 intro F Z H k σ ρ A Q P e R h q;refine g.h e R h λl b x F1 H1 n m h1 f a v1 f1=>?_;obtain⟨d,j,h2⟩:=b4 h1;obtain⟨c,rfl,i⟩:=nU h2;exact{c,(a.acc v1 j).bl_eq,q _ _ _ _ _ _ _ i f a (.fz (.bl _)) Fresh.nil}}
def LQ(j:TF K μ tc fc)(l:EF K μ ta fa)(k:EF K μ tb fb):EF K μ (tIf tc ta tb) (KM fc fa fb):=-{by
 intro F Z H p σ ρ A Q P c R h q;refine j.h c R h λb g F1 H1 r h1 e f=>?_
 cases b with
 |true=>exact l.h c f (sL h1) λi a y m H2 o n h2 d=>q _ _ _ _ _ _ _ h2 (e.trans d)
 |false=>exact k.h c f (sM h1) λi a y m H2 o n h2 d=>q _ _ _ _ _ _ _ h2 (e.trans d)}
def xm{r r':R2}{T:D->D->(OV->Prop)->Prop}{tc:TE}{fc:FE}(ho:OpF K r f)(I:OpF K r' T)(ha:EF K μ ta fa)(c:EF K μ tb fb)(hc:EF K μ tc fc):EF K μ (kQ r r' ta tb tc) (jy f T fa fb fc):=-{by
 intro F Z H τ σ ρ A Q P s R h q;refine ha.h s R h λr1 ρ1 x F1 H1 A1 B1 h1 O R1 v1 f1=>?_;obtain⟨Z',sz,N,zl,back⟩:=R1.hold v1.live v1.nt f1;refine c.h s N h1 λr2 ρ2 y F2 H2 X W h2 n R2 C f2=>?_;obtain⟨i,f1',k1⟩:=back _ _ _ _ n R2;obtain⟨d,e,e1,e2,h3⟩:=nS h2;have j:Fresh F2 Z X W:={f2.nd,λb c=>{(f2.fr b c).1,sz.free (f2.fr b c).2.1,(f2.fr b c).2.2}};refine ho.h i.fh (i.acc (v1.keep n k1) e1) (i.acc C e2) h3 λo v V H3 B p m G nw=>?_;have U:=i.step m
 have f3:Fresh V Z X W:={j.nd,λb c=>{(by
  cases z:V b with
  |none=>rfl
  | some u=>
   obtain⟨w,S⟩:=C.live b c;rw[m.nw b u z (j.fr b c).1] at S;exact nomatch S),(j.fr b c).2}}
 have t:=C.keep m.ff λa u _ z=>m.hh a u z;split at p
 .rename_i k
  cases G with
  | fz dn=>
   refine{k,dn.bl_eq,?_}
   cases k with
   |false=>exact q _ _ _ _ _ _ _ (sM p) ((O.trans n).trans m.ff) U (.fz (.bl false)) Fresh.nil
   | true=>
    obtain⟨Z2,sz2,M,zl2,l⟩:=U.hold t.live t.nt f3;refine hc.h s M (sL p) λr4 Y w F4 H4 A4 B4 h4 E R4 v4 f4=>?_;obtain⟨g,f4',k4⟩:=l _ _ _ _ E R4;obtain⟨d',e',L,J,h5⟩:=nS h4;exact I.h g.fh (g.acc (t.keep E k4) L) (g.acc v4 J) h5 (g.after λo v F5 H5 B p s5 R5 G fr=>q _ _ _ _ _ _ _ p ((((O.trans n).trans m.ff).trans E).trans s5) R5 G fr)
 .exact p.elim}
def sO(g:EF K μ ta fa):TF K μ (re ta) (au fa):=-{by
 intro F Z H k σ ρ A Q P e R h q;refine g.h e R h λl b x F1 H1 n m h1 f a v1 f1=>?_;obtain⟨d,j,h2⟩:=b4 h1;obtain⟨c,rfl,i⟩:=nU h2;exact{c,(a.acc v1 j).bl_eq,q _ _ _ _ _ i f a}}
def HS{t:TT}{f:FT}(h:TF K μ t f):TF K μ (KZ t) (kL f):=-{fun {F Z H d σ ρ A Q P} c R p q=>h.h c R p λb a F1 H1 e h1=>q _ _ _ _ _ h1}
def HU{t:TT}{f g:FT}(h:TF K μ t f)(h':TF K μ u g):TF K μ (KY t u) (Da f g):=-{fun {F Z H k σ ρ A Q P} a R p q=>h.h a R p λb i F1 H1 n h1 c d=>by
 cases b with
 |true=>exact h'.h a d (sL h1) λb e l H2 m h2 j=>q _ _ _ _ _ h2 (c.trans j)
 |false=>exact q _ _ _ _ _ (sM h1) c d}
def LR{t:TT}{f g:FT}(h:TF K μ t f)(h':TF K μ u g):TF K μ (tOr t u) (fOr f g):=-{fun {F Z H k σ ρ A Q P} a R p q=>h.h a R p λb i F1 H1 n h1 c d=>by
 cases b with
 |false=>exact h'.h a d (sM h1) λb e l H2 m h2 j=>q _ _ _ _ _ h2 (c.trans j)
 |true=>exact q _ _ _ _ _ (sL h1) c d}
def HV:TF K μ Lx jh:=-{fun {F Z H a σ ρ A Q P} b R p q=>q _ _ _ _ _ p (Same.refl _) R}
def Dg{x:V}{k:Bool}(e:Same F H)(h:Acc K F H x d)(c:vT d=!k):Kz K x H k:=by
 cases d with
 |non=>rw[h.non_eq];exact(aak c).symm
 |bl b=>rw[h.bl_eq];exact(aak c).symm
 |int i=>rw[h.int_eq];exact(aak c).symm
 | str y=>
  rw[h.str_eq];simp only[vT] at c;split at c
  .exact{by assumption,by simpa using c.symm}
  .cases c
 | lst ds=>
  obtain⟨a,xs,rfl,h1,h2⟩:=h.asL e;have:=h2.length;refine .inl {xs,h1,?_};simp only[vT,Option.some.injEq] at c;rw[← c];cases xs <;> cases ds <;> simp at this ⊢
 | tup ds=>
  obtain⟨a,xs,rfl,h1,h2⟩:=h.asT e;have:=h2.length;refine .inr (.inl {xs,h1,?_});simp only[vT,Option.some.injEq] at c;rw[← c];cases xs <;> cases ds <;> simp at this ⊢
 | dct ks ds=>
  simp[vT] at c
 |ty T=>simp[vT] at c
 |opq a n=>simp[vT] at c
 |gt xs=>simp[vT] at c
 |dt ks xs=>simp[vT] at c
def HW(g:EF K μ ta fa):TF K μ (LJ K ta) (Dc fa):=-{by
 intro F Z H j σ ρ A Q P c R h q;refine g.h c R h λl b x F1 H1 n m h1 e a v1 f1=>?_;obtain⟨d,i,h2⟩:=b4 h1;split at h2
 .rename_i k f;exact{k,Dg a.fh (a.acc v1 i) f,q _ _ _ _ _ h2 e a}
 .exact h2.elim}
def HX:AF K μ ja af:=-{fun {F Z H a σ ρ A Q P} b R p q=>q _ _ _ _ _ _ _ p (Same.refl _) R .nil Fresh.nil}
def sP{k:TA}{fr:FA}(f:EF K μ ta fa)(hr:AF K μ k fr):AF K μ (cQ ta k) (aa fa fr):=-{by
 intro F Z H v σ ρ A Q P j R h q;refine f.h j R h λB n x F1 H1 J G h1 r t v1 f1=>?_;obtain⟨C,sz,i,o,back⟩:=t.hold v1.live v1.nt f1;refine hr.h j i h1 λw m y D H2 I E h2 d R2 p f2=>?_;obtain⟨g,c,s⟩:=back _ _ _ _ d R2;refine q _ _ _ _ _ _ _ h2 (r.trans d) g (.cons (v1.keep d s) p) {ab0.mpr {c.nd,f2.nd,λa f b e z=>?_},λb e=>?_}
 .obtain⟨u,l⟩:=o a f;rw[z,(f2.fr b e).2.1] at l;cases l
 .rcases abQ.mp e with z|z
  .exact c.fr b z
  .exact{(f2.fr b z).1,sz.free (f2.fr b z).2.1,(f2.fr b z).2.2}}
def LS{r:↥V->Hp->VK->Prop}{f:↥D->(OV->Prop)->Prop}{fa:FA}(i:CallF K r f)(j:AF K μ t fa):EF K μ (tCB r t) (fCB f fa):=-{by
 intro F Z H m σ ρ A Q P c R h q;refine j.h c R h λn b xs F1 H1 x w h1 e a v1 f1=>?_;obtain⟨ds,k,h2⟩:=nT h1;exact i.h a.fh (a.accs v1 k) h2 (a.after λo v u s B p d l g fr=>q _ _ _ _ _ _ _ p (e.trans d) l g fr)}
def HY{fa:FA}(m:AF K μ t fa):EF K μ (KC t) (gv fa):=-{by
 intro F Z H s σ ρ A Q P f R h q;refine m.h f R h λu d xs F1 H1 C y h1 j r v1 f1=>?_;split at h1
 .rename_i ds a e;obtain⟨c,z,i,R2,dn⟩:=r.frzL v1 f1 e;refine{by rw[dn.length];exact h1.1,λp b=>?_};have l:c p=none:=R2.fh.free b;exact R2.after (P:=λo=>P (.ov o) a) (λo v x w B p g n k fr=>q _ _ _ _ _ _ _ p ((j.trans i).trans g) n k fr) _ _ c _ [p] h1.2 (Pure.new R2.fh b) (.fl ag dn) (New.one b l)
 .exact h1.elim}
def HZ{fa:FA}(m:AF K μ t fa):EF K μ (KB t) (fX fa):=-{by
 intro F Z H s σ ρ A Q P f R h q;refine m.h f R h λu d xs F1 H1 C y h1 j r v1 f1=>?_;split at h1
 .rename_i ds a e;obtain⟨c,z,i,R2,dn⟩:=r.frzL v1 f1 e;refine{by rw[dn.length];exact h1.1,λp b=>?_};have l:c p=none:=R2.fh.free b;refine R2.after (P:=λo=>P (.ov o) a) (λo v x w B p g n k fr=>q _ _ _ _ _ _ _ p ((j.trans i).trans g) n k fr) _ _ (upd c p (.tup xs)) _ [] h1.2 (Pure.frz R2.fh b) (.fz (.tup ag (dn.mono (bt l)))) New.nil
 .exact h1.elim}
def Dh:EF K μ rJ xl:=-{by
 intro F Z H f σ ρ A Q P g R h q p a;have d:F p=none:=R.fh.free a;exact R.after (P:=λo=>P (.ov o) ρ) (λo v j i B p b e c fr=>q _ _ _ _ _ _ _ p b e c fr) _ _ F _ [p] h (Pure.new R.fh a) (.fd ag rfl .nil) (New.one a d)}
def Di:OF K μ mE cH:=-{fun {F Z H a σ ρ A Q P} b R p q=>q _ _ _ _ _ p (Same.refl _) R}
def Dj(f:EF K μ ta fa):OF K μ (BK ta) (ir fa):=-{by
 intro F Z H j σ ρ A Q P c R h q;refine f.h c R h λk b x F1 H1 m l h1 e a v1 f1=>?_;obtain⟨d,g,h2⟩:=b4 h1;split at h2
 .rename_i i;exact{i,(a.acc v1 g).int_eq,q _ _ _ _ _ h2 e a}
 .exact h2.elim}
def LU{r:V->Option Int->Option Int->Hp->VK->Prop}{f:D->Option Int->Option Int->(OV->Prop)->Prop}{tl th:TO}{fl fh:FO}(hr:SlF K r f)(u:EF K μ te fe)(t:OF K μ tl fl)(hh:OF K μ th fh):EF K μ (tSl r te tl th) (fSl f fe fl fh):=-{by
 intro F Z H J σ ρ A Q P b R h q;refine u.h b R h λM k x F1 H1 A1 X h1 m I v1 f1=>?_;obtain⟨N,sz,g,L,back⟩:=I.hold v1.live v1.nt f1;refine t.h b g h1 λlo j W H2 A2 h2 e R2=>?_;refine hh.h b R2 h2 λhi i U S Y y c G=>?_;obtain⟨a,z,s⟩:=back _ _ _ _ (e.trans c) G;obtain⟨d,C,w⟩:=b4 y;exact hr.h a.fh (a.acc (v1.keep (e.trans c) s) C) w (a.after λo v T O B p l E n fr=>q _ _ _ _ _ _ _ p (((m.trans e).trans c).trans l) E n fr)}
end
abbrev Pk:=OV->↥OV->Prop
abbrev Ct:=↥OV->Pk->Prop
variable{c:Ct}
def takeR:RV->FSt->Option (OV×FSt)
 |.ov o,ρ=>!(o,ρ)
 | .br i,ρ=>match ρ[i]? with
  |some ↑o=>!(o,ρ.set i none)
  |_=>none
def takeL:↥RV->FSt->Option (↥OV×FSt)
 |[],ρ=>!([],ρ)
 | r::c,ρ=>match takeR r ρ with
  | some (o,b)=>match takeL c b with
   |some (os,a)=>!(o::os,a)
   |none=>none
  |none=>none
def putL:↥RV->↥OV->FSt->FSt
 |.br i::a,o::os,ρ=>putL a os (ρ.set i !o)
 |.ov _::a,_::os,ρ=>putL a os ρ
 |_,_,ρ=>ρ
def spM(K:Frag)(c:Ct):Sp:=λvs H Q _=>∃(F Z:Hp) (os:↥OV) (C:↥Addr) (P:OV->↥OV->Prop),Same F H/\SameN Z H/\(∀a o,F a=!o->Z a=none)/\Ows K F H vs os C/\C.Nodup/\(∀a∈C,F a=none/\Z a=none)/\c os P /\
 ∀o b v F' H' d B,P o b->Same F F'->Same F' H'->Same Z H'->(∀a o,F' a=!o->Z a=none)->Ows K F' H' vs b d->Ow K F' H' v o B->(d++B).Nodup->(∀a∈d++B,F' a=none/\Z a=none)->Q v H'
def ar(c:Ct)(fa:FA):FE:=λρ Q=>fa ρ λe b=>match takeL e b with
 |some (os,a)=>c os λo d=>Q (.ov o) (putL e d a)
 |none=>False
def fFz(fe:FE):FE:=λρ Q=>fe ρ λr b=>match fzR r b with
 |some (d,a)=>Q (.ov (.fz d)) a
 |none=>False
section
variable {K:Frag}     
def Rel.takeR{b:FSt}(R:Rel K F Z H σ ρ A)(h:RV1 K F H σ v r B)(f:Fresh F Z A B)(e:L2.takeR r ρ=!(o,b)) :
  ∃C A',Rel K F Z H σ b A'/\Ow K F H v o C/\Fresh F Z A' C/\(∀a∈A',a∈A)/\∀a∈C,a∈A∨a∈B:=by
 cases r with
 | ov o'=>
  simp only[L2.takeR,Option.some.injEq,Prod.mk.injEq] at e;obtain⟨rfl,rfl⟩:=e;exact{B,A,R,h,f,λ_ z=>z,λ_ z=>.inr z}
 | br i=>
  simp only[L2.takeR] at e;split at e
  .rename_i o' j;simp only[Option.some.injEq,Prod.mk.injEq] at e;obtain⟨rfl,rfl⟩:=e;obtain⟨d,m,A',h1,h2,l,k,pm⟩:=R.takeI j;have g:d=v:=aak (aak (h1.symm.trans h.1));subst g;exact{m,A',l,h2,k,λa c=>pm.mem_iff.mpr (abQ.mpr (.inr c)),λa c=>.inl (pm.mem_iff.mpr (abQ.mpr (.inl c)))}
  .cases e
def Rel.takeL:∀{i:↥RV} {vs:↥V} {B:↥Addr} {os:↥OV} {ρ c:FSt} {A:↥Addr},Rel K F Z H σ ρ A->RVL K F H σ vs i B->Fresh F Z A B->L2.takeL i ρ=↑(os,c) ->
  ∃C A',Rel K F Z H σ c A'/\Ows K F H vs os C/\Fresh F Z A' C/\(∀a∈A',a∈A)/\∀a∈C,a∈A∨a∈B:=by
 intro i
 induction i with
 | nil=>
  intro vs B os ρ c A R h f e;simp only[L2.takeL,Option.some.injEq,Prod.mk.injEq] at e;obtain⟨rfl,rfl⟩:=e;cases h;exact{[],A,R,.nil,f,λ_ z=>z,λ_ z=>nomatch z}
 | cons r i E=>
  intro vs B os ρ c A R h f e
  cases h with
  | @cons v _ vs _ M B2 h t=>
   simp only[L2.takeL] at e;split at e
   .rename_i o p I;split at e
    .rename_i q n G;simp only[Option.some.injEq,Prod.mk.injEq] at e;obtain⟨rfl,rfl⟩:=e;obtain⟨D,x,w⟩:=aQ (aaB (M++B2)) f.nd;obtain⟨L,O,J,u,f1,j,m⟩:=R.takeR h {D,λb d=>f.fr b (abQ.mpr (.inl d))} I
     obtain⟨C2,N,R2,s,f2,k,l⟩:=E J t {x,λb d=>by
      have fb:=f.fr b (abQ.mpr (.inr d));exact{fb.1,fb.2.1,λz=>fb.2.2 (j b z)}} G
     refine{L++C2,N,R2,.cons u s,{ab0.mpr {f1.nd,f2.nd,λa g b d z=>?_},λb d=>?_},λa g=>j a (k a g),λa g=>?_}
     .subst z;rcases l a d with z|z
      .exact(f1.fr a g).2.2 z
      .rcases m a g with y|y
       .exact(f.fr a (abQ.mpr (.inr z))).2.2 y
       .exact w a y z
     .rcases abQ.mp d with z|z
      .exact{(f1.fr b z).1,(f1.fr b z).2.1,λy=>(f1.fr b z).2.2 (k b y)}
      .exact f2.fr b z
     .rcases abQ.mp g with z|z
      .rcases m a z with y|y
       .exact .inl y
       .exact .inr (abQ.mpr (.inl y))
      .rcases l a z with y|y
       .exact .inl (j a y)
       .exact .inr (abQ.mpr (.inr y))
    .cases e
   .cases e
def Rel.assign(R:Rel K F Z H σ ρ A)(h:Ow K F H v o B)(f:Fresh F Z A B):∃A',Rel K F Z H (σ.set i !v) (ρ.set i !o) A'/\∀a∈A',a∈A∨a∈B:=by
 obtain⟨g,C,pm,k⟩:=R.sl.drop i !v;obtain⟨p,l,n⟩:=aQ pm R.nd;have mA:∀a∈g,a∈A:=λa c=>pm.mem_iff.mpr (abQ.mpr (.inr c));have d:Rel K F Z H (σ.set i !v) (ρ.set i none) g:={k,l,λa c=>R.fr a (mA a c),R.fh,R.zh,R.dj};by_cases hi:i<ρ.length
 .have j:=R.sl.len;obtain⟨m,R2,p2⟩:=d.putI (i:=i) (v:=v) (o:=o) (B:=B) (by simp[hi]) (by simp[j,hi]) h {f.nd,λb e=>{(f.fr b e).1,(f.fr b e).2.1,λz=>(f.fr b e).2.2 (mA b z)}};rw[aa5] at R2;refine{m,R2,λa c=>?_};rcases abQ.mp (p2.mem_iff.mp c) with z|z
  .exact .inr z
  .exact .inl (mA a z)
 .have j:=R.sl.len;rw[List.set_eq_of_length_le ()] at d ⊢;rw[List.set_eq_of_length_le ()] at d ⊢;exact{g,d,λa c=>.inl (mA a c)}
def Ia(h:σ[i]?=!!v):σ.set i ↑v=σ:=by
 apply List.ext_getElem?;intro j;by_cases a:i=j
 .subst a;have:=(List.getElem?_eq_some_iff.mp h).1;rw[h,List.getElem?_set_self this]
 .rw[List.getElem?_set_ne a]
def Rel.putL:∀{d:↥RV} {vs:↥V} {os:↥OV} {B C:↥Addr} {ρ:FSt} {A:↥Addr},Rel K F Z H σ ρ A->RVL K F' H' σ vs d B->Ows K F H vs os C->Fresh F Z A C ->
  ∃A',Rel K F Z H σ (L2.putL d os ρ) A'/\∀a∈A',a∈A∨a∈C:=by
 intro d
 induction d with
 | nil=>
  intro vs os B C ρ A R h p f;exact{A,R,λ_ z=>.inl z}
 | cons r d n=>
  intro vs os B C ρ A R h p f
  cases h with
  | @cons v _ vs _ D x h t=>
   cases p with
   | @cons _ o _ os s C2 h1 j=>
    obtain⟨w,k,u⟩:=aQ (aaB (s++C2)) f.nd;have f1:Fresh F Z A s:={w,λb c=>f.fr b (abQ.mpr (.inl c))};have f2:Fresh F Z A C2:={k,λb c=>f.fr b (abQ.mpr (.inr c))}
    cases r with
    | ov o'=>
     obtain⟨A',g,m⟩:=n R t j f2;refine{A',g,λa e=>(m a e).elim .inl λz=>.inr (abQ.mpr (.inr z))}
    | br i=>
     obtain⟨E,q,l⟩:=R.assign (i:=i) h1 f1;rw[Ia h.1] at q;obtain⟨A',g,m⟩:=n q t j {k,λb c=>{(f2.fr b c).1,(f2.fr b c).2.1,λz=>(l b z).elim (f2.fr b c).2.2 λy=>u b y c}};refine{A',g,λa e=>?_};rcases m a e with z|z
     .exact(l a z).elim .inl λy=>.inr (abQ.mpr (.inl y))
     .exact .inr (abQ.mpr (.inr z))
def sQ{fa:FA}{E:XK}(f:AF K μ t fa):EF K μ (kS (spM K c) [] E t) (ar c fa):=-{by
 intro F Z H τ σ ρ A Q P S R h q;refine f.h S R h λrs M vs F1 H1 A1 B1 h1 T R1 v1 f1=>?_;rw[aaw];split at h1
 .rename_i os l e;obtain⟨C,i,R2,V,f2,m2,c2⟩:=R1.takeL v1 f1 e
  -- x is not handed G is L
  obtain⟨n,g,d⟩:=mix i H1 Z;have hz:∀a,a∈i->Z a=none:=λa f=>(R2.fr a f).2;have sz:Same Z n:=λa o z=>by rw[d a λy=>by rw[hz a y] at z;cases z];exact z
  refine{F1,n,os,C,_,R2.fh,{λa o z=>?_,λa xs z=>?_},λa o z=>?_,V,f2.nd,λa f=>{(f2.fr a f).1,by rw[d a (f2.fr a f).2.2];exact(f2.fr a f).2.1},h1,λo U v r H3 s B p D fh zh dj O N nd fr=>?_}
  .by_cases y:a∈i
   .rw[g a y] at z;exact z
   .rw[d a y] at z;exact R2.zh.s a o z
  .by_cases y:a∈i
   .rw[g a y] at z;exact R2.sl.nt a y xs z
   .rw[d a y] at z;exact R2.zh.n a xs z
  .rw[d a λy=>by rw[(R2.fr a y).1] at z;cases z];exact R2.dj a o z
  .have J:∀a∈i,∃u,n a=!u:=λa f=>by
    obtain⟨u,m⟩:=R2.sl.live a f;exact{u,by rw[g a f];exact m}
   have R3:Rel K r Z H3 σ l i:={R2.sl.keep D λa u f m=>zh a u (by rw[g a f];exact m),R2.nd,λa f=>{(by
    cases z:r a with
    |none=>rfl
    | some u=>
     have:=dj a u z;obtain⟨w,k⟩:=J a f;rw[k] at this;exact nomatch this),(R2.fr a f).2},fh,{sz.trans zh,R2.zh.n},λa o z=>sz.free (dj a o z)}
   have I:∀a∈s++B,a∉i:=λa f y=>by
    obtain⟨w,k⟩:=J a y;rw[(fr a f).2] at k;cases k
   obtain⟨Y,X,W⟩:=aQ (aaB (s++B)) nd
   have fC:Fresh r Z i s:={Y,λb j=>by
    have:=fr b (abQ.mpr (.inl j));exact{this.1,sz.free this.2,I b (abQ.mpr (.inl j))}}
   obtain⟨A4,R4,m4⟩:=R3.putL v1 O fC;refine q _ _ _ _ _ _ _ p (T.trans D) R4 N {X,λb j=>?_};have:=fr b (abQ.mpr (.inr j));exact{this.1,sz.free this.2,λz=>(m4 b z).elim (I b (abQ.mpr (.inr j))) λy=>W b y j}
 .exact h1.elim}
def LV(i:EF K μ te fe):EF K μ te (fFz fe):=-{by
 intro F Z H k σ ρ A Q P c R h q;refine i.h c R h λr b v F1 H1 o m h1 g j v1 f1=>?_;split at h1
 .rename_i d a e;obtain⟨l,n,f,R2,dn,_,_⟩:=j.frz v1 f1 e;exact q _ _ _ _ _ _ _ h1 (g.trans f) R2 (.fz dn) Fresh.nil
 .exact h1.elim}
end
theorem nV:∀{l:↥Nat} {j k i:Nat},l.Nodup->l[j]?=!i->l[k]?=!i->j=k
 |[],_,_,_,_,h,_=>by simp at h
 |a::l,0,0,_,_,_,_=>rfl
 | a::l,0,k+1,i,n,h,h'=>by
  simp at h h';subst h;exact absurd (List.mem_of_getElem? h') (abV.mp n).1
 | a::l,j+1,0,i,n,h,h'=>by
  simp at h h';subst h';exact absurd (List.mem_of_getElem? h) (abV.mp n).1
 | a::l,j+1,k+1,i,n,h,h'=>by
  simp at h h';rw[nV (List.nodup_cons.mp n).2 h h']
abbrev FG:=D->FSt->(FSt->Prop)->Prop
variable{fg:FG}
abbrev FGs:=↥D->FSt->(FSt->Prop)->Prop
structure GF(K:Frag)(μ:↥Nat)(T:↥Nat)(g:TG)(f:FG):Prop where
 h:∀{F Z H:Hp} {τ σ:St} {ρ:FSt} {A:↥Addr} {v:V} {d:D} {Q:St->Hp->Prop} {P:FSt->Prop},View μ τ σ->Rel K F Z H σ ρ A->Den K F v d->f d ρ P ->
  (∀τ' σ' ρ' A',P ρ'->View μ τ' σ'->Rel K F Z H σ' ρ' A'->(∀i,i∉T->σ'[i]?=σ[i]?)->σ'.length=σ.length->((∀j i:Nat,μ[j]?=!i->i=j)->τ=σ->τ'=σ')->(∀a∈A',a∈A)->Q τ' H)->g v τ H Q
structure GsF(K:Frag)(μ:↥Nat)(T:↥Nat)(g:TGs)(f:FGs):Prop where
 h:∀{F Z H:Hp} {τ σ:St} {ρ:FSt} {A:↥Addr} {v:↥V} {d:↥D} {Q:St->Hp->Prop} {P:FSt->Prop},View μ τ σ->Rel K F Z H σ ρ A->Dens K F v d->f d ρ P ->
  (∀τ' σ' ρ' A',P ρ'->View μ τ' σ'->Rel K F Z H σ' ρ' A'->(∀i,i∉T->σ'[i]?=σ[i]?)->σ'.length=σ.length->((∀j i:Nat,μ[j]?=!i->i=j)->τ=σ->τ'=σ')->(∀a∈A',a∈A)->Q τ' H)->g v τ H Q
def ac(i:Nat):FG:=λd ρ P=>P (ρ.set i !(.fz d))
def jX:FGs:=λds ρ P=>match ds with
 |[]=>P ρ
 |_=>False
def b5(f:FG)(fs:FGs):FGs:=λds ρ P=>match ds with
 |d::ds=>f d ρ λa=>fs ds a P
 |_=>False
def jY(n:Nat)(f:FGs):FG:=λd ρ P=>match d with
 |.tup ds=>ds.length=n/\f ds ρ P
 |_=>False
section
variable {K:Frag} 
def sR(k:μ[j]?=!i)(p:μ.Nodup):GF K μ [i] (eQ j) (ac i):=-{by
 intro F Z H t σ ρ A v d Q P f R dn h q;obtain⟨A',s,m⟩:=R.assign (i:=i) (.fz dn) Fresh.nil;refine q _ (σ.set i !v) _ _ h (λg c h'=>{?_,by rw[aaF];exact(f g c h').2.1,by rw[aaF];exact(f g c h').2.2}) s (λc o=>?_) (aaF ..) (λn e=>?_) λa r=>(m a r).elim id λz=>nomatch z
 .by_cases b:j=g
  .subst b;rw[k] at h';cases h';have:=f j i k;rw[List.getElem?_set_self this.2.1,List.getElem?_set_self this.2.2]
  .have l:i≠c:=λz=>by
    subst z;exact b (nV p k h')
   rw[List.getElem?_set_ne b,List.getElem?_set_ne l];exact(f g c h').1
 .rw[List.getElem?_set_ne λz=>o (by simp[z])]
 .rw[n j i k,e]}
def Dk:GsF K μ [] Kw jX:=-{by
 intro F Z H b σ ρ A v d Q P a R dn h q
 cases dn with
 |nil=>exact{rfl,q _ _ _ _ h a R (λ_ _=>rfl) rfl (λ_ e=>e) λ_ z=>z}
 |cons _ _=>exact h.elim}
def xn{T':↥Nat}{f:FG}{fs:FGs}(h1:GF K μ T g f)(h2:GsF K μ T' gs fs):GsF K μ (T++T') (pH g gs) (b5 f fs):=-{by
 intro F Z H I σ ρ A v d Q P x R dn h q
 cases dn with
 |nil=>exact h.elim
 | cons E D=>
  refine{_,_,rfl,h1.h x R E h fun r t w A' p e G k z n m=>h2.h e G D p fun o s u J p2 c R2 B j l y=>q _ _ _ _ p2 c R2 (λi hi=>?_) (j.trans z) (λa b=>l a (n a b)) λa C=>m a (y a C)};rw[abQ,not_or] at hi;rw[B i hi.2,k i hi.1]}
def Ib{fs:FGs}(h2:GsF K μ T gs fs):GF K μ T (Gq K n gs) (jY n fs):=-{by
 intro F Z H b σ ρ A v d Q P a R dn h q
 cases dn with
 |tup hs t=>exact{_,_,rfl,SqT.of (R.fh _ _ hs),t.length.trans h.1,h2.h a R t h.2 q}
 |_=>exact h.elim}
end
structure Walk(K:Frag)(F:Hp)(J:It)(ds:↥D):Prop where
 go:∀H i,Same F H->i<ds.length->J.go i H
 yld:∀H i x H',Same F H->i<ds.length->J.yld i H x H'->H'=H/\∃d,ds[i]?=!d/\Den K F x d
 stop:∀H,Same F H->J.stop ds.length H
abbrev FI:=FSt->(↥D->FSt->Prop)->Prop
variable{fi:FI}
structure ITF(K:Frag)(μ:↥Nat)(t:TI)(f:FI):Prop where
 h:∀{F Z H:Hp} {τ σ:St} {ρ:FSt} {A:↥Addr} {Q:It->Hp->Prop} {P:↥D->FSt->Prop},View μ τ σ->Rel K F Z H σ ρ A->f ρ P ->
  (∀ds ρ' J F' H' A',P ds ρ'->Same F F'->Rel K F' Z H' σ ρ' A'->Walk K F' J ds->Q J H')->t τ H Q
def bQ(fe:FE):FI:=λρ Q=>fe ρ λr b=>match fzR r b with
 |some (.lst ds,a)=>Q ds a
 |_=>False
def sS(fe:FE):FI:=λρ Q=>fe ρ λr b=>match fzR r b with
 |some (.tup ds,a)=>Q ds a
 |_=>False
def gw(z:Str):↥D:=z.cps.toList.map λc=>.str {#[c]}
def Dl(fe:FE):FI:=λρ Q=>fe ρ λr b=>match fzR r b with
 |some (.str z,a)=>Q (gw z) a
 |_=>False
def dJ(lo:Int)(n:Nat):↥D:=(List.range n).map λ(k:Nat)=>.int (lo+(k:Int))
def dL(fa:FA):FI:=λρ Q=>fa ρ λb a=>onL a b λds=>match ds with
 |[.int j]=>(-(2 ^ 62)<=j/\j<2 ^ 62)/\Q (dJ 0 j.toNat) a
 |_=>False
def sT(fa:FA):FI:=λρ Q=>fa ρ λb a=>onL a b λds=>match ds with
 |[.int i,.int j]=>(-(2 ^ 62)<=i/\i<2 ^ 62/\-(2 ^ 62)<=j/\j<2 ^ 62)/\Q (dJ i (j - i).toNat) a
 |_=>False
section
variable {K:Frag}  
def sU(h:SqL K F a xs)(t:Dens K F xs ds):Walk K F (Itl K a) ds:=-
 {λH i s hi=>by
  obtain⟨x,h1,h2⟩:=t.get (List.getElem?_eq_getElem hi);exact{xs,x,s.seq h,h1},λH i x H' s hi y=>by
  obtain⟨rfl,y⟩:=y;obtain⟨d,h1,h2⟩:=t.get' (y xs (s.seq h));exact{(rfl),d,h1,h2},λH s=>{xs,s.seq h,by rw[t.length];exact aac _}}
def xo(h:SqT K F a xs)(t:Dens K F xs ds):Walk K F (Itt K a) ds:=-
 {λH i s hi=>by
  obtain⟨x,h1,h2⟩:=t.get (List.getElem?_eq_getElem hi);exact{xs,x,h.same s,h1},λH i x H' s hi y=>by
  obtain⟨rfl,y⟩:=y;obtain⟨d,h1,h2⟩:=t.get' (y xs (h.same s));exact{(rfl),d,h1,h2},λH s=>{xs,h.same s,by rw[t.length];exact aac _}}
def xp :Walk K F (Its z) (gw z):=-
 {λH i s hi=>by (have hi:i<z.cps.size:=by simpa [gw] using hi);exact hi,λH i x H' s hi y=>by
  obtain⟨rfl,c,h1,rfl⟩:=y;exact{rfl,.str {#[c]},by rw[gw,List.getElem?_map,h1];rfl,.str _},λH s=>by
  show (gw z).length=z.cps.size;simp[gw]}
def nW{lo:Int}:Walk K F (Itr lo n) (dJ lo n):=-
 {λH i s hi=>by (have hi:i<n:=by simpa [dJ] using hi);exact hi,λH i x H' s hi y=>by
  obtain⟨rfl,rfl⟩:=y;have hi:i<n:=by simpa [dJ] using hi
  exact{rfl,.int (lo+i),by simp[dJ,hi],.int _},λH s=>by
  show n<=(dJ lo n).length;simp[dJ]}
def xq(i:EF K μ te fe):ITF K μ (mz K te) (bQ fe):=-{by
 intro F Z H k σ ρ A Q P c R h q;refine i.h c R h λr a v F1 H1 p m h1 g j v1 f1=>?_;generalize e:fzR r a=o at h1;obtain _|⟨d,b⟩:=o
 .exact False.elim h1
 cases d
 case lst ds=>
  obtain⟨l,n,f,R2,dn,_,_⟩:=j.frz v1 f1 e
  cases dn with
  |lst hs t=>exact {_,rfl,{_,R2.fh.seq hs},q _ _ _ _ _ _ h1 (g.trans f) R2 (sU hs t)}
 all_goals exact False.elim h1}
def Dm(i:EF K μ te fe):ITF K μ (Kx K te) (sS fe):=-{by
 intro F Z H k σ ρ A Q P c R h q;refine i.h c R h λr a v F1 H1 p m h1 g j v1 f1=>?_;generalize e:fzR r a=o at h1;obtain _|⟨d,b⟩:=o
 .exact False.elim h1
 cases d
 case tup ds=>
  obtain⟨l,n,f,R2,dn,_,_⟩:=j.frz v1 f1 e
  cases dn with
  |tup hs t=>exact {_,rfl,{_,SqT.of (R2.fh _ _ hs)},q _ _ _ _ _ _ h1 (g.trans f) R2 (xo (SqT.of hs) t)}
 all_goals exact False.elim h1}
def Dn(g:EF K μ te fe):ITF K μ (Ly te) (Dl fe):=-{by
 intro F Z H j σ ρ A Q P c R h q;refine g.h c R h λr b v F1 H1 n l h1 f i v1 f1=>?_;split at h1
 .rename_i z a e;obtain⟨k,m,d,R2,dn,_,_⟩:=i.frz v1 f1 e;exact{z,dn.str_eq,q _ _ _ _ _ _ h1 (f.trans d) R2 xp}
 .exact h1.elim}
def bH(h:Accs K F H xs [d]):∃x,xs=[x]/\Acc K F H x d:=by
 cases h with|cons a t=>cases t;exact{_,rfl,a}
def nX(h:Accs K F H xs [d,e]):∃x y,xs=[x,y]/\Acc K F H x d/\Acc K F H y e:=by
 cases h with|cons a t=>obtain⟨y,rfl,b⟩:=bH t;exact{_,_,rfl,a,b}
def xr{fa:FA}(g:AF K μ t fa):ITF K μ (Br t) (dL fa):=-{by
 intro F Z H k σ ρ A Q P e R h q;refine g.h e R h λl c xs F1 H1 n m h1 f b v1 f1=>?_;obtain⟨ds,i,h2⟩:=nT h1;obtain _|⟨d,r⟩:=ds
 .exact False.elim h2
 cases d
 case int j=>
  cases r with
  |cons=>exact False.elim h2
  | nil=>
   obtain⟨x,rfl,a⟩:=bH (b.accs v1 i);exact{j,by rw[a.int_eq],h2.1.1,h2.1.2,q _ _ _ _ _ _ h2.2 f b nW}
 all_goals exact False.elim h2}
def xt{fa:FA}(g:AF K μ t fa):ITF K μ (Bs t) (sT fa):=-{by
 intro F Z H l σ ρ A Q P e R h q;refine g.h e R h λm d xs F1 H1 o n h1 f c v1 f1=>?_;obtain⟨ds,k,h2⟩:=nT h1;split at h2
 .rename_i i j;obtain⟨x,y,rfl,a,b⟩:=nX (c.accs v1 k);exact{i,j,by rw[a.int_eq,b.int_eq],h2.1,q _ _ _ _ _ _ h2.2 f c nW}
 .exact h2.elim}
end
structure FEnds where
 nx:FSt->Prop
 rt:OV->FSt->Prop
 bk:FSt->Prop:=λ_=>False
 ct:FSt->Prop:=λ_=>False
variable{E:FEnds}
abbrev FS:=FEnds->FSt->Prop
def Pin(n:Nat)(m:↥Nat)(σ0 σ:St):Prop:=σ.length=n/\∀i∈m,σ[i]?=σ0[i]?
structure EndsOk(K:Frag)(n:Nat)(m:↥Nat)(F Z:Hp)(σ0:St)(D:Ends)(fD:FEnds):Prop where
 nx:∀F' H' σ' ρ' A',Same F F'->Rel K F' Z H' σ' ρ' A'->Pin n m σ0 σ'->fD.nx ρ'->D.nx σ' H'
 rt:∀F' H' σ' ρ' A' v o B,Same F F'->Rel K F' Z H' σ' ρ' A'->Pin n m σ0 σ'->Ow K F' H' v o B->Fresh F' Z A' B->fD.rt o ρ'->D.rt v H'
 bk:∀F' H' σ' ρ' A',Same F F'->Rel K F' Z H' σ' ρ' A'->Pin n m σ0 σ'->fD.bk ρ'->D.bk σ' H'
 ct:∀F' H' σ' ρ' A',Same F F'->Rel K F' Z H' σ' ρ' A'->Pin n m σ0 σ'->fD.ct ρ'->D.ct σ' H'
def EndsOk.mono{K:Frag}{D:Ends}{fD:FEnds}(E:EndsOk K n m F Z σ0 D fD)(e:Same F F1):EndsOk K n m F1 Z σ0 D fD:=-
 {λF' H' a b A' s=>E.nx F' H' a b A' (e.trans s),λF' H' a b A' v o B s=>E.rt F' H' a b A' v o B (e.trans s),λF' H' a b A' s=>E.bk F' H' a b A' (e.trans s),λF' H' a b A' s=>E.ct F' H' a b A' (e.trans s)}
structure SF(K:Frag)(n:Nat)(m:↥Nat)(t:TS)(f:FS):Prop where
 h:∀{F Z H:Hp} {σ0 σ:St} {ρ:FSt} {A:↥Addr} {D:Ends} {fD:FEnds},Rel K F Z H σ ρ A->Pin n m σ0 σ->EndsOk K n m F Z σ0 D fD->f fD ρ->t D σ H
def aH:FS:=λD ρ=>D.nx ρ
def Af:FS:=λD ρ=>D.bk ρ
def Ic:FS:=λD ρ=>D.ct ρ
def ji:FSt->(FSt->Prop)->Prop
 |[],k=>k []
 |a::l,k=>ji l λb=>k (a::b)
theorem di:∀(ρ:FSt) (k:FSt->Prop),ji ρ k↔k ρ
 |[],k=>Iff.rfl
 |a::l,k=>by rw[ji,di l]
def am(f g:FS):FS:=λD ρ=>f { D with nx:=λa=>ji a (g D) } ρ
@[irreducible] def fIf(c:FT)(f g:FS)(E:FEnds)(ρ:FSt):Prop:=c ρ λb a=>br b (f E a) (g E a)
def ay{c:FT}{f g:FS}(h:c ρ λb a=>br b (f E a) (g E a)):fIf c f g E ρ:=by unfold fIf;exact h
def gL{c:FT}{f:FS}(p:Prop)(rest:p->E.nx ρ)(h:(p->E.nx ρ)->c ρ λb a=>br b (f E a) (E.nx a)):fIf c f aH E ρ:=-ay (h rest)
def bi(fe:FE):FS:=λD ρ=>fe ρ λr b=>match takeR r b with
 |some (o,a)=>D.rt o a
 |none=>False
def Ie:FS:=λD ρ=>D.rt (.fz .non) ρ
def bA(fe:FE):FS:=λD ρ=>fe ρ λ_ a=>D.nx a
def bX(fe:FE)(fg:FG):FS:=λD ρ=>fe ρ λr b=>match fzR r b with
 |some (d,a)=>fg d a D.nx
 |none=>False
def b9(i:Nat)(fe:FE):FS:=λD ρ=>fe ρ λr a=>match r with
 |.ov o=>D.nx (a.set i !o)
 |.br _=>False
def nY(fg:FG)(fb:FS)(E:FEnds):↥D->FSt->Prop
 |[],ρ=>E.nx ρ
 |d::ds,ρ=>fg d ρ λa=>fb { nx:=nY fg fb E ds,ct:=nY fg fb E ds,bk:=E.nx,rt:=E.rt } a
@[irreducible] def dm(fg:FG)(fb:FS)(E:FEnds)(ds:↥D)(ρ:FSt):Prop:=nY fg fb E ds ρ
def jZ(fg:FG)(fb:FS)(E:FEnds)(ds:↥D):dm fg fb E ds=nY fg fb E ds:=by funext ρ;unfold dm;rfl
def lm(fg:FG)(fb:FS)(E:FEnds)(ρ:FSt):dm fg fb E [] ρ=E.nx ρ:=by rw[jZ];rfl
def lp(fg:FG)(fb:FS)(E:FEnds)(d:D)(ds:↥D)(ρ:FSt):dm fg fb E (d::ds) ρ=fg d ρ λa=>fb { nx:=dm fg fb E ds,ct:=dm fg fb E ds,bk:=E.nx,rt:=E.rt } a:=by rw[jZ,jZ];rfl
def jz(fi:FI)(fg:FG)(fb:FS):FS:=λD ρ=>fi ρ λds a=>ji a (dm fg fb D ds)
def j1(fc:FT)(fb:FS)(E:FEnds):Nat->FSt->Prop
 |0,_=>False
 |n+1,ρ=>fc ρ λb a=>br b (fb { nx:=j1 fc fb E n,ct:=j1 fc fb E n,bk:=E.nx,rt:=E.rt } a) (E.nx a)
@[irreducible] def cn(fc:FT)(fb:FS)(E:FEnds)(n:Nat)(ρ:FSt):Prop:=j1 fc fb E n ρ
def iu(fc:FT)(fb:FS)(E:FEnds)(n:Nat):cn fc fb E n=j1 fc fb E n:=by funext ρ;unfold cn;rfl
def qj(fc:FT)(fb:FS)(E:FEnds)(ρ:FSt):cn fc fb E 0 ρ=False:=by rw[iu];rfl
def jA(fc:FT)(fb:FS)(E:FEnds)(n:Nat)(ρ:FSt):cn fc fb E (n+1) ρ=fc ρ λb a=>br b (fb { nx:=cn fc fb E n,ct:=cn fc fb E n,bk:=E.nx,rt:=E.rt } a) (E.nx a):=by rw[iu,iu];rfl
def sV{fb:FS}(h:E.nx ρ):dm fg fb E [] ρ:=by rw[lm];exact h
def qk{fb:FS}(h:fg d ρ λa=>fb { nx:=dm fg fb E ds,ct:=dm fg fb E ds,bk:=E.nx,rt:=E.rt } a):dm fg fb E (d::ds) ρ:=by rw[lp];exact h
def mM{fb:FS}(h:fc ρ λb a=>br b (fb { nx:=cn fc fb E n,ct:=cn fc fb E n,bk:=E.nx,rt:=E.rt } a) (E.nx a)):cn fc fb E (n+1) ρ:=by rw[jA];exact h
def iw(fc:FT)(fb:FS):FS:=λD ρ=>∃n,cn fc fb D n ρ
section
variable {K:Frag}  
def Pin.refl{σ:St}(h:σ.length=n):Pin n m σ σ:=-{h,λ_ _=>rfl}
def Pin.set{x:Option V}(p:Pin n m σ0 σ)(hi:i∉m):Pin n m σ0 (σ.set i x):=-{by rw[aaF];exact p.1,λj a=>by
 rw[List.getElem?_set_ne λz=>hi (by rw[z];exact a)];exact p.2 j a}
def Do:SF K n m Bh aH:=-{fun {F Z H σ0 σ ρ A D a} R p E h=>E.nx _ _ _ _ _ (Same.refl _) R p h}
def xu:SF K n m qS Af:=-{fun {F Z H σ0 σ ρ A D a} R p E h=>E.bk _ _ _ _ _ (Same.refl _) R p h}
def Dp:SF K n m Bk Ic:=-{fun {F Z H σ0 σ ρ A D a} R p E h=>E.ct _ _ _ _ _ (Same.refl _) R p h}
def Ig{t u:TS}{f g:FS}(h1:SF K n m t f)(h2:SF K n m u g):SF K n m (K4 t u) (am f g):=-{fun {F Z H σ0 σ ρ A D b} R p E h=>
 h1.h (fD:={ b with nx:=λa=>ji a (g b) }) R p {λF' H' c a A' s e d q=>h2.h e d (E.mono s) ((di a (g b)).mp q),E.rt,E.bk,E.ct} h}
def LW{c:TT}{t u:TS}{f g:FS}(i:TF K (List.range n) c fc)(h1:SF K n m t f)(h2:SF K n m u g):SF K n m (K6 c t u) (fIf fc f g):=-{fun {F Z H σ0 σ ρ A D d} R p E h=>
 i.h (P:=λb a=>br b (f d a) (g d a)) (View.id p.1) R (by unfold fIf at h;exact h) λb a F1 H1 j q s e=>by
  cases b with
  |true=>exact h1.h e p (E.mono s) (sL q)
  |false=>exact h2.h e p (E.mono s) (sM q)}
def Ih(f:EF K (List.range n) te fe):SF K n m (K5 te) (bi fe):=-{by
 intro F Z H σ0 σ ρ A D i R p E h;refine f.h (View.id p.1) R h λr b v F1 H1 l j h1 c g v1 f1=>?_;split at h1
 .rename_i o a e;obtain⟨C,k,R2,d,f2,_,_⟩:=g.takeR v1 f1 e;exact E.rt _ _ _ _ _ _ _ _ c R2 p d f2 h1
 .exact h1.elim}
def Dq:SF K n m Bm Ie:=-{fun {F Z H σ0 σ ρ A D a} R p E h=>E.rt _ _ _ _ _ _ _ _ (Same.refl _) R p (.fz .non) Fresh.nil h}
def Dr(c:EF K (List.range n) te fe):SF K n m (v6 te) (bA fe):=-{fun {F Z H σ0 σ ρ A D e} R p E h=>
 c.h (View.id p.1) R h λr a v F1 H1 g f h1 b d v1 f1=>E.nx _ _ _ _ _ b d p h1}
def j2(n:Nat):∀j i:Nat,(List.range n)[j]?=!i->i=j:=-λj i h=>by
 obtain⟨h1,h2⟩:=List.getElem?_eq_some_iff.mp h;rw[List.getElem_range] at h2;exact h2.symm
def Ii(w:EF K (List.range n) te fe)(u:GF K (List.range n) T g fg)(x:∀i∈m,i∉T):SF K n m (pJ te g) (bX fe fg):=-{by
 intro F Z H σ0 σ ρ A D B R p E h;refine w.h (View.id p.1) R h λr j v F1 H1 J G h1 s y v1 f1=>?_;split at h1
 .rename_i d f e;obtain⟨C,I,o,R2,dn,_,_⟩:=y.frz v1 f1 e;refine u.h (View.id p.1) R2 dn h1 fun b c l A' q _ z k t a _=>?_;rw[a (j2 n) rfl];exact E.nx _ _ _ _ _ (s.trans o) z {t.trans p.1,λi hi=>by rw[k i (x i hi)];exact p.2 i hi} q
 .exact h1.elim}
def Ds(c:EF K (List.range n) te fe)(hi:i∉m):SF K n m (pJ te (eQ i)) (b9 i fe):=-{by
 intro F Z H σ0 σ ρ A D e R p E h;refine c.h (View.id p.1) R h λr a v F1 H1 k f h1 b d v1 f1=>?_
 cases r with
 | ov o=>
  obtain⟨g,R2,_⟩:=d.assign (i:=i) v1 f1;exact E.nx _ _ _ _ _ b R2 (p.set hi) h1
 |br j=>exact h1.elim}
def Ij{tb:TS}{fb:FS}(hi:ITF K (List.range n) wi fi)(Y:GF K (List.range n) T g fg)(hT:∀i∈m,i∉T)(hb:SF K n m tb fb):SF K n m (Lb wi g tb) (jz fi fg fb):=-{by
 intro F Z H σ0 σ ρ A D l R p E h;refine hi.h (View.id p.1) R h λds N J F1 H1 A1 h1 P R1 O=>?_;rw[di] at h1;refine{λi k s H'=>k=ds.length - i/\i<=ds.length/\∃F' t A',Same F1 F'/\Rel K F' Z H' s t A'/\Pin n m σ0 s/\dm fg fb l (ds.drop i) t,{_,rfl,aan _,F1,N,A1,Same.refl _,R1,p,by rw[aaR];exact h1},?_};rintro i k s H' ⟨rfl,X,F',t,A',s',G,L,h'⟩;by_cases f:i<ds.length
 .rw[aat f,lp] at h';refine .inr {O.go H' i (s'.trans G.fh) f,λj H2=>∃I c M,Same F1 I/\Rel K I Z H2 j c M/\Pin n m σ0 j/\dm fg fb l (ds.drop (i+1)) c,λj H2 q=>{_,(),rfl,f,q},λx H2 y=>?_};obtain⟨rfl,d,hd,dn⟩:=O.yld H' i x H2 (s'.trans G.fh) f y;rw[List.getElem?_eq_getElem f] at hd;cases hd;refine Y.h (View.id L.1) G (dn.mono s') h' fun S j c M q _ R2 k W Q _=>?_;rw[Q (j2 n) rfl]
  have C:∀r u a b w,Same F' r->Rel K r Z u a b w->Pin n m σ0 a->dm fg fb l (ds.drop (i+1)) b->∃I c M,Same F1 I/\Rel K I Z u a c M/\Pin n m σ0 a/\dm fg fb l (ds.drop (i+1)) c:=
   λr u a b w z R3 V U=>{r,b,w,s'.trans z,R3,V,U}
  refine hb.h (fD:={ nx:=dm fg fb l (ds.drop (i+1)),ct:=dm fg fb l (ds.drop (i+1)),bk:=l.nx,rt:=l.rt }) R2 {W.trans L.1,λi hi=>by rw[k i (hT i hi)];exact L.2 i hi} {C,λr u a b w v o B z=>E.rt r u a b w v o B (P.trans (s'.trans z)),λr u a b w z=>E.nx r u a b w (P.trans (s'.trans z)),C} q
 .have e:i=ds.length:=()
  subst e;rw[aaO,lm] at h';exact .inl {O.stop H' (s'.trans G.fh),E.nx _ _ _ _ _ (P.trans s') G L h'}}
def xv{c:TT}{tb:TS}{fb:FS}(L:TF K (List.range n) c fc)(M:SF K n m tb fb):SF K n m (qU c tb) (iw fc fb):=-{by
 intro F Z H σ0 σ ρ A D f R p E h;obtain⟨N,h⟩:=h;refine{λk j H'=>∃F' l A',Same F F'/\Rel K F' Z H' j l A'/\Pin n m σ0 j/\cn fc fb f k l,{N,F,ρ,A,Same.refl _,R,p,h},?_};rintro k j H' ⟨F',l,A',s',P,y,h'⟩
 cases k with
 |zero=>rw[qj] at h';exact h'.elim
 | succ k=>
  rw[jA] at h';refine L.h (View.id y.1) P h' λb G F1 H1 Q q x C=>?_
  cases b with
  |false=>exact E.nx _ _ _ _ _ (s'.trans x) C y (sM q)
  | true=>
   replace q:=sL q;rw[if_pos rfl]
   have u:∀g r a d s,Same F1 g->Rel K g Z r a d s->Pin n m σ0 a->cn fc fb f k d->∃w e z,Same F w/\Rel K w Z r a e z/\Pin n m σ0 a/\cn fc fb f k e:=
    λg r a d s t O J I=>{g,d,s,(s'.trans x).trans t,O,J,I}
   exact{λi H2=>∃w e z,Same F w/\Rel K w Z H2 i e z/\Pin n m σ0 i/\cn fc fb f k e,λi H2 q=>{k,aaD k,q},
    M.h (fD:={ nx:=cn fc fb f k,ct:=cn fc fb f k,bk:=f.nx,rt:=f.rt }) C y {u,λg r a d s v o B t=>E.rt g r a d s v o B ((s'.trans x).trans t),λg r a d s t=>E.nx g r a d s ((s'.trans x).trans t),u} q}}
end
def nZ(fg:FG)(ft:FT)(fe:FE)(P:↥D->FSt->Prop):↥D->↥D->FSt->Prop
 |[],as,ρ=>P as ρ
 | d::ds,as,ρ=>fg d ρ λf=>ft f λb a=>br b (fe a λr e=>match fzR r e with
  |some (y,c)=>as.length<sizeLine/\nZ fg ft fe P ds (as++[y]) c
  |none=>False) (nZ fg ft fe P ds as a)
@[irreducible] def ei(fg:FG)(ft:FT)(fe:FE)(P:↥D->FSt->Prop)(ds as:↥D)(ρ:FSt):Prop:=nZ fg ft fe P ds as ρ
def j3(fg:FG)(ft:FT)(fe:FE)(P:↥D->FSt->Prop)(ds:↥D):ei fg ft fe P ds=nZ fg ft fe P ds:=by funext as ρ;unfold ei;rfl
def iy(fg:FG)(ft:FT)(fe:FE)(P:↥D->FSt->Prop)(as:↥D)(ρ:FSt):ei fg ft fe P [] as ρ=P as ρ:=by rw[j3];rfl
def iz(fg:FG)(ft:FT)(fe:FE)(P:↥D->FSt->Prop)(d:D)(ds as:↥D)(ρ:FSt):ei fg ft fe P (d::ds) as ρ=(fg d ρ λf=>ft f λb a=>br b (fe a λr e=>match fzR r e with
  |some (y,c)=>as.length<sizeLine/\ei fg ft fe P ds (as++[y]) c
  |none=>False) (ei fg ft fe P ds as a)):=by rw [j3,j3];rfl
def sW{P:↥D->FSt->Prop}(h:P as ρ):ei fg ft fe P [] as ρ:=by rw[iy];exact h
def ql{P:↥D->FSt->Prop}(h:fg d ρ λf=>ft f λb a=>br b (fe a λr e=>match fzR r e with
  |some (y,c)=>as.length<sizeLine/\ei fg ft fe P ds (as++[y]) c
  |none=>False) (ei fg ft fe P ds as a)):ei fg ft fe P (d::ds) as ρ:=by rw [iz];exact h
def Ik(no:Nat)(fi:FI)(fg:FG)(ft:FT)(fe:FE):FE:=λρ Q=>fi ρ λds ρ1=>ji (List.replicate no none++ρ1) (ei fg ft fe (λas a=>Q (.ov (.fl as)) (a.drop no)) ds [])
def muC(no:Nat)(ixs μ:↥Nat):↥Nat:=List.range no++ixs.map λj=>no+μ.getD j 0
section
variable {K:Frag}     
theorem Slots.none_app{K:Frag}{F H:Hp}{σ:St}{ρ:FSt}{A:↥Addr}(h:Slots K F H σ ρ A):∀n,Slots K F H (List.replicate n none++σ) (List.replicate n none++ρ) A
 |0=>h
 |n+1=>.skip (Slots.none_app h n)
def Slots.dropN{K:Frag}(n:Nat)(h:Slots K F H σ ρ A):∃A' B,A=B++A'/\Slots K F H (σ.drop n) (ρ.drop n) A':=by
 induction h generalizing n with
 |nil=>cases n <;> exact{[],[],rfl,.nil}
 | skip t a=>
  cases n with
  |zero=>exact {_,[],rfl,.skip t}
  |succ n=>exact a n
 | @has _ _ _ _ C _ h t a=>
  cases n with
  |zero=>exact {_,[],rfl,.has h t}
  | succ n=>
   obtain⟨A',B,rfl,h2⟩:=a n;exact{A',C++B,by rw[aay],h2}
def Rel.write{o:HO}(R:Rel K F Z H σ ρ A)(g:a∉A)(f:F a=none)(d:Z a=none):Rel K F Z (upd H a o) σ ρ A:=by
 have e:∀b u,b≠a->H b=!u->upd H a o b=!u:=λb u h q=>by rw[aj h];exact q
 exact{R.sl.keep (Same.refl _) λb u c q=>e b u (λz=>g (z ▸ c)) q,R.nd,R.fr,λb u q=>e b u (λz=>by rw[z,f] at q;cases q) (R.fh b u q),{λb u q=>e b u (λz=>by rw[z,d] at q;cases q) (R.zh.s b u q),R.zh.n},R.dj}
def fB{b:St}(e:View μ b σ)(d:∀j∈ixs,j<μ.length):View (muC no ixs μ) (List.replicate no none++lh b ixs) (List.replicate no none++σ):=by
 intro j i h;unfold muC at h;by_cases a:j<no
 .rw[List.getElem?_append_left (by exists a)] at h;have:=j2 no j i h;subst this;rw[List.getElem?_append_left (by exists a),List.getElem?_append_left (by exists a)];refine{rfl,?_,?_} <;> simp <;> nofun
 .rw[List.getElem?_append_right (by exists a)] at h;rw[ab8,List.getElem?_map,aaj] at h;obtain⟨j0,h1,h2⟩:=h;have c:=d j0 (List.mem_of_getElem? h1);obtain⟨v1,f,g⟩:=e j0 (μ.getD j0 0) (by rw[List.getD_eq_getElem?_getD,List.getElem?_eq_getElem c];rfl);have k:j - no<ixs.length:=(List.getElem?_eq_some_iff.mp h1).1;refine{?_,?_,?_}
  .rw[List.getElem?_append_right (by exists a),aaE,← h2,List.getElem?_append_right (by simp),aaE,aba,← v1];unfold lh;rw[List.getElem?_map,h1];show ↑((b[j0]?).getD none)=b[j0]?;rw[List.getElem?_eq_getElem f];rfl
  .unfold lh;simp;nofun
  .simp;nofun
abbrev Il(K:Frag)(fg:FG)(fc:FT)(fe:FE)(P:RV->FSt->Prop)(no:Nat)(m:↥Nat)(F1 Z:Hp)(σ:St)(a:Addr)(rest:↥D)(acc:↥V)(d:St)(H':Hp):Prop:=
 ∃F' b A' c as,Same F1 F'/\Rel K F' Z H' c b A'/\View m d c/\(∀i,no<=i->c[i]?=(List.replicate no none++σ)[i]?)/\H' a=!(.lst acc)/\F' a=none/\a∉A'/\Dens K F' acc as /\
   ei fg fc fe (λas b=>P (.ov (.fl as)) (b.drop no)) rest as b
def Dt(hi:ITF K μ wi fi)(hix:∀j∈ixs,j<μ.length)(hg:GF K (muC no ixs μ) T g fg)(hT:∀i∈T,i<no)
  (hc:TF K (muC no ixs μ) tc fc) (he:EF K (muC no ixs μ) te fe):EF K μ (dZ no ixs wi g tc te) (Ik no fi fg fc fe):=-{by
 intro F Z H τ σ ρ A Q P vw R h q;refine hi.h vw R h λds ρ1 J F1 H1 A1 h1 s1 X wk=>?_;rw[di] at h1;intro a ha;have N:F1 a=none:=X.fh.free ha;have C:Z a=none:=X.zh.free ha
 have U:a∉A1:=λz=>by
  obtain⟨u,hu⟩:=X.sl.live a z;rw[ha] at hu;cases hu
 have R1':Rel K F1 Z (upd H1 a (.lst [])) (List.replicate no none++σ) (List.replicate no none++ρ1) A1:=by
  have:=X.write (o:=.lst []) U N C;exact{this.sl.none_app no,this.nd,this.fr,this.fh,this.zh,this.dj}
 have L:∀F' H' f l A' acc as,Same F1 F'->Rel K F' Z H' f l A'->(∀i,no<=i->f[i]?=(List.replicate no none++σ)[i]?)->H' a=!(.lst acc)->F' a=none->a∉A'->Dens K F' acc as->P (.ov (.fl as)) (l.drop no)->Q (.ref a) H':=by
  intro F' H' f l A' acc as s' c k ha' hF' hA' dn p;obtain⟨Y,B2,e2,G⟩:=c.sl.dropN no
  have es:f.drop no=σ:=by
   apply List.ext_getElem?;intro i;rw[List.getElem?_drop,k (no+i) (by omega),List.getElem?_append_right (by simp),aaE,aba]
  rw[es] at G;have W:∀b∈Y,b∈A':=λb w=>by rw[e2];exact abQ.mpr (.inr w)
  have R2:Rel K F' Z H' σ (l.drop no) Y:={G,by have:=c.nd;rw[e2,abH] at this;exact this.2.1,λb w=>c.fr b (W b w),c.fh,c.zh,c.dj}
  exact q _ _ _ _ _ _ [a] p (s1.trans s') R2 (.fl ha' dn) {by simp,λb w=>by
   have:b=a:=(by exists w);subst this;exact{hF',C,λz=>hA' (W _ z)}}
 refine{λi k acc n H'=>k=ds.length - i/\i<=ds.length/\Il K fg fc fe P no (muC no ixs μ) F1 Z σ a (ds.drop i) acc n H',
  {_,rfl,aan _,F1,_,A1,_,[],Same.refl _,R1',fB vw hix,λ_ _=>rfl,ag,N,U,.nil,by rw[aaR];exact h1},?_}
 rintro i k acc n H' ⟨rfl,hle,F',l,A',f,as,s',c,vw',kp,O,M,S,dn,h'⟩;by_cases m:i<ds.length
 .rw[aat m,iz] at h';refine .inr {wk.go H' i (s'.trans c.fh) m,λacc n H'=>Il K fg fc fe P no (muC no ixs μ) F1 Z σ a (ds.drop (i+1)) acc n H',λacc' s H2 z=>{_,by omega,rfl,m,z},λx H2 y=>?_};obtain⟨rfl,d,hd,dx⟩:=wk.yld H' i x H2 (s'.trans c.fh) m y;rw[List.getElem?_eq_getElem m] at hd;cases hd;refine hg.h vw' c (dx.mono s') h' fun τ2 s ρ2 Y p2 t R2 k2 kl2 _ W=>?_
  have I:∀i,no<=i->s[i]?=(List.replicate no none++σ)[i]?:=λi hi=>by
   rw[k2 i λz=>by have:=hT i z;omega];exact kp i hi
  have fD:Fresh F' Z Y [a]:={by simp,λb w=>by
   have:b=a:=(by exists w);subst this;exact{M,C,λz=>S (W _ z)}}
  obtain⟨Z',sz,R2',zl,back⟩:=R2.hold (B:=[a]) (λb w=>by
   have:b=a:=(by exists w);subst this;exact{_,O}) (.one O (λ_ z=>nomatch z) .nil) fD
  refine hc.h t R2' p2 λb ρ3 F3 H3 A3 E D R3=>?_
  cases b with
  | false=>
   replace E:=sM E;rw[if_neg abU];obtain⟨R3',f3,k3⟩:=back _ _ _ _ D R3;have fa:=f3.fr a (by simp);exact{F3,ρ3,A3,s,as,s'.trans D,R3',t,I,k3 a _ (by simp) O,fa.1,fa.2.2,dn.mono D,E}
  | true=>
   replace E:=sL E;rw[if_pos rfl];refine he.h t R3 E λr ρ4 v F4 H4 A4 B4 V s4 R4 v4 f4=>?_;split at V
   .rename_i y ρ5 e5;obtain⟨F5,A5,s5,R5,dy,_,_⟩:=R4.frz v4 f4 e5;obtain⟨R5',f5,k5⟩:=back _ _ _ _ ((D.trans s4).trans s5) R5;have fa:=f5.fr a (by simp);refine{k5 a _ (by simp) O,by rw[dn.length];exact V.1,F5,ρ5,A5,s,as++[y],((s'.trans D).trans s4).trans s5,R5'.write fa.2.2 fa.1 C,t,I,ag,fa.1,fa.2.2,(dn.mono ((D.trans s4).trans s5)).snoc dy,V.2}
   .exact V.elim
 .have e:i=ds.length:=by omega
  subst e;rw[aaO,iy] at h';exact .inl {wk.stop H' (s'.trans c.fh),L _ _ _ _ _ _ _ s' c kp O M S dn h'}}
def unL(ρ:FSt)(i:Nat):Option ↥D:=match ρ[i]? with
 |some ↑(.fl ds)=>!ds
 |_=>none
def unD(ρ:FSt)(i:Nat):Option (↥Key×↥D):=match ρ[i]? with
 |some ↑(.fd ks ds)=>!(ks,ds)
 |_=>none
def Im(h:unL ρ i=!ds):ρ[i]?=!!(.fl ds):=by
 unfold unL at h;split at h
 .rename_i os e;cases h;exact e
 .cases h
def lq(h:unD ρ i=!(ks,ds)):ρ[i]?=!!(.fd ks ds):=by
 unfold unD at h;split at h
 .rename_i a os e;cases h;exact e
 .cases h
def Rel.mutL(R:Rel K F Z H σ ρ A)(h:unL ρ i=!ds):∃a xs,σ[i]?=!!(.ref a)/\H a=!(.lst xs)/\Dens K F xs ds /\
  ∀b c,Dens K F b c->∃A',Rel K F Z (upd H a (.lst b)) σ (ρ.set i !(.fl c)) A':=by
 have e:=Im h;obtain⟨v,B,A',h1,h2,k,f,pm⟩:=R.takeI e
 cases h2 with
 | @fl a xs os j dn=>
  have fa:=f.fr a (by simp);refine{a,xs,h1,j,dn,λb c d=>?_};have R2:=k.write (o:=.lst b) fa.2.2 fa.1 fa.2.1;obtain⟨l,g,_⟩:=R2.putI (cT e) h1 (.fl ag d) f;rw[aa5] at g;exact{(l),g}
def Rel.mutD(R:Rel K F Z H σ ρ A)(h:unD ρ i=!(ks,ds)):∃a ys,σ[i]?=!!(.ref a)/\H a=!(.dK ys)/\ys.map (·.1)=ks/\Dens K F (ys.map (·.2)) ds /\
  ∀b c d,b.map (·.1)=c->Dens K F (b.map (·.2)) d->∃A',Rel K F Z (upd H a (.dK b)) σ (ρ.set i !(.fd c d)) A':=by
 have e:=lq h;obtain⟨v,B,A',h1,h2,n,j,pm⟩:=R.takeI e
 cases h2 with
 | @fd a ys ks os l m dn=>
  have fa:=j.fr a (by simp);refine{a,ys,h1,l,m,dn,λb c d f g=>?_};have R2:=n.write (o:=.dK b) fa.2.2 fa.1 fa.2.1;obtain⟨p,k,_⟩:=R2.putI (cT e) h1 (.fd ag f g) j;rw[aa5] at k;exact{(p),k}
def qm(i:Nat)(fe:FE):FE:=λρ Q=>(unL ρ i).isSome=true/\fe ρ λr b=>match fzR r b with
 | some (d,a)=>(match unL a i with
  |some ds=>ds.length<sizeLine/\Q (.ov (.fz .non)) (a.set i !(.fl (ds++[d])))
  |none=>False)
 |none=>False
def Io(p:μ[j]?=!i)(s:EF K μ te fe):EF K μ (tBM K "list" dY (cV j) (cQ te ja)) (qm i fe):=-{by
 intro F Z H D σ ρ A Q P k R h q;obtain⟨t,h⟩:=h;obtain⟨z,x⟩:=ab4.mp t;obtain⟨a,xs,h1,h2,E,_⟩:=R.mutL x;refine{.ref a,(k j i p).1.trans h1,.inl {rfl,xs,SqL.of h2},?_};refine s.h k R h λr m v F1 H1 N J b o C v1 f1=>?_;split at b
 .rename_i d l w;obtain⟨I,M,n,R2,y,_,_⟩:=C.frz v1 f1 w;split at b
  .rename_i ds u;obtain⟨G,c,f,g,e,mt⟩:=R2.mutL u;rw[h1] at f;cases f;obtain⟨L,B⟩:=mt (c++[v]) (ds++[d]) (e.snoc y);exact{a,c,v,rfl,rfl,g,by rw[e.length];exact b.1,q _ _ _ _ _ _ _ b.2 (o.trans n) B (.fz .non) Fresh.nil}
  .exact b.elim
 .exact b.elim}
def n8(i:Nat)(fe fk:FE):FS:=λE ρ=>fe ρ λr c=>match fzR r c with
 | some (d,b)=>(unL b i).isSome=true/\fk b λs a=>on1 a s λe=>(match e,unL a i with
  | .int k,↑ds=>(match ixN ds.length k with
   |some x=>E.nx (a.set i !(.fl (ds.set x d)))
   |none=>False)
  |_,_=>False)
 |none=>False
def ml:D->Option Key
 |.int i=>!(.inl i)
 |.str z=>!(.inr z)
 |_=>none
def iA(ks:↥Key)(ds:↥D)(k:Key)(d:D):↥Key×↥D:=
 if (ks.any λx=>decide (x=k))=true then (ks,(ks.zip ds).map λa=>if a.1=k then d else a.2) else (ks++[k],ds++[d])
def sX(i:Nat)(fe fk:FE):FS:=λE ρ=>fe ρ λr c=>match fzR r c with
 | some (d,b)=>(unD b i).isSome=true/\fk b λs a=>on1 a s λe=>(match ml e,unD a i with
  |some k,↑(ks,ds)=>ks.length<sizeLine/\E.nx (a.set i !(.fd (iA ks ds k d).1 (iA ks ds k d).2))
  |_,_=>False)
 |none=>False
def eW{k:Key}(h:Acc K F H v d)(e:ml d=!k):v=kV k:=by
 cases d with
 |int i=>simp only[ml,Option.some.injEq] at e;subst e;exact h.int_eq
 |str z=>simp only[ml,Option.some.injEq] at e;subst e;exact h.str_eq
 |_=>simp[ml] at e
def n9{k:Key}(e:ys.map (·.1)=ks)(dn:Dens K F (ys.map (·.2)) ds)(g:Den K F v d):(ia ys k v).map (·.1)=(iA ks ds k d).1/\Dens K F ((ia ys k v).map (·.2)) (iA ks ds k d).2:=by
 have j:ys.length=ds.length:=by have:=dn.length;simpa using this
 unfold iA ia;have f:(ks.any λx=>decide (x=k))=(ys.any λb=>decide (b.1=k)):=by rw[← e,abw];rfl
 by_cases c:(ks.any λx=>decide (x=k))=true
 .have a:(ys.any λb=>decide (b.1=k))=true:=f ▸ c;rw[if_pos a,if_pos c];constructor
  .rw[aav,← e];refine abr λb _=>?_;show (if b.1=k then (b.1,v) else b).1=b.1;split <;> rfl
  .subst e;clear c a j f
   induction ys generalizing ds with
   |nil=>cases dn;exact .nil
   | cons y ys i=>
    cases dn with
    | cons m l=>
     refine .cons ?_ (i l);show Den K F (if y.1=k then (y.1,v) else y).2 (if y.1=k then d else _);split
     .exact g
     .exact m
 .have a:¬(ys.any λb=>decide (b.1=k))=true:=f ▸ c;rw[if_neg a,if_neg c];refine{by rw[aae,e];rfl,?_};rw[aae];exact dn.snoc g
def xw{l:TE}(J:i<n)(L:EF K (List.range n) te fe)(I:EF K (List.range n) l fk):SF K n m (pJ te (La (cV i) l BR)) (n8 i fe fk):=-{by
 intro F Z H σ0 σ ρ A D X R p E h;refine L.h (View.id p.1) R h λr y v F1 H1 A1 B1 e C V v1 f1=>?_;split at e
 .rename_i d u P;obtain⟨F2,A2,B,R2,S,_,_⟩:=V.frz v1 f1 P;obtain⟨M,e⟩:=e;obtain⟨T,Q⟩:=ab4.mp M;obtain⟨a,xs,h1,h2,W,_⟩:=R2.mutL Q;refine{.ref a,h1,?_};refine I.h (View.id p.1) R2 e λs t w F3 H3 A3 B3 G o q z Y=>?_;obtain⟨dk,N,c⟩:=b4 G;split at c
  .rename_i k ds O;split at c
   .rename_i x ex;obtain⟨a',b,g,j,f,mt⟩:=q.mutL O;rw[h1] at g;cases g;obtain⟨A4,U⟩:=mt (b.set x v) (ds.set x d) (f.set (S.mono o) x);exact{a,b,k,x,rfl,(q.acc z N).int_eq,j,by rw[f.length];exact ex,E.nx _ _ _ _ _ ((C.trans B).trans o) U p c}
   .exact c.elim
  .exact c.elim
 .exact e.elim}
def Du(N:EF K (List.range n) tv fe)(M:EF K (List.range n) ty fk):SF K n m (wu (cV i) ty tv) (sX i fe fk):=-{by
 intro F Z H σ0 σ ρ A D fD R p E h;refine N.h (View.id p.1) R h λr j v F1 H1 A1 B1 c B R1 v1 f1=>?_;generalize T:fzR r j=o at c;obtain _|⟨d,x⟩:=o
 .exact False.elim c
 .obtain⟨F2,A2,z,R2,V,_,_⟩:=R1.frz v1 f1 T;obtain⟨O,c⟩:=c;obtain⟨⟨J,W⟩,U⟩:=ab4.mp O;obtain⟨a,xs,h1,h2,h3,_⟩:=R2.mutD U;refine{.ref a,h1,?_};refine M.h (View.id p.1) R2 c λs g w F3 H3 A3 B3 I t u y f3=>?_;obtain⟨X,P,b⟩:=b4 I;generalize Q:ml X=o at b;generalize S:unD g i=o' at b;obtain _|k:=o
  .exact False.elim b
  obtain _|⟨ks,ds⟩:=o'
  .exact False.elim b
  .obtain⟨a',ys,f,q,e,l,mt⟩:=u.mutD S;rw[h1] at f;cases f;obtain⟨G,C⟩:=n9 (k:=k) e l (V.mono t);obtain⟨A4,Y⟩:=mt (ia ys k v) _ _ G C;have L:ys.length=ks.length:=by rw[← e,abP]
   exact{a,_,rfl,.inl {ys,k,q,eW (u.acc y P) Q,by rw[L];exact b.1,rfl},E.nx _ _ _ _ _ ((B.trans z).trans t) Y p b.2}}
end
def outs(m:↥Nat):Nat->↥OV->FSt->Option ↥OV
 |_,[],_=>![]
 | i,o::os,ρ=>if m.contains i=true then (match ρ[i]? with
   |some ↑o'=>(outs m (i+1) os (ρ.set i none)).map (o'::·)
   |_=>none) else (outs m (i+1) os ρ).map (o::·)
def sY:OV->Bool
 |.fz _=>true
 |_=>false
def fin(m:↥Nat)(os:↥OV)(P:OV->↥OV->Prop)(o:OV)(ρ:FSt):Prop:=match outs m 0 os ρ with
 |some a=>P o a
 |none=>False
def ao(n:Nat)(os:↥OV):FSt:=os.map some++List.replicate (n - os.length) none
section
variable {K:Frag}
def Ows.length{F H:Hp}{vs:↥V}{os:↥OV}{A:↥Addr}(h:Ows K F H vs os A):vs.length=os.length:=by
 induction h with
 |nil=>rfl
 |cons _ t a=>exact congrArg (·+1) a
def Slots.nones(k:Nat):Slots K F H (List.replicate k none) (List.replicate k none) []:=by
 induction k with
 |zero=>exact .nil
 |succ k a=>exact .skip a
def Slots.of_ows(k:Nat){os:↥OV}(h:Ows K F H vs os A):Slots K F H (vs.map some++List.replicate k none) (os.map some++List.replicate k none) A:=by
 induction h with
 |nil=>exact Slots.nones k
 |cons h t a=>exact .has h a
def Rel.outs :∀{vs:↥V} {os:↥OV} {C:↥Addr} {i:Nat} {ρ:FSt} {A:↥Addr} {c:↥OV},Ows K F H vs os C->Same F F'->(∀j o,os[j]?=!o->i+j∉m->sY o=true) ->
  (∀j v,vs[j]?=!v->i+j∈m->σ[i+j]?=!!v)->Rel K F' Z H' σ ρ A->L2.outs m i os ρ=!c->∃C' A':↥Addr,Ows K F' H' vs c C'/\Rel K F' Z H' σ ρ A/\C'.Nodup/\(∀a,a∈C'->a∈A/\a∉A')/\(∀a,a∈A'->a∈A):=by
 intro vs
 induction vs with
 | nil=>
  intro os C i ρ A c h s x B R e;cases h;simp only[L2.outs,Option.some.injEq] at e;subst e;exact{[],A,.nil,R,aaH,λ_ z=>(nomatch z),λ_ z=>z}
 | cons v vs I=>
  intro os C i ρ A c h s x B R e
  cases h with
  | @cons _ o _ os T S h t=>
   simp only[L2.outs] at e;have g:∀j o,os[j]?=!o->i+1+j∉m->sY o=true:=λj o q n=>x (j+1) o (by exists q) (by rw[show i+(j+1)=i+1+j from ()];exact n)
   have k:∀j v,vs[j]?=!v->i+1+j∈m->σ[i+1+j]?=!!v:=λj v q n=>by
    have:=B (j+1) v (by exists q) (by rw[show i+(j+1)=i+1+j from ()];exact n);rw[show i+1+j=i+(j+1) from ()];exact this
   split at e
   .rename_i d;have d:i∈m:=(by exists d);split at e
    .rename_i o' M;rw[aaj] at e;obtain⟨u,E,rfl⟩:=e;obtain⟨L,Q,A',h1,h2,P,D,pm⟩:=R.takeI M;have J:=B 0 v rfl (by exists d);rw[Nat.add_zero] at J;have:L=v:=by rw[J] at h1;simpa using h1.symm
     subst this;obtain⟨C',G,r,_,w,f,p⟩:=I t s g k P E;refine{Q++C',G,.cons h2 r,R,ab0.mpr {D.nd,w,λa l b O z=>(D.fr a l).2.2 (by rw[z];exact(f b O).1)},λa l=>?_,λa l=>pm.mem_iff.mpr (abQ.mpr (.inr (p a l)))};rcases abQ.mp l with z|z
     .exact{pm.mem_iff.mpr (abQ.mpr (.inl z)),λy=>(D.fr a z).2.2 (p a y)}
     .exact{pm.mem_iff.mpr (abQ.mpr (.inr (f a z).1)),(f a z).2}
    .cases e
   .rename_i d;rw[aaj] at e;obtain⟨u,E,rfl⟩:=e;have d:i∉m:=(by exists d);have N:=x 0 o rfl (by exists d);obtain⟨C',G,r,_,w,f,p⟩:=I t s g k R E
    cases h with
    |fz dn=>exact{C',G,.cons (.fz (dn.mono s)) r,R,w,f,p}
    |_=>simp[sY] at N
def Fun.okF{P:Program}{mg:Str->Option Value}{base:Heap}{qual:Str}{st:Stmt}{f:Addr}{fd:FuncData}{N ps:↥Str}{k:Nat}{fs:FS}(F:Fun K x qual st f fd)(S:FnScope N ps (av st))
  (hN:ps.length<=N.length) (p:∀os P,c os P->os.length=ps.length/\∀j o,os[j]?=!o->j∉m->sY o=true) (hm:∀i∈m,i<ps.length)
  (y:∀(cdv:Value) (A:Around) (outer:↥Env) (s:Shared) (H:Hp) (E:XK),Room k (A.deeper (envOfC qual (av st) s.heap.objs.size f cdv)) ->
   ∃t,BSs (rA CX0 P w K mg base N qual (av st) f cdv A outer s H E).nox (bu st) t/\SF K N.length m t fs)
  (hc:∀os P,c os P->fs { nx:=fin m os P (.fz .non),rt:=fin m os P } (ao N.length os)):FnOk P w K mg base CX0 (k+1) f fd ps (spM K c):=by
 refine F.okB S (λvs H Q E h=>?_) (λcdv A outer s H vs Q E hr h=>?_)
 .obtain⟨F1,Z,os,C,u,_,_,_,G,_,_,r,_⟩:=h;rw[G.length];exact(p os u r).1
 .obtain⟨F1,Z,os,C,u,V,sz,dj,G,nd,fr,r,q⟩:=h;obtain⟨t,Y,hs⟩:=y cdv A outer s H E hr;refine{t,Y,?_};have hl:=(p os u r).1;have M:=G.length
  have R:Rel K F1 Z H (start N vs) (ao N.length os) C:=by
   refine{?_,nd,fr,V,sz,dj};unfold start ao;rw[M];exact Slots.of_ows _ G
  have hn:(start N vs).length=N.length:=by unfold start;simp;nofun
  have d:∀F' H' g l A' v o B,Same F1 F'->Rel K F' Z H' g l A'->Pin N.length m (start N vs) g->Ow K F' H' v o B->Fresh F' Z A' B->fin m os u o l->Q v H':=by
   intro F' H' g l A' v o B s' D J W I h';unfold fin at h';split at h'
   .rename_i L e
    obtain⟨C',A2,U,_,X,T,m2⟩:=Rel.outs (i:=0) G s' (λj o q n=>(p os u r).2 j o q (by exists n)) (λj v q n=>by
     have hj:j<vs.length:=(List.getElem?_eq_some_iff.mp q).1;rw[Nat.zero_add] at n ⊢;rw[J.2 j n];unfold start;rw[List.getElem?_append_left (by exists hj),List.getElem?_map,q];rfl) D e
    refine q o L v F' H' C' B h' s' D.fh D.zh.s D.dj U W (ab0.mpr {X,I.nd,λa O b hb z=>(I.fr b hb).2.2 (by rw[← z];exact(T a O).1)}) λa O=>?_;rcases abQ.mp O with z|z
    .exact D.fr a (T a z).1
    .exact{(I.fr a z).1,(I.fr a z).2.1}
   .exact h'.elim
  exact hs.h (fD:={ nx:=fin m os u (.fz .non),rt:=fin m os u }) R (Pin.refl hn) {λF' H' g l A' s' D J h'=>d F' H' g l A' .non (.fz .non) [] s' D J (.fz .non) Fresh.nil h',
   d,λ_ _ _ _ _ _ _ _ z=>z.elim,λ_ _ _ _ _ _ _ _ z=>z.elim} (hc os u r)
end
def MX:R2:=λx y H Q=>∃a v,x=.ref a/\DGet H a y !v/\Q v H
def Dv(e:X.A.units+1<cLine):IxR X MX:=by
 intro value slice pins s σ H x y v u Q I d c h hs;obtain⟨a,z,rfl,g,q⟩:=h;cases d;exact tail_any (mH I g) PySem.F.slot_dict_getitem.lookup (rG e I g c λi j f b=>{(z),H,f,b,q}) hs
def Dw(K:Frag):R2:=λx y H Q=>rIx K x y H Q∨MX x y H Q
def MY:R2:=λx y H Q=>∃a o,y=.ref a/\DGet H a x o/\Q (.bl o.isSome) H
def sZ:R2:=λx y H Q=>∃a o,y=.ref a/\DGet H a x o/\Q (.bl (⇑o.isSome)) H
def Ip(d:X.A.units+1<cLine):OpR X (compareOp .In) MY:=by
 intro pins s σ H x y v u Q I c b h;obtain⟨a,o,rfl,g,q⟩:=h;cases b;exact d_in d I g c λf e=>{.bl o.isSome,H,e,rfl,q}
def tf(d:X.A.units+1<cLine):OpR X (compareOp .NotIn) sZ:=by
 intro pins s σ H x y v u Q I c b h;obtain⟨a,o,rfl,g,q⟩:=h;cases b;exact BV d I g c λf e=>{.bl (⇑o.isSome),H,e,rfl,q}
def LX(K:Frag):R2:=λx y H Q=>MT K x y H Q∨MY x y H Q
def tj(K:Frag):R2:=λx y H Q=>r9 K x y H Q∨sZ x y H Q
def Dx(K:Frag)(a:X.A.units+64<cLine)(h:X.K=K):BOp X (compareOp .In) (LX K):=by subst h;exact{OpR.or G5 (Ip ())}
def qo(K:Frag)(a:X.A.units+64<cLine)(h:X.K=K):BOp X (compareOp .NotIn) (tj K):=by subst h;exact{OpR.or sd (tf ())}
def Iq{a b:Expr}(K:Frag)(f:X.A.units+64<cLine)(d:BE X a ta)(c:BE X b tb)(hs:∀o i,subscripted b false o i=operate [o,i] (getItem o i))(e:X.K=K):BE X (.Subscript a b pos) (tOp (Dw K) ta tb):=by
 subst e;exact{Lo (IxR.or GR (Dv ())) d.h c.h hs}
def Ir(b:Int->Int->Bool)(a:Str->Str->Bool):R2:=λx y H Q=>(∃i j,x=.int i/\y=.int j/\Q (.bl (b i j)) H)∨∃i j,x=.str i/\y=.str j/\Q (.bl (a i j)) H
def a8(x y:Str):Bool:=decide (x.cps.toList<y.cps.toList)
def Iu:OpR X (compareOp .Lt) (λx y H Q=>∃i j,x=.str i/\y=.str j/\Q (.bl (a8 i j)) H):=by
 intro pins s σ H x y v u Q I b a h;obtain⟨i,j,rfl,rfl,q⟩:=h;obtain⟨t,rfl⟩:=b;obtain⟨t',rfl⟩:=a;exact PyProof.Rows.lt_str {.bl _,H,I,rfl,q}
def Iv:OpR X (compareOp .LtE) (λx y H Q=>∃i j,x=.str i/\y=.str j/\Q (.bl (⇑(a8 j i))) H):=by
 intro pins s σ H x y v u Q I b a h;obtain⟨i,j,rfl,rfl,q⟩:=h;obtain⟨t,rfl⟩:=b;obtain⟨t',rfl⟩:=a;refine PySem.P.le_str {.bl _,H,I,rfl,?_};have e:decide (¬(j.cps.toList<i.cps.toList))=⇑(a8 j i):=by unfold a8;rw[decide_not]
 first|exact q|(rw[← e] at q;exact q)|(simpa [a8] using q)
def Iw:OpR X (compareOp .Gt) (λx y H Q=>∃i j,x=.str i/\y=.str j/\Q (.bl (a8 j i)) H):=by
 intro pins s σ H x y v u Q I b a h;obtain⟨i,j,rfl,rfl,q⟩:=h;obtain⟨t,rfl⟩:=b;obtain⟨t',rfl⟩:=a;exact PySem.P.gt_str {.bl _,H,I,rfl,q}
def Iy:OpR X (compareOp .GtE) (λx y H Q=>∃i j,x=.str i/\y=.str j/\Q (.bl (⇑(a8 i j))) H):=by
 intro pins s σ H x y v u Q I b a h;obtain⟨i,j,rfl,rfl,q⟩:=h;obtain⟨t,rfl⟩:=b;obtain⟨t',rfl⟩:=a;refine PySem.P.ge_str {.bl _,H,I,rfl,?_};have e:decide (¬(i.cps.toList<j.cps.toList))=⇑(a8 i j):=by unfold a8;rw[decide_not]
 first|exact q|(rw[← e] at q;exact q)|(simpa [a8] using q)
def Dy:BOp X (compareOp .Lt) (Ir (λi j=>decide (i<j)) a8):=-{OpR.or Li Iu}
def Dz:BOp X (compareOp .LtE) (Ir (λi j=>decide (i<=j)) λi j=>⇑(a8 j i)):=-{OpR.or Lj Iv}
def DA:BOp X (compareOp .Gt) (Ir (λi j=>decide (j<i)) λi j=>a8 j i):=-{OpR.or Lk Iw}
def DB:BOp X (compareOp .GtE) (Ir (λi j=>decide (j<=i)) λi j=>⇑(a8 i j)):=-{OpR.or Ll Iy}
def tyD:D->String
 |.non => "NoneType"
 |.bl _ => "bool"
 |.int _ => "int"
 |.str _ => "str"
 |.lst _ => "list"
 |.tup _ => "tuple"
 |.dct _ _ => "dict"
 |.ty _ => "type"
 |.opq _ _ => "dict"
 |.gt _ => "tuple"
 |.dt _ _ => "dict"
def DC(T:String):Bool:=T == "str" || T == "int" || T == "bool" || T == "list" || T == "tuple" || T == "dict" || T == "NoneType"
def tm{T:String}(h:DC T=true):okT T:=by
 simp only[DC,Bool.or_eq_true,beq_iff_eq] at h;unfold okT;rcases h with (((((h|h)|h)|h)|h)|h)|h <;> simp[h]
def LY(K:Frag):↥V->Hp->VK->Prop:=λxs H Q=>∃x d T,xs=[x,.ty T]/\Den K H x d/\DC (tyD d)=true/\DC T=true/\Q (.bl (isT (tyD d) T)) H
def xx:CallR X (.builtin "isinstance") (LY X.K):=by
 intro pins s σ H xs us Q I r h;obtain⟨x,d,T,rfl,dn,g,k,q⟩:=h;obtain⟨u,j,rfl,c,f⟩:=we r;cases (show j=Value.type T from f);have e:=GZ (K:=X.K) (tm g) (tm k);have fin:∀tk,EP X pins σ Q (.bool (isT (tyD d) T)) { s with toks:=tk }:=λtk=>{.bl _,H,I.tok tk,rfl,q}
 cases dn with
 |non=>exact fu I c .non e fin
 |bl b=>exact fu I c (.bl b) e fin
 |int i=>exact fu I c (.int i) e fin
 |str z=>exact fu I c (.str z) e fin
 |ty w=>simp[tyD,DC] at g
 | @lst a ys ds hs t=>
  cases (show u=Value.ref a from c);obtain⟨its,_,⟨o,n,h1,h2,_⟩,_⟩:=I.list hs;exact aaz PySem.W.kitx_list I.kIn {_,h1,h2} e (λz=>nomatch z) fin
 | @tup a ys ds hs t=>
  cases (show u=Value.ref a from c);obtain⟨its,_,⟨o,h1,h2,_⟩,_⟩:=I.tuple (SqT.of hs);exact aaz PySem.W.kitx_tuple I.kIn {(o),h1,h2} e (λz=>nomatch z) fin
 | @gt a ys ds hs t=>
  cases (show u=Value.ref a from c);obtain⟨its,_,⟨o,h1,h2,_⟩,_⟩:=I.tuple hs;exact aaz PySem.W.kitx_tuple I.kIn {(o),h1,h2} e (λz=>nomatch z) fin
 | @dt a ys ks ds hs m t=>
  cases (show u=Value.ref a from c);obtain⟨_,_,xs,_,o,es,ep,h1,h2,_⟩:=(show ObjOk X.prog X.w H s.heap a (.dT ys) from hs.ok I.hok);exact aaz abF I.kIn {(o),h1,h2.1} e (λz=>nomatch z) fin
 | @dct a ys ks ds hs m t=>
  cases (show u=Value.ref a from c);obtain⟨_,_,vs,_,p⟩:=(show ObjOk X.prog X.w H s.heap a (.dK ys) from hs.ok I.hok);obtain⟨o,es,ep,h1,h2,_⟩:=p;exact aaz abF I.kIn {(o),h1,h2.1} e (λz=>nomatch z) fin
 | @opq a ys n hs v l=>
  cases (show u=Value.ref a from c);obtain⟨_,_,vs,_,p⟩:=(show ObjOk X.prog X.w H s.heap a (.dK ys) from hs.ok I.hok);obtain⟨o,es,ep,h1,h2,_⟩:=p;exact aaz abF I.kIn {(o),h1,h2.1} e (λz=>nomatch z) fin
def Iz(K:Frag)(h:X.K=K):BCall X (.builtin "isinstance") (LY K):=by subst h;exact{(xx)}
def IA(K:Frag):R2:=λx y H Q=>∃l b xs zs,x=.ref l/\y=.ref b/\SqL K H l xs/\SqL K H b zs/\xs.length+zs.length<=sizeLine/\∀p,H p=none->Q (.ref p) (upd H p (.lst (xs++zs)))
def DD:OpR X (binaryOp .Add) (IA X.K):=by
 intro pins s σ H x y v u Q I p o h;obtain⟨l,b,xs,zs,rfl,rfl,z,A,D,q⟩:=h;cases p;cases o;obtain⟨its,r,⟨⟨cls,F,data,sl⟩,n,j,k,d,hd⟩,_⟩:=I.list z;obtain⟨its2,i,⟨⟨m,C,data2,g⟩,t,c,f,a,e⟩,_⟩:=I.list A;dsimp only at k hd f e d a;subst k hd f e d a;have E:=r.length;have w:=i.length;refine concat_meets {_,j,rfl} {_,c,rfl} noFill_list_add seq_list_add PySem.F.slot_list_add PySem.F.entry_list_add (PySem.F.args_list_add_2 _ _) (list_addW l b its.toArray its2.toArray n t none none sl g (by simp;nofun)) {j,c,?_};have B:its.toArray++its2.toArray=(its++its2).toArray:=by simp
 rw[B];exact{.ref _,_,I.lnew (t':=s.toks) (r.append i) (by rw[aag];nofun),rfl,q _ I.fresh}
def IB(K:Frag):R2:=λx y H Q=>(∃i j,x=.int i/\y=.int j/\Q (.int (i+j)) H)∨(∃i j,x=.str i/\y=.str j/\i.length+j.length<=sizeLine/\Q (.str (i++j)) H)∨IA K x y H Q∨GO K x y H Q
def xy(K:Frag)(h:X.K=K):BOp X (binaryOp .Add) (IB K):=by subst h;exact{Gy.or (pN.or (DD.or BN))}
def tp:CallR X (.builtin "ord") (λxs H Q=>∃c:Nat,xs=[.str {#[c]}]/\Q (.int c) H):=by
 intro pins s σ H xs us Q I r h;obtain⟨c,rfl,q⟩:=h;obtain⟨u,rfl,a⟩:=dS r;obtain⟨t,rfl⟩:=a;exact PySem.P.ord_of_char {.int c,H,I.tok _,{_,rfl},q}
def MZ:↥V->Hp->VK->Prop:=λxs H Q=>∃c:Nat,xs=[.str {#[c]}]/\Q (.int c) H
def IC:BCall X (.builtin "ord") MZ:=-{(tp)}
def tGU(K:Frag)(xs:↥V):TE:=λ_ H Q=>∀a,(∀H',SqT K H' a xs)->Q (.ref a) H
def DE{K:Frag}(h:HJ K X.mg x xs)(b:X.env.kindOf x=!.globalImplicit)(hd:autoParam ((x==("__debug__" : Str))=false) L2.aD._auto_1):BE X (.Name x pos) (tGU K xs):=by
 obtain⟨a,e,hs⟩:=h;exact{λpins s σ H Q I q=>zW (v:=.ref a) {_,e,rfl} b hd pins s σ H Q I (q a hs)}
section
variable {K:Frag} 
def ax(e:Same F H)(n:C8 K F H P Q)(h:Den K F v d)(p:P (.fz d)):Q v H:=-n _ v F H [] p (Pure.refl e) (.fz h) New.nil
def dq(e:Same F H)(n:C8 K F H P Q)(h:Dens K F xs ds)(p:P (.fl ds)):∀q,H q=none->Q (.ref q) (upd H q (.lst xs)):=-λq a=>
 n _ (.ref q) F _ [q] p (Pure.new e a) (.fl ag h) (New.one a (e.free a))
def j4(e:Same F H)(n:C8 K F H P Q)(h:Dens K F xs ds)(p:P (.fz (.tup ds))):∀q,H q=none->Q (.ref q) (upd H q (.tup xs)):=-λq a=>
 n _ (.ref q) (upd F q (.tup xs)) _ [] p (Pure.frz e a) (.fz (.tup ag (h.mono (bt (e.free a))))) New.nil
def LZ(hd:∀F,Dens K F xs ds):EF K μ (tGU K xs) (fC (.gt ds)):=-{fun {F Z H c σ ρ A Q P} d R h q a b=>q _ _ _ F H A [] h (Same.refl _) R (.fz (.gt (b F) (hd F))) Fresh.nil}
def aI0(g:Int->Int->D):D->D->(OV->Prop)->Prop
 |.int i,.int j,P=>P (.fz (g i j))
 |_,_,_=>False
def aIC(C:Int->Int->Prop)(g:Int->Int->D):D->D->(OV->Prop)->Prop
 |.int i,.int j,P=>C i j/\P (.fz (g i j))
 |_,_,_=>False
def ID(h:∀F i j,Den K F (gV i j) (gD i j)):OpF K (rI0 gV) (aI0 gD):=-{by
 intro F H x y d e Q P s b a f n
 cases d with
 | int i=>
  cases e with
  | int j=>
   exact{_,_,b.int_eq,a.int_eq,ax s n (h F _ _) f}
  |_=>exact False.elim f
 |_=>exact False.elim f}
def jB{C:Int->Int->Prop}(h:∀F i j,Den K F (gV i j) (gD i j)):OpF K (rI C gV) (aIC C gD):=-{by
 intro F H x y d e Q P s b a f n
 cases d with
 | int i=>
  cases e with
  | int j=>
   exact{_,_,b.int_eq,a.int_eq,f.1,ax s n (h F _ _) f.2}
  |_=>exact False.elim f
 |_=>exact False.elim f}
def DF:OpF K (rI0 λi j=>.int (i - j)) (aI0 λi j=>.int (i - j)):=-ID λ_ _ _=>.int _
def DG:OpF K (rI CMul λi j=>.int (i*j)) (aIC CMul λi j=>.int (i*j)):=-jB λ_ _ _=>.int _
def xz:OpF K (rI FR λi j=>.int (i / j)) (aIC FR λi j=>.int (i / j)):=-jB λ_ _ _=>.int _
def DH:OpF K (rI (λ_ j=>0<j) λi j=>.int (i % j)) (aIC (λ_ j=>0<j) λi j=>.int (i % j)):=-jB λ_ _ _=>.int _
def DI:OpF K (rI FU λi j=>.int (i ^ j.toNat)) (aIC FU λi j=>.int (i ^ j.toNat)):=-jB λ_ _ _=>.int _
def i8(b:Int->Int->Bool)(a:Str->Str->Bool):D->D->(OV->Prop)->Prop
 |.int i,.int j,P=>P (.fz (.bl (b i j)))
 |.str i,.str j,P=>P (.fz (.bl (a i j)))
 |_,_,_=>False
def DJ{b:Int->Int->Bool}{a:Str->Str->Bool}:OpF K (Ir b a) (i8 b a):=-{by
 intro F H x y d e Q P s g c f n
 cases d with
 | int i=>
  cases e with
  | int j=>
   exact .inl {_,_,g.int_eq,c.int_eq,ax s n (.bl _) f}
  |_=>exact False.elim f
 | str i=>
  cases e with
  | str j=>
   exact .inr {_,_,g.str_eq,c.str_eq,ax s n (.bl _) f}
  |_=>exact False.elim f
 |_=>exact False.elim f}
def eM:D->D->(OV->Prop)->Prop
 |.int i,.int j,P=>P (.fz (.int (i+j)))
 |.str i,.str j,P=>i.length+j.length<=sizeLine/\P (.fz (.str (i++j)))
 |.lst xs,.lst ys,P=>xs.length+ys.length<=sizeLine/\P (.fl (xs++ys))
 |.tup xs,.tup ys,P=>xs≠[]/\xs.length+ys.length<=sizeLine/\P (.fz (.tup (xs++ys)))
 |_,_,_=>False
def DK:OpF K (IB K) eM:=-{by
 intro F H x y d e Q P s k g f n
 cases d with
 | int i=>
  cases e with
  | int j=>
   exact .inl {_,_,k.int_eq,g.int_eq,ax s n (.int _) f}
  |_=>exact False.elim f
 | str i=>
  cases e with
  | str j=>
   exact .inr (.inl {_,_,k.str_eq,g.str_eq,f.1,ax s n (.str _) f.2})
  |_=>exact False.elim f
 | lst ds=>
  cases e with
  | lst es=>
   obtain⟨a,xs,rfl,h1,h2⟩:=k.asL s;obtain⟨b,ys,rfl,l,c⟩:=g.asL s;exact .inr (.inr (.inl {a,b,xs,ys,rfl,rfl,h1,l,by rw[h2.length,c.length];exact f.1,dq s n (h2.append c) f.2}))
  |_=>exact False.elim f
 | tup ds=>
  cases e with
  | tup es=>
   have m:=g;obtain⟨a,xs,rfl,h1,h2⟩:=k.asT s;obtain⟨b,ys,rfl,l,c⟩:=g.asT s;refine .inr (.inr (.inr {a,b,xs,ys,rfl,rfl,h1,l,λz=>f.1 ?_,by rw[h2.length,c.length];exact f.2.1,λz=>?_,λz=>j4 s n (h2.append c) f.2.2}))
   .have:=h2.length;rw[z] at this;exact aaA this.symm
   .subst z;cases c;have f2:=f.2.2;rw[aaw] at f2
    cases k with
    |fz hd=>exact ax s n hd f2
  |_=>exact False.elim f
 |_=>exact False.elim f}
end
def cR(a b:Str):Bool:=⇑(a8 b a)
def et{a:Str}:cR a b=true↔¬(b.cps.toList<a.cps.toList):=by unfold cR a8;simp
def iB(a b c:Str)(h1:cR a b=true)(h2:cR b c=true):cR a c=true:=by
 rw[et] at *;exact ace.mpr (List.le_trans (ace.mp h1) (ace.mp h2))
def mN(a b:Str):(cR a b || cR b a)=true:=by
 rw[Bool.or_eq_true,et,et];rcases List.le_total a.cps.toList b.cps.toList with h|h
 .exact .inl (ace.mpr h)
 .exact .inr (ace.mpr h)
def fZ{a:Str}(h1:cR a b=true)(h2:cR b a=true):a=b:=by
 rw[et] at *;exact ie (List.le_antisymm (ace.mp h1) (ace.mp h2))
def bF(zs:↥Str):↥Str:=zs.mergeSort cR
def aB(zs:↥Str):(bF zs).Perm zs:=-List.mergeSort_perm zs _
def bR(zs:↥Str):(bF zs).Pairwise λa b=>cR a b=true:=-List.pairwise_mergeSort iB mN zs
theorem eu:∀(p:Str) (l:↥Str),risingS p l=true->(p::l).Pairwise λa b=>cR a b=true
 |p,[],_=>List.pairwise_singleton _ _
 | p,x::r,h=>by
  simp only[risingS,Bool.and_eq_true] at h;have e:=eu x r h.2
  have c:cR p x=true:=by
   unfold cR a8;rw[← ltCps_eq];exact h.1
  refine List.pairwise_cons.mpr {λy d=>?_,e};rcases abS.mp d with rfl|d
  .exact c
  .exact iB _ _ _ c (List.rel_of_pairwise_cons e d)
theorem dM:∀(l:↥Str),sortedS l=true->l.Pairwise λa b=>cR a b=true
 |[],_=>.nil
 |x::r,h=>eu x r h
def gx(c:ss.Perm zs)(hs:sortedS ss=true):ss=bF zs:=-
 List.Perm.eq_of_pairwise (le:=λa b=>cR a b=true) (λa b _ _ h1 h2=>fZ h1 h2) (dM ss hs) (bR zs) (c.trans (aB zs).symm)
def iC(c:ss.Perm zs)(hs:ss.Pairwise λa b=>cR a b=true):ss=bF zs:=-
 List.Perm.eq_of_pairwise (le:=λa b=>cR a b=true) (λa b _ _ h1 h2=>fZ h1 h2) hs (bR zs) (c.trans (aB zs).symm)
section
open PySem.Calls
variable {prog:Program}  {A:Around} {E:Value->Shared->Prop}  {T:String} {r d:Addr}  {P:Nat->Value->Prop} {OK:Heap->Prop}
def IE{R:↥Value->Shared->Prop}(S:PySem.W.KdlSrc prog w T r d n P OK)(calm:A.handled=none)(ok:OK s.heap)(few:n<=sizeLine)
  (go:∀(g:Heap) (tk:Nat) (acc:Array Value),(∀b o,s.heap.get? b=!o->g.get? b=!o)->s.heap.objs.size<g.objs.size->ItemsOf P acc n->R acc.toList { s with heap:=g,toks:=tk }) :
  wpAny (model prog w) A (collect (.ref r)) R E s:=by
 obtain⟨l1,l2⟩:=S.there _ ok;unfold collect;refine aaa (wpAny_runValue (codeAny_builtin entry_proto_collect' ?_));rw[aaG PySem.F.plain_proto_collect _];show wpAny _ A.in1 (newList [] >>= λx=>again (.builtin "list.__iadd__" {[x,.ref r],[]})) _ _ s;refine aaa (aaM (aaf {plainId_quiet PySem.F.plain_list_iadd _,codeAny_builtin entry_list_iadd' ?_}));rw[aaG PySem.F.plain_list_iadd _];have top:(s.heap.push { cls:=.type "list", data:=.seq ([]:↥Value).toArray }).get? s.heap.objs.size=some { cls:=.type "list", data:=.seq #[] }:=Heap.get?_push_size _ rfl;show wpAny _ A.in1 (Builtin.List.listExtendWith (.ref s.heap.objs.size) (.ref r) (.ref s.heap.objs.size)) _ _ _
 have j:=PySem.W.kdl_extend (A:=A) (s:={ s with heap:=s.heap.push { cls:=.type "list", data:=.seq ([]:↥Value).toArray } })
  (R:=λ(q:Result) (s':Shared)=>∃(g:Heap) (tk:Nat) (acc:Array Value) (c:Nat),q=.ok (.ret (.ref s.heap.objs.size))/\s'={ s with heap:=g,toks:=tk } /\
   (∀b o,s.heap.get? b=!o->g.get? b=!o)/\g.get? s.heap.objs.size=some { cls:=.type "list", dict:=none,data:=.seq acc c,slots:=#[] }/\ItemsOf P acc n)
  S calm (S.keep _ _ ok λb _ o e=>Heap.get?_push_of_some _ e) s.heap.objs.size (Nat.ne_of_gt l1) (Nat.ne_of_gt l2) (.ref s.heap.objs.size) 0 top
  (λg tk acc c k i a=>{g,tk,acc,c,rfl,rfl,λb o e=>k b o (aam (aah e)) (Heap.get?_push_of_some _ e),i,a}) few
 refine abv j (λz s' x=>?_) λe s' x=>?_
 .cases z with
  | done f=>
   obtain⟨g,tk,acc,c,e,rfl,k,i,a⟩:=x;cases e;exact aaa (wpAny_load i (aaf (go g tk acc k (aah i) a)))
  | again m=>
   refine{x.1,codeAny_mono x.2 λq l y=>?_};obtain⟨g,tk,acc,c,rfl,rfl,k,i,a⟩:=y;exact aaa (wpAny_load i (aaf (go g tk acc k (aah i) a)))
 .obtain⟨_,_,_,_,p,_⟩:=x;cases p
end
def lr(W:X.calm=true):CallR X (.builtin "sorted") (λxs H Q=>∃p kvs zs,xs=[.ref p]/\Rd H p (.dK kvs)/\kvs.map (·.1)=zs.map Sum.inr/\kvs.length<64/\∀q ss,H q=none->ss.Perm zs->sortedS ss=true->Q (.ref q) (upd H q (.lst (ss.map .str)))):=by
 intro pins s σ H xs us Q I r h;obtain⟨p,kvs,zs,rfl,O,A,E,q⟩:=h;obtain⟨u,rfl,U⟩:=dS r;cases U;obtain⟨g,Y,vs,N,m⟩:kvs.length<=sizeLine/\(p==sysModules)=false/\∃vs,KV kvs vs/\s.heap.DictOf (aw X.prog X.w) p vs:=O.ok I.hok;obtain⟨ep,D⟩:=m.dictAt;have G:kvs.length=vs.length:=aa4 N;refine Calls.call_function_entry kind_sorted plain_sorted entry_sorted (args_sorted1 _) ?_;unfold Builtin.«sorted»;refine aaa (m:=checkCount "sorted" 1 1 _) (aaf ?_);refine aaa (IE (PySem.W.kdl_dict (knd:=aw X.prog X.w) (kvs:=vs) (ep:=ep) Y) (by simpa using I.ok.hd W) D (by rw[← G];exact g) λh' tk acc P J f=>?_);have c:acc.toList.length=kvs.length:=by rw[abZ,f.1,G]
 have y:StrsAre acc.toList zs:=by
  have d:∀(j:Nat) v,acc.toList[j]?=!v->∃k x,vs[j]?=!(k,x)/\jO k v=true:=λj v e=>f.2 j v (by rw[← Array.getElem?_toList];exact e);clear f P q O m D;generalize acc.toList=us at c d;clear g G E I r
  induction N generalizing us zs with
  | nil=>
   cases zs with
   |nil=>cases us with|nil=>exact .nil|cons a b=>simp at c
   |cons z zs=>simp at A
  | cons h1 h2 V=>
   cases zs with
   |nil=>simp at A
   | cons z zs=>
    cases us with
    |nil=>simp at c
    | cons a b=>
     simp only[List.map_cons,List.cons.injEq] at A;obtain⟨k,x,T,S⟩:=d 0 a rfl;simp only[List.getElem?_cons_zero,Option.some.injEq] at T;subst T;have Z:_=k:=h1.1;rw[← Z,A.1] at S;rcases aT S with ⟨i,t,q,_⟩|⟨z',t,q,rfl⟩
     .cases q
     .cases q;exact .cons _ t (V zs A.2 b (by exists c) λj v e=>by simpa using d (j+1) v (by exists e))
 refine aaa (wpAny_newList ?_ (hsz:=by rw[c];exact g));have n:(h'.push (seqObj "list" acc.toList.toArray 0)).get? h'.objs.size=!(seqObj "list" acc.toList.toArray 0):=Heap.get?_push_size _ rfl;have w:s.heap.objs.size<=h'.objs.size:=acg J;refine aaa (aaS (aaC slot_list_sort {_,n,rfl} entry_list_sort (list_sort_treeK strKind_oneLt n y.keysOf (λM L rest e=>keyKind_strs (by rw[← e];exact y)) (by rw[c];exact E) λB a1 a2=>{_,rfl,?_}) (args_list_sort _)));obtain⟨l,b1,b2,b3⟩:=sorted_out_str y a1 a2;obtain⟨e',K⟩:=sortedHeap_at (out:=(arrOf B).map (·.2)) n;have F:l.length=kvs.length:=by rw[b2.length_eq];have:=congrArg List.length A;simpa using this.symm
 refine aaf {_,rfl,.ref h'.objs.size,_,I.laid (t':=tk) (o:=.lst (l.map .str)) (λb ob R=>?_) w {by rw[abP,F];exact g,((arrOf B).map (·.2)).toList,e',ef b1,by rw[abn];exact K},rfl,q h'.objs.size l (I.hok.fresh w) b2 b3};have C:b<h'.objs.size:=aaq (aah R) w;rw[sortedHeap_old (aam C) (by rw[size_push'];exact aaP C)];exact Heap.get?_push_of_some _ (P b ob R)
section
variable {K:Frag} 
def DL(d e:D):Prop:=okD d=true/\okD e=true/\dep (nR d)<=40
def aEq:D->D->(OV->Prop)->Prop:=λd e P=>DL d e/\P (.fz (.bl (dEq d e)))
def aNe:D->D->(OV->Prop)->Prop:=λd e P=>DL d e/\P (.fz (.bl (⇑(dEq d e))))
def IF:OpF K (KG K) aEq:=-{fun {F H x y d e Q P} s b a f n=>.inr {_,_,(b.den s).deep f.1.1,(a.den s).deep f.1.2.1,f.1.2.2,ax s n (.bl _) f.2}}
def IG:OpF K (KH K) aNe:=-{fun {F H x y d e Q P} s b a f n=>.inr {_,_,(b.den s).deep f.1.1,(a.den s).deep f.1.2.1,f.1.2.2,ax s n (.bl _) f.2}}
def vOf:D->V
 |.non=>.non
 |.bl b=>.bl b
 |.int i=>.int i
 |.str z=>.str z
 |_=>.non
def flD:D->Bool
 |.non=>true
 |.bl _=>true
 |.int _=>true
 |.str _=>true
 |_=>false
def Den.flat(h:Den K F v d)(f:flD d=true):v=vOf d/\hV v=true:=by
 cases h <;> first|exact{(rfl),rfl}|exact(abU f).elim
def Dens.flat{v:↥V}{d:↥D}(h:Dens K F v d)(f:d.all flD=true):v=d.map vOf/\v.all hV=true:=by
 induction d generalizing v with
 |nil=>cases h;exact{(rfl),rfl}
 | cons d ds a=>
  cases h with
  | cons h t=>
   rw[aaT,ab2] at f;obtain⟨h1,h2⟩:=h.flat f.1;obtain⟨c,b⟩:=a t f.2;exact{by rw[abT,← h1,← c],by rw[aaT,h2,b];rfl}
def Acc.flat(h:Acc K F H v d)(f:flD d=true):v=vOf d/\hV v=true:=by
 cases h with
 |fz h=>exact h.flat f
 |lst _ _=>exact(abU f).elim
 |dct _ _ _=>exact(abU f).elim
 |dt _ _ _=>exact(abU f).elim
def inD(d:D)(ds:↥D):Bool:=inV (vOf d) (ds.map vOf)
def qp(ks:↥Key)(k:Key):Bool:=ks.any λx=>decide (x=k)
def qq(ks:↥↥Key)(k:↥Key):Bool:=ks.any λx=>decide (x=k)
def jj:↥D->Option ↥Key
 |[]=>![]
 | d::ds=>match ml d with
  | some k=>match jj ds with
   |some ks=>!(k::ks)
   |none=>none
  |none=>none
def xA(h:Dens K F xs ds)(e:jj ds=!k):xs=k.map kV:=by
 induction ds generalizing xs k with
 |nil=>cases h;cases e;rfl
 | cons d ds g=>
  cases h with
  | cons h t=>
   unfold jj at e
   cases c:ml d with
   |none=>rw[c] at e;cases e
   | some a=>
    cases f:jj ds with
    |none=>rw[c,f] at e;cases e
    | some b=>
     rw[c,f] at e;cases e;rw[abT,← g t f,eW (F:=F) (H:=F) (.fz h) c]
def j5(s:Same F H)(h:Acc K F H v (.tup ds))(e:jj ds=!k):∃b,v=.ref b/\H b=!(.tup (k.map kV)):=by
 obtain⟨b,xs,rfl,h1,h2⟩:=h.asTH s;exact{b,rfl,by rw[← xA h2 e];exact h1}
def bIn(d:D)(R:Bool->Prop):D->Prop
 | .str y=>(match d with
  | .str x=>(match x.cps.toList with
   |[c]=>R (decide (c∈y.cps.toList))
   |_=>False)
  |_=>False)
 |.lst ds=>(flD d=true/\ds.all flD=true)/\R (inD d ds)
 |.tup ds=>(flD d=true/\ds.all flD=true)/\R (inD d ds)
 | .dct ks _=>(match ml d with
  |some k=>R (qp ks k)
  |none=>False)
 |.gt ds=>(flD d=true/\ds.all flD=true)/\R (inD d ds)
 | .dt ks _=>(match d with
  | .tup a=>(match jj a with
   |some k=>R (qq ks k)
   |none=>False)
  |_=>False)
 |_=>False
def aIn(d e:D)(P:OV->Prop):Prop:=bIn d (λb=>P (.fz (.bl b))) e
def oa(d e:D)(P:OV->Prop):Prop:=bIn d (λb=>P (.fz (.bl (⇑b)))) e
def Ag{c:Nat}(h:x.cps.toList=[c]):x={#[c]}:=-ie h
def oe{k:Key}(h:ys.map (·.1)=ks):(gC ys k).isSome=qp ks k:=by
 rw[← gJ,qp,← h,abw];rfl
def xB{ys:↥(↥Key×V)}{ks:↥↥Key}(h:ys.map (·.1)=ks):(gC ys k).isSome=qq ks k:=by
 rw[← gJ,qq,← h,abw];rfl
def Ah{x y:V}{R:Bool->Prop}(s:Same F H)(hx:Acc K F H x d)(g:Acc K F H y e)(f:bIn d R e)(n:∀b,R b->Q (.bl b) H):LX K x y H Q:=by
 cases e with
 | str z=>
  cases d with
  | str u=>
   unfold bIn at f;dsimp only at f;generalize t:u.cps.toList=l at f
   cases l with
   |nil=>exact False.elim f
   | cons c r=>
    cases r with
    |nil=>exact .inl (.inl {c,_,by rw[hx.str_eq,Ag t],g.str_eq,n _ f})
    |cons=>exact False.elim f
  |_=>exact False.elim f
 | lst ds=>
  obtain⟨a,xs,rfl,h1,h2⟩:=g.asL s;obtain⟨o,m⟩:=hx.flat f.1.1;obtain⟨j,i⟩:=h2.flat f.1.2;subst o j;exact .inl (.inr {a,_,rfl,.inl h1,m,i,n _ f.2})
 | tup ds=>
  obtain⟨a,xs,rfl,h1,h2⟩:=g.asT s;obtain⟨o,m⟩:=hx.flat f.1.1;obtain⟨j,i⟩:=h2.flat f.1.2;subst o j;exact .inl (.inr {a,_,rfl,.inr h1,m,i,n _ f.2})
 | dct ks vs=>
  unfold bIn at f;dsimp only at f;generalize p:ml d=l at f
  cases l with
  |none=>exact False.elim f
  | some k=>
   obtain⟨a,ys,rfl,h1,h2,w⟩:=g.asD s;refine .inr {a,gC ys k,rfl,by rw[eW hx p];exact DGet.kR h1,?_};rw[oe h2];exact n _ f
 | gt ds=>
  obtain⟨a,xs,rfl,h1,h2⟩:=g.asG s;obtain⟨o,m⟩:=hx.flat f.1.1;obtain⟨j,i⟩:=h2.flat f.1.2;subst o j;exact .inl (.inr {a,_,rfl,.inr h1,m,i,n _ f.2})
 | dt ks vs=>
  cases d with
  | tup q=>
   unfold bIn at f;dsimp only at f;generalize p:jj q=l at f
   cases l with
   |none=>exact False.elim f
   | some k=>
    obtain⟨a,ys,rfl,h1,h2,w⟩:=g.asDT s;obtain⟨b,rfl,v⟩:=j5 s hx p;refine .inr {a,gC ys k,rfl,.inr {(ys),k,b,h1,rfl,v,rfl},?_};rw[xB h2];exact n _ f
  |_=>exact False.elim f
 |_=>exact False.elim f
def IH:OpF K (LX K) aIn:=-{λs b a f n=>Ah s b a f λ_ q=>ax s n (.bl _) q}
def tq:OpF K (tj K) oa:=-{by
 intro F H x y d e Q P s k j f n;have h:=Ah (Q:=λv H'=>∀b,v=.bl b->Q (.bl (⇑b)) H') s k j f λb q c e=>by cases e;exact ax s n (.bl _) q
 obtain (⟨c,z,i,g,q⟩|⟨a,xs,i,g,m,l,q⟩)|⟨a,o,i,g,q⟩:=h
 .exact .inl (.inl {c,z,i,g,q _ rfl})
 .exact .inl (.inr {a,xs,i,g,m,l,q _ rfl})
 .exact .inr {a,o,i,g,q _ rfl}}
def iD(ks:↥Key)(ds:↥D)(k:Key):Option D:=((ks.zip ds).find? λa=>decide (a.1=k)).map (·.2)
def cI(ks:↥↥Key)(ds:↥D)(k:↥Key):Option D:=((ks.zip ds).find? λa=>decide (a.1=k)).map (·.2)
def aIx:D->D->(OV->Prop)->Prop
 | .lst ds,.int i,P=>(match atI ds i with
  |some d=>P (.fz d)
  |none=>False)
 | .tup ds,.int i,P=>(match atI ds i with
  |some d=>P (.fz d)
  |none=>False)
 | .str z,.int i,P=>z.length<=sizeLine/\(match atI z.cps.toList i with
  |some c=>P (.fz (.str {#[c]}))
  |none=>False)
 | .dct ks ds,k,P=>(match ml k with
  | some k=>(match iD ks ds k with
   |some d=>P (.fz d)
   |none=>False)
  |none=>False)
 | .dt ks ds,.tup a,P=>(match jj a with
  | some k=>(match cI ks ds k with
   |some d=>P (.fz d)
   |none=>False)
  |none=>False)
 |_,_,_=>False
def Dens.atI{i:Int}(h:Dens K F xs ds)(e:L2.atI ds i=!d):∃x,L2.atI xs i=!x/\Den K F x d:=by
 unfold L2.atI at e ⊢;rw[h.length]
 cases q:ixN ds.length i with
 |none=>rw[q] at e;cases e
 |some j=>rw[q] at e;exact h.get e
def lu{κ:Type}[DecidableEq κ]{ys:↥(κ×V)}{ks:↥κ}{k:κ}(f:ys.map (·.1)=ks)(h:Dens K F (ys.map (·.2)) ds)(e:((ks.zip ds).find? λb=>decide (b.1=k)).map (·.2)=!d):∃v,gC ys k=!v/\Den K F v d:=by
 subst f
 induction ys generalizing ds with
 |nil=>simp at e
 | cons y ys c=>
  cases h with
  | @cons _ g _ ds h1 h2=>
   by_cases a:y.1=k
   .rw[gH a];simp only[List.map_cons,List.zip_cons_cons,List.find?_cons,a,decide_true,Option.map_some,Option.some.injEq] at e;subst e;exact{(y.2),rfl,h1}
   .rw[gI a];simp only[List.map_cons,List.zip_cons_cons,List.find?_cons,a,decide_false] at e;exact c h2 e
def j6{k:Key}(a:ys.map (·.1)=ks)(h:Dens K F (ys.map (·.2)) ds)(e:iD ks ds k=!d):∃v,gC ys k=!v/\Den K F v d:=-lu a h e
def tt{ys:↥(↥Key×V)}{ks:↥↥Key}(a:ys.map (·.1)=ks)(h:Dens K F (ys.map (·.2)) ds)(e:cI ks ds k=!d):∃v,gC ys k=!v/\Den K F v d:=-lu a h e
def II:OpF K (Dw K) aIx:=-{by
 intro F H x y d e Q P s o m f n
 cases d with
 | lst ds=>
  cases e with
  | int i=>
   unfold aIx at f;dsimp only at f
   cases hd:L2.atI ds i with
   |none=>rw[hd] at f;exact False.elim f
   | some d=>
    rw[hd] at f;obtain⟨a,xs,rfl,h1,h2⟩:=o.asL s;obtain⟨v,l,j⟩:=h2.atI hd;exact .inl (.inl {a,xs,_,v,rfl,m.int_eq,h1,l,ax s n j f})
  |_=>exact False.elim f
 | tup ds=>
  cases e with
  | int i=>
   unfold aIx at f;dsimp only at f
   cases hd:L2.atI ds i with
   |none=>rw[hd] at f;exact False.elim f
   | some d=>
    rw[hd] at f;obtain⟨a,xs,rfl,h1,h2⟩:=o.asT s;obtain⟨v,l,j⟩:=h2.atI hd;exact .inl (.inr (.inl {a,xs,_,v,rfl,m.int_eq,h1,l,ax s n j f}))
  |_=>exact False.elim f
 | str z=>
  cases e with
  | int i=>
   obtain⟨f1,f⟩:=f
   cases p:L2.atI z.cps.toList i with
   |none=>rw[p] at f;exact False.elim f
   | some c=>
    rw[p] at f;exact .inl (.inr (.inr {_,_,c,o.str_eq,m.int_eq,f1,p,ax s n (.str _) f}))
  |_=>exact False.elim f
 | dct ks ds=>
  unfold aIx at f;dsimp only at f
  cases g:ml e with
  |none=>rw [g] at f;exact False.elim f
  | some k=>
   rw[g] at f;dsimp only at f
   cases hd:iD ks ds k with
   |none=>rw[hd] at f;exact False.elim f
   | some d=>
    rw[hd] at f;obtain⟨a,ys,rfl,h1,h2,l⟩:=o.asD s;obtain⟨v,j,q⟩:=j6 h2 l hd;exact .inr {a,v,rfl,by rw[eW m g,← j];exact DGet.kR h1,ax s n q f}
 | dt ks ds=>
  cases e with
  | tup r=>
   unfold aIx at f;dsimp only at f
   cases g:jj r with
   |none=>rw[g] at f;exact False.elim f
   | some k=>
    rw[g] at f;dsimp only at f
    cases hd:cI ks ds k with
    |none=>rw[hd] at f;exact False.elim f
    | some d=>
     rw[hd] at f;obtain⟨a,ys,rfl,h1,h2,l⟩:=o.asDT s;obtain⟨b,rfl,t⟩:=j5 s m g;obtain⟨v,j,q⟩:=tt h2 l hd;exact .inr {a,v,rfl,.inr {(ys),k,b,h1,rfl,t,j.symm},ax s n q f}
  |_=>exact False.elim f
 |_=>exact False.elim f}
def cU(n:Nat)(lo hi:Option Int):Prop:=¬(HT.sIx n 0 lo=0/\HT.sIx n n hi=n)
def j7(z:Str)(lo hi:Option Int):Str:={(fR z.cps.toList lo hi).toArray}
def aSl:D->Option Int->Option Int->(OV->Prop)->Prop
 |.str z,lo,hi,P=>z.length<=sizeLine/\P (.fz (.str (j7 z lo hi)))
 |.lst ds,lo,hi,P=>P (.fl (fR ds lo hi))
 |.tup ds,lo,hi,P=>cU ds.length lo hi/\P (.fz (.tup (fR ds lo hi)))
 |_,_,_,_=>False
def Dens.cut{lo hi:Option Int}(h:Dens K F xs ds):Dens K F (fR xs lo hi) (fR ds lo hi):=by
 unfold fR;rw[h.length];exact(h.drop _).take _
def j8:SlF K (G4 K) aSl:=-{by
 intro F H x d lo hi Q P s b f n
 cases d with
 | str z=>
  refine .inl {_,b.str_eq,f.1,λy c=>?_};have e:y=j7 z lo hi:=ie (c.trans (by simp[j7]));rw[e];exact ax s n (.str _) f.2
 | lst ds=>
  obtain⟨a,xs,rfl,h1,h2⟩:=b.asL s;exact .inr (.inl {a,xs,rfl,h1,dq s n h2.cut f})
 | tup ds=>
  obtain⟨a,xs,rfl,h1,h2⟩:=b.asT s;exact .inr (.inr {a,xs,rfl,h1,by rw[h2.length];exact f.1,j4 s n h2.cut f.2})
 |_=>exact False.elim f}
def eR:↥D->(OV->Prop)->Prop
 |[.str z],P=>z.length<=sizeLine/\P (.fz (.int z.length))
 |[.lst ds],P=>P (.fz (.int ds.length))
 |[.tup ds],P=>P (.fz (.int ds.length))
 |[.dct ks _],P=>P (.fz (.int ks.length))
 |_,_=>False
def IJ:CallF K (FY K) eR:=-{by
 intro F H xs ds Q P s b f n
 cases ds with
 |nil=>exact False.elim f
 | cons d tl=>
 cases d with
 | str z=>
  cases tl with
  |cons _ _=>exact False.elim f
  | nil=>
  obtain⟨x,rfl,a⟩:=bH b;exact .inl {_,by rw[a.str_eq],f.1,ax s n (.int _) f.2}
 | lst ds=>
  cases tl with
  |cons _ _=>exact False.elim f
  | nil=>
  obtain⟨x,rfl,a⟩:=bH b;obtain⟨p,ys,rfl,h1,h2⟩:=a.asL s;exact .inr (.inl {p,ys,rfl,.inl h1,by rw[h2.length];exact ax s n (.int _) f})
 | tup ds=>
  cases tl with
  |cons _ _=>exact False.elim f
  | nil=>
  obtain⟨x,rfl,a⟩:=bH b;obtain⟨p,ys,rfl,h1,h2⟩:=a.asT s;exact .inr (.inl {p,ys,rfl,.inr h1,by rw[h2.length];exact ax s n (.int _) f})
 | dct ks es=>
  cases tl with
  |cons _ _=>exact False.elim f
  | nil=>
  obtain⟨x,rfl,a⟩:=bH b;obtain⟨p,ys,rfl,h1,h2,c⟩:=a.asD s;subst h2;have f:P (.fz (.int (ys.map (·.1)).length)):=f;rw[abP] at f;exact .inr (.inr {p,ys,rfl,h1,ax s n (.int _) f})
 |_=>exact False.elim f}
def KN:↥D->(OV->Prop)->Prop
 |[.int i,.int j],P=>P (.fz (.int (if j > i then j else i)))
 |_,_=>False
def M0:↥D->(OV->Prop)->Prop
 |[.int i,.int j],P=>P (.fz (.int (if j<i then j else i)))
 |_,_=>False
def IK:CallF K LA KN:=-{by
 intro F H xs ds Q P s c f n
 cases ds with
 |nil=>exact False.elim f
 | cons d tl=>
 cases d with
 | int i=>
  cases tl with
  |nil=>exact False.elim f
  | cons e tl=>
  cases e with
  | int j=>
   cases tl with
   |cons _ _=>exact False.elim f
   | nil=>
   obtain⟨x,y,rfl,a,b⟩:=nX c;exact{_,_,by rw[a.int_eq,b.int_eq],ax s n (.int _) f}
  |_=>exact False.elim f
 |_=>exact False.elim f}
def IL:CallF K LB M0:=-{by
 intro F H xs ds Q P s c f n
 cases ds with
 |nil=>exact False.elim f
 | cons d tl=>
 cases d with
 | int i=>
  cases tl with
  |nil=>exact False.elim f
  | cons e tl=>
  cases e with
  | int j=>
   cases tl with
   |cons _ _=>exact False.elim f
   | nil=>
   obtain⟨x,y,rfl,a,b⟩:=nX c;exact{_,_,by rw[a.int_eq,b.int_eq],ax s n (.int _) f}
  |_=>exact False.elim f
 |_=>exact False.elim f}
def cIs:↥D->(OV->Prop)->Prop
 |[d,.ty T],P=>(DC (tyD d)=true/\DC T=true)/\P (.fz (.bl (isT (tyD d) T)))
 |_,_=>False
def L0:CallF K (LY K) cIs:=-{by
 intro F H xs ds Q P s c f n
 cases ds with
 |nil=>exact False.elim f
 | cons d ds=>
 cases ds with
 |nil=>exact False.elim f
 | cons e ds=>
 cases e with
 | ty T=>
  cases ds with
  |cons _ _=>exact False.elim f
  | nil=>
  obtain⟨x,y,rfl,a,b⟩:=nX c;exact{x,_,_,by rw[b.ty_eq],a.den s,f.1.1,f.1.2,ax s n (.bl _) f.2}
 |_=>exact False.elim f}
def gE:↥D->Option ↥Bool
 |[]=>![]
 |.bl b::ds=>(gE ds).map (b::·)
 |_::_=>none
theorem j9:∀{ds:↥D} {bs:↥Bool},gE ds=!bs->ds=bs.map .bl
 |[],_,h=>by simp only[gE,Option.some.injEq] at h;subst h;rfl
 | d::ds,bs,h=>by
  cases d <;> simp[gE] at h;obtain⟨a,h1,rfl⟩:=h;rw[j9 h1];rfl
theorem lv:∀bs:↥Bool,gE (bs.map .bl)=!bs
 |[]=>rfl
 |b::bs=>by rw[abT,gE,lv bs];rfl
def vU:↥D->(OV->Prop)->Prop
 | [.lst ds],P=>(match gE ds with
  |some bs=>P (.fz (.bl (bs.all id)))
  |none=>False)
 |_,_=>False
def F6:↥D->(OV->Prop)->Prop
 | [.lst ds],P=>(match gE ds with
  |some bs=>P (.fz (.bl (bs.any id)))
  |none=>False)
 |_,_=>False
def IM:CallF K (KE K) vU:=-{by
 intro F H xs ds Q P s c f n
 cases ds with
 |nil=>exact False.elim f
 | cons d tl=>
 cases d with
 | lst ds=>
  cases tl with
  |cons _ _=>exact False.elim f
  | nil=>
  obtain⟨x,rfl,a⟩:=bH c;obtain⟨p,ys,rfl,h1,h2⟩:=a.asL s;unfold vU at f;dsimp only at f
  cases b:gE ds with
  |none=>rw [b] at f;exact False.elim f
  | some bs=>
   rw[b] at f;rw[j9 b] at h2;exact{p,bs,rfl,by rw[← h2.bls_eq];exact h1,ax s n (.bl _) f}
 |_=>exact False.elim f}
def IN:CallF K (KF K) F6:=-{by
 intro F H xs ds Q P s c f n
 cases ds with
 |nil=>exact False.elim f
 | cons d tl=>
 cases d with
 | lst ds=>
  cases tl with
  |cons _ _=>exact False.elim f
  | nil=>
  obtain⟨x,rfl,a⟩:=bH c;obtain⟨p,ys,rfl,h1,h2⟩:=a.asL s;unfold F6 at f;dsimp only at f
  cases b:gE ds with
  |none=>rw [b] at f;exact False.elim f
  | some bs=>
   rw[b] at f;rw[j9 b] at h2;exact{p,bs,rfl,by rw[← h2.bls_eq];exact h1,ax s n (.bl _) f}
 |_=>exact False.elim f}
def xC:Key->D
 |.inl i=>.int i
 |.inr z=>.str z
theorem fE{F:Hp}:∀(ks:↥Key),Dens K F (ks.map kV) (ks.map xC)
 |[]=>.nil
 |.inl i::ks=>.cons (.int i) (fE ks)
 |.inr z::ks=>.cons (.str z) (fE ks)
def DM:↥D->(OV->Prop)->Prop
 |[.lst ds],P=>P (.fl ds)
 |[.tup ds],P=>P (.fl ds)
 |[.dct ks _],P=>P (.fl (ks.map xC))
 |_,_=>False
def DN:CallF K (sH K) DM:=-{by
 intro F H xs ds Q P s b f n
 cases ds with
 |nil=>exact False.elim f
 | cons d tl=>
 cases d with
 | lst ds=>
  cases tl with
  |cons _ _=>exact False.elim f
  | nil=>
  obtain⟨x,rfl,a⟩:=bH b;obtain⟨p,ys,rfl,h1,h2⟩:=a.asL s;exact sJ h1 (dq s n h2 f)
 | tup ds=>
  cases tl with
  |cons _ _=>exact False.elim f
  | nil=>
  obtain⟨x,rfl,a⟩:=bH b;obtain⟨p,ys,rfl,h1,h2⟩:=a.asT s;exact sK h1 (dq s n h2 f)
 | dct ks es=>
  cases tl with
  |cons _ _=>exact False.elim f
  | nil=>
  obtain⟨x,rfl,a⟩:=bH b;obtain⟨p,ys,rfl,h1,h2,g⟩:=a.asD s;refine qg h1 (dq s n ?_ f);have e:(ys.map λc=>kV c.1)=(ys.map (·.1)).map kV:=by rw[aav];rfl
  rw[e,h2];exact fE _
 |_=>exact False.elim f}
def Ai:↥D->(OV->Prop)->Prop
 |[.lst ds],P=>P (.fz (.tup ds))
 |[.tup ds],P=>P (.fz (.tup ds))
 |_,_=>False
def xD:CallF K (sI K) Ai:=-{by
 intro F H xs ds Q P s b f n
 cases ds with
 |nil=>exact False.elim f
 | cons d tl=>
 cases d with
 | lst ds=>
  cases tl with
  |cons _ _=>exact False.elim f
  | nil=>
  obtain⟨x,rfl,a⟩:=bH b;obtain⟨p,ys,rfl,h1,h2⟩:=a.asL s;exact qh h1 (j4 s n h2 f)
 | tup ds=>
  cases tl with
  |cons _ _=>exact False.elim f
  | nil=>
  obtain⟨x,rfl,a⟩:=bH b;have c:=a;obtain⟨p,ys,rfl,h1,h2⟩:=a.asT s;refine{p,ys,rfl,.inr {h1,?_}}
  cases c with
  |fz h=>exact ax s n h f
 |_=>exact False.elim f}
def dN:↥D->Option ↥Str
 |[]=>![]
 |.str z::ds=>(dN ds).map (z::·)
 |_::_=>none
theorem fF:∀{ds:↥D} {zs:↥Str},dN ds=!zs->ds=zs.map .str
 |[],_,h=>by simp only[dN,Option.some.injEq] at h;subst h;rfl
 | d::ds,bs,h=>by
  cases d <;> simp[dN] at h;obtain⟨a,h1,rfl⟩:=h;rw[fF h1];rfl
theorem jC:∀zs:↥Str,dN (zs.map .str)=!zs
 |[]=>rfl
 |b::bs=>by rw[abT,dN,jC bs];rfl
def du:↥Key->Option ↥Str
 |[]=>![]
 |.inr z::ks=>(du ks).map (z::·)
 |.inl _::_=>none
theorem jD:∀{ds:↥Key} {zs:↥Str},du ds=!zs->ds=zs.map Sum.inr
 |[],_,h=>by simp only[du,Option.some.injEq] at h;subst h;rfl
 | d::ds,bs,h=>by
  cases d <;> simp[du] at h;obtain⟨a,h1,rfl⟩:=h;rw[jD h1];rfl
theorem iE:∀zs:↥Str,du (zs.map Sum.inr)=!zs
 |[]=>rfl
 |b::bs=>by rw[abT,du,iE bs];rfl
def tu:↥D->(OV->Prop)->Prop
 | [.lst ds],P=>(match dN ds with
  |some zs=>zs.length<64/\P (.fl ((bF zs).map .str))
  |none=>False)
 | [.dct ks _],P=>(match du ks with
  |some zs=>zs.length<64/\P (.fl ((bF zs).map .str))
  |none=>False)
 |_,_=>False
def og(P:Program)(w:World)(K:Frag):↥V->Hp->VK->Prop:=λxs H Q=>sG P w K xs H Q∨∃p kvs zs,xs=[.ref p]/\Rd H p (.dK kvs)/\kvs.map (·.1)=zs.map Sum.inr/\kvs.length<64/\∀q ss,H q=none->ss.Perm zs->sortedS ss=true->Q (.ref q) (upd H q (.lst (ss.map .str)))
def xE(P:Program)(w:World)(K:Frag)(a:X.calm=true)(c:X.prog=P)(b:X.w=w)(h:X.K=K):BCall X (.builtin "sorted") (og P w K):=by subst h c b;exact{(ll a).or (lr a)}
def DO{P:Program}:CallF K (og P w K) tu:=-{by
 intro F H xs ds Q k s g f n
 cases ds with
 |nil=>exact False.elim f
 | cons d tl=>
 cases d with
 | lst ds=>
  cases tl with
  |cons _ _=>exact False.elim f
  | nil=>
  obtain⟨x,rfl,a⟩:=bH g;obtain⟨p,ys,rfl,h1,h2⟩:=a.asL s;unfold tu at f;dsimp only at f
  cases b:dN ds with
  |none=>rw [b] at f;exact False.elim f
  | some zs=>
   rw[b] at f;rw[fF b] at h2;rw[h2.strs_eq] at h1;refine .inl {p,zs,rfl,.inr h1,f.1,λq ss c e hs=>?_};rw[gx e hs];exact dq s n (Dens.strs _) f.2 q c
 | dct ks es=>
  cases tl with
  |cons _ _=>exact False.elim f
  | nil=>
  obtain⟨x,rfl,a⟩:=bH g;obtain⟨p,ys,rfl,h1,h2,j⟩:=a.asD s;unfold tu at f;dsimp only at f
  cases b:du ks with
  |none=>rw [b] at f;exact False.elim f
  | some zs=>
   rw[b] at f;rw[jD b] at h2;have i:ys.length=zs.length:=by have:=congrArg List.length h2;rwa [abP,abP] at this
   refine .inr {p,ys,zs,rfl,h1,h2,by rw[i];exact f.1,λq ss c e hs=>?_};rw[gx e hs];exact dq s n (Dens.strs _) f.2 q c
 |_=>exact False.elim f}
def L1:↥D->(OV->Prop)->Prop
 | [.str z],P=>(match z.cps.toList with
  |[c]=>P (.fz (.int c))
  |_=>False)
 |_,_=>False
def IP:CallF K MZ L1:=-{by
 intro F H xs ds Q P s d f n;unfold L1 at f;split at f
 .split at f
  .rename_i c b;obtain⟨x,rfl,a⟩:=bH d;exact{c,by rw[a.str_eq,Ag b],ax s n (.int _) f}
  .exact f.elim
 .exact f.elim}
def lw(zs:↥Str):↥Str:=zs.foldl (λacc z=>KS.dedup1 acc z) []
theorem gb:∀(zs acc:↥Str),acc.Nodup->(zs.foldl (λacc z=>KS.dedup1 acc z) acc).Nodup/\∀k,k∈zs.foldl (λacc z=>KS.dedup1 acc z) acc↔k∈acc∨k∈zs
 |[],acc,h=>{h,λk=>by simp}
 | z::zs,acc,h=>by
  obtain⟨h1,h2⟩:=gb zs (KS.dedup1 acc z) (gu h);refine{h1,λk=>?_};rw[List.foldl_cons,h2 k,fV,abS];constructor
  .rintro ((a|a)|a)
   .exact .inl a
   .exact .inr (.inl a)
   .exact .inr (.inr a)
  .rintro (a|a|a)
   .exact .inl (.inl a)
   .exact .inl (.inr a)
   .exact .inr a
def gy(zs:↥Str):(lw zs).Nodup:=-(gb zs [] aaH).1
def jE{k:Str}:k∈lw zs↔k∈zs:=by
 have:=(gb zs [] aaH).2 k;simpa [lw] using this
def mm(zs:↥Str):↥Str:=bF (lw zs)
def ka{k:Str}:k∈mm zs↔k∈zs:=by rw[mm,(aB _).mem_iff,jE]
def jF(zs:↥Str):(mm zs).Nodup:=-(aB _).nodup_iff.mpr (gy zs)
def mO(zs:↥Str):(mm zs).Pairwise λa b=>cR a b=true:=-bR _
def iF{a b:↥Str}(d:a.Nodup)(c:b.Nodup)(h:∀k,k∈a↔k∈b):a.Perm b:=-(List.perm_ext_iff_of_nodup d c).mpr h
def eX(c:ss.Nodup)(d:∀k,k∈ss↔k∈zs)(hs:ss.Pairwise λa b=>cR a b=true):ss=mm zs:=-
 iC (iF c (gy zs) λk=>(d k).trans jE.symm) hs
def kb(fe:FE):FE:=λρ Q=>fe ρ λr a=>on1 a r λd=>match d with
 | .lst ds=>(match dN ds with
  |some zs=>(zs.length+1<scanBound/\(mm zs).length<64)/\Q (.ov (.fl ((mm zs).map .str))) a
  |none=>False)
 |_=>False
def qr{P:Program}(E:EF K μ te fe):EF K μ (tCB (og P w K) (cQ (tCB (KJ P w K) (cQ te ja)) ja)) (kb fe):=-{by
 intro F Z H L σ ρ A Q J u R h q;refine E.h u R h λr i v F1 H1 S O h1 y c v1 f1=>?_;obtain⟨d,G,h2⟩:=b4 h1;split at h2
 .split at h2
  .rename_i zs D;obtain⟨p,ys,rfl,t,s⟩:=(c.acc v1 G).asL c.fh;rw[fF D] at s;rw[s.strs_eq] at t;refine{p,zs,rfl,t,h2.1.1,λl b j n m _=>?_};refine .inl {l,b,rfl,.inl ag,?_,λl2 ss f g hs=>?_}
   .have g:b.Perm (mm zs):=iF m (jF zs) λk=>(n k).trans ka.symm;rw[g.length_eq];exact h2.1.2
   .have e:ss=mm zs:=eX (g.nodup_iff.mpr m) (λk=>(g.mem_iff).trans (n k)) (dM ss hs);subst e;have z:=(Pure.new (o:=KI P w l b) c.fh j).trans (Pure.new (p:=l2) (o:=.lst ((mm zs).map .str)) (c.fh.trans (bt j)) f);have a:H1 l2=none:=(bt j).free f;exact c.after (P:=λo=>J (.ov o) i) (λo v N M B p x I C fr=>q _ _ _ _ _ _ _ p (y.trans x) I C fr) _ _ F1 _ [l2] h2.2 z (.fl ag (Dens.strs _)) (New.one a (c.fh.free a))
  .exact h2.elim
 .exact h2.elim}
end
end L2
namespace KS
open PySem PySem.Spec PyProof.Rows
section
variable {prog:Program} {w:World} {A:Around} {E:Value->Shared->Prop} {s:Shared}
end
end KS
namespace L2
open PySem PySem.Spec PyProof.Rows
section
variable {X:Cx}
end
section
variable {K:Frag} {μ:↥Nat}
end
end L2
namespace L2
open PySem PySem.Spec PyProof.Rows PySem.W
variable{prog:Program}{w:World}{A:Around}{s:Shared}
def xF(n:Nat){α:Type}(c:α->Prop):KasT α->Prop
 |.ret a=>c a
 |.ask i j k=>i<n/\j<n/\∀b,xF n c (k b)
section
variable    {E:Value->Shared->Prop} 
end
section
variable     {C:Bool->Shared->Prop} {bb fn:Bool}
end
section
variable {X:Cx}
end
end L2
namespace L2
open PySem PySem.Spec PyProof.Rows
variable{P:Program}{w:World}{te:TE}{fe:FE}{n j:Nat}{T:↥Nat}{fg:FG}{ds:↥D}{ρ:FSt}{fb:FS}{E:FEnds}{lo i:Int}{d:D}{Q:D->Prop}{a b z:Str}{zs:↥Str}
section
variable {K:Frag} {μ:↥Nat}
def oh:↥D->Option ↥Str
 |[]=>![]
 |.tup (.str z::_)::ds=>(oh ds).map (z::·)
 |_::_=>none
def tw(P:Program)(w:World)(K:Frag):↥V->Hp->VK->Prop:=og P w K
def xG{X:Cx}(P:Program)(w:World)(K:Frag)(b:X.calm=true)(c:X.prog=P)(a:X.w=w)(h:X.K=K):BCall X (.builtin "sorted") (tw P w K):=-xE P w K b c a h
@[irreducible] def iG(ds:↥D)(P:OV->Prop):Prop:=tu ds P
def xH :CallF K (tw P w K) iG:=-{by
 intro F H xs ds Q b s a f n;unfold iG at f;exact DO.h s a f n}
def mP(a:EF K μ te fe):EF K μ (tCB (tw P w K) (cQ (tCB (KJ P w K) (cQ te ja)) ja)) (kb fe):=-qr a
@[irreducible] def M2:↥D->(OV->Prop)->Prop
 | [.lst ds],P=>(match dN ds with
  |some zs=>zs.length<64/\P (.fl ((bF zs).map .str))
  | none=>(match oh ds with
   |some zs=>(zs.Nodup/\zs.length<64)/\∀a:↥D,a.Perm ds->P (.fl a)
   |none=>False))
 | [.dct ks _],P=>(match du ks with
  |some zs=>zs.length<64/\P (.fl ((bF zs).map .str))
  |none=>False)
 |_,_=>False
def xI(e fe:FE):FE:=λρ Q=>e ρ λr b=>on1 b r λd=>match d with
 | .str z=>fe b λc a=>on1 a c λf=>(match f with
  | .lst ds=>(match dN ds with
   |some zs=>(zs.map (·.length)).sum+zs.length*z.length<=16777216/\Q (.ov (.fz (.str (Builtin.Str.glued z zs)))) a
   |none=>False)
  |_=>False)
 |_=>False
def DP{to:TE}{c:FE}(o:EF K μ to c)(r:EF K μ te fe):EF K μ (tBM K "str" (wJ K) to (cQ te ja)) (xI c fe):=-{by
 intro F Z H v σ ρ A Q P b R h q;refine o.h b R h λB j x F1 H1 J G h1 m g v1 f1=>?_;obtain⟨d,u,h2⟩:=b4 h1;split at h2
 .rename_i z;have ex:=(g.acc v1 u).str_eq;subst ex;refine{rfl,r.h b g h2 λw i y D H2 I E s l R2 k f2=>?_};obtain⟨C,t,a⟩:=b4 s;split at a
  .split at a
   .rename_i zs n;obtain⟨p,ys,rfl,f,e⟩:=(R2.acc k t).asL R2.fh;rw[fF n] at e;rw[e.strs_eq] at f;exact{z,p,zs,rfl,rfl,f,a.1,q _ _ _ _ _ _ [] a.2 (m.trans l) R2 (.fz (.str _)) Fresh.nil}
   .exact a.elim
  .exact a.elim
 .exact h2.elim}
end
section
variable {K:Frag}
def M3(h:j<n):EF K (List.range n) (cV j) (ab j):=-sN (by simp[h])
def ef_w(h:autoParam (j<n) L2.aD._auto_1):EF K (List.range n) (cV j) (ab j):=-M3 h
def gf_n(h:j<n):GF K (List.range n) [j] (eQ j) (ac j):=-sR (by simp[h]) List.nodup_range
def DQ(h:j<n)(a:EF K (List.range n) te fe):EF K (List.range n) (tBM K "list" dY (cV j) (cQ te ja)) (qm j fe):=-Io (by simp[h]) a
def xJ{m:↥Nat}(h:(m.all λi=>⇑(T.contains i))=true):∀i∈m,i∉T:=-λi hi a=>by
 have:=List.all_eq_true.mp h i hi;simp[a] at this
def L3{no:Nat}(h:(T.all λi=>decide (i<no))=true):∀i∈T,i<no:=-λi hi=>of_decide_eq_true (List.all_eq_true.mp h i hi)
def Fun.okG{mg:Str->Option Value}{base:Heap}{x qual:Str}{st:Stmt}{f:Addr}{fd:FuncData}{N ps:↥Str}{k:Nat}{c:Ct}{fs:FS}(n:Nat)(m:↥Nat)(F:Fun K x qual st f fd)(S:FnScope N ps (av st))(d:N.length=n)
  (l:ps.length<=n) (b:∀os P,c os P->os.length=ps.length/\∀j o,os[j]?=!o->j∉m->sY o=true) (e:∀i∈m,i<ps.length)
  (a:∀(cdv:Value) (A:Around) (outer:↥Env) (s:Shared) (H:Hp) (E:XK),Room k (A.deeper (envOfC qual (av st) s.heap.objs.size f cdv)) ->
   ∃t,BSs (rA CX0 P w K mg base N qual (av st) f cdv A outer s H E).nox (bu st) t/\SF K n m t fs)
  (g:∀os P,c os P->fs { nx:=fin m os P (.fz .non),rt:=fin m os P } (ao n os)):FnOk P w K mg base CX0 (k+1) f fd ps (spM K c):=by
 subst d;exact Fun.okF F S l b e a g
end
def aL{ft:FT}{P:↥D->FSt->Prop}{f:↥D}(I:Nat->↥D->FSt->Prop)(p:I 0 f ρ)
  (hs:∀(i:Nat) (d:D) (as:↥D) (ρ:FSt) (R:↥D->FSt->Prop),ds[i]?=!d->I i as ρ->(∀c a,I (i+1) c a->R c a) ->
   fg d ρ λn=>ft n λb g=>br b (fe g λr m=>match fzR r m with
    |some (y,l)=>as.length<sizeLine/\R (as++[y]) l
    |none=>False) (R as g))
  (hd:∀as ρ,I ds.length as ρ->P as ρ):ei fg ft fe P ds f ρ:=by
 have j:∀(k i:Nat) (as:↥D) (ρ:FSt),i+k=ds.length->I i as ρ->ei fg ft fe P (ds.drop i) as ρ:=by
  intro k
  induction k with
  | zero=>
   intro i as ρ e h;have:i=ds.length:=()
   subst this;rw[aaO];exact sW (hd as ρ h)
  | succ k o=>
   intro i as ρ e h;have hi:i<ds.length:=()
   rw[aat hi];exact ql (hs i ds[i] as ρ _ (List.getElem?_eq_getElem hi) h λc a h'=>o (i+1) c a () h')
 have:=j ds.length 0 f ρ () p
 rwa [aaR] at this
def aW(I:Nat->FSt->Prop)(g:I 0 ρ)
  (hs:∀(i:Nat) (d:D) (ρ:FSt) (R:FSt->Prop),ds[i]?=!d->I i ρ->(∀a,I (i+1) a->R a)->fg d ρ λc=>fb { nx:=R,ct:=R,bk:=E.nx,rt:=E.rt } c)
  (hd:∀ρ,I ds.length ρ->E.nx ρ):dm fg fb E ds ρ:=by
 have b:∀(k i:Nat) (ρ:FSt),i+k=ds.length->I i ρ->dm fg fb E (ds.drop i) ρ:=by
  intro k
  induction k with
  | zero=>
   intro i ρ e h;have:i=ds.length:=()
   subst this;rw[aaO];exact sV (hd ρ h)
  | succ k f=>
   intro i ρ e h;have hi:i<ds.length:=()
   rw[aat hi];exact qk (hs i ds[i] ρ _ (List.getElem?_eq_getElem hi) h λa h'=>f (i+1) a () h')
 have:=b ds.length 0 ρ () g
 rwa [aaR] at this
def cY{fc:FT}(I:Nat->FSt->Prop)(n:Nat)(f:I n ρ)
  (hs:∀(m:Nat) (ρ:FSt) (R:FSt->Prop),I m ρ->(∀k a,k<m->I k a->R a)->fc ρ λb c=>br b (fb { nx:=R,ct:=R,bk:=E.nx,rt:=E.rt } c) (E.nx c)):iw fc fb E ρ:=by
 refine{n+1,?_}
 have d:∀(N m:Nat) (ρ:FSt),m<N->I m ρ->cn fc fb E N ρ:=by
  intro N
  induction N with
  |zero=>intro m ρ h _;nofun
  | succ N e=>
   intro m ρ h hi;exact mM (hs m ρ _ hi λk a g h'=>e k a () h')
 exact d (n+1) n ρ () f
def bh{i:Nat}(h:(dJ lo n)[i]?=!d):i<n/\d=.int (lo+i):=by
 unfold dJ at h;rw[List.getElem?_map,aaj] at h;obtain⟨k,h1,rfl⟩:=h;obtain⟨h2,a⟩:=List.getElem?_eq_some_iff.mp h1;rw[List.getElem_range] at a;rw[ab8] at h2;subst a;exact{(h2),rfl}
def bS :(dJ lo n).length=n:=by simp[dJ]
theorem cJ{xs:↥D}(a:0<=i)(h:i<xs.length)(q:∀d∈xs,Q d):match atI xs i with
  |some d=>Q d
  | none=>False:=by
 obtain⟨c,h1,h2⟩:=zY a h;rw[h1];exact q c h2
theorem ke{xs:↥Nat}{Q:Nat->Prop}(a:0<=i)(h:i<xs.length)(q:∀d∈xs,Q d):match atI xs i with
  |some d=>Q d
  | none=>False:=by
 obtain⟨c,h1,h2⟩:=zY a h;rw[h1];exact q c h2
def aq :dEq (.str a) (.str b)=true↔a=b:=by
 show (a==b)=true↔_;rw[beq_iff_eq]
def bM{a b:Int}:dEq (.int a) (.int b)=true↔a=b:=by
 show (a==b)=true↔_;rw[beq_iff_eq]
def oj :(⇑(dEq (.str a) (.str b)))=true↔a≠b:=by
 rw[aaV,abI,Ne,aq]
def ai :DL (.str a) (.str b):=-{rfl,rfl,aan _}
def aS{a b:Int}:DL (.int a) (.int b):=-{rfl,rfl,aan _}
theorem om{z:Str}:∀{zs:↥Str},inV (.str z) (zs.map V.str)=true↔z∈zs
 |[]=>by simp[inV]
 | y::zs=>by
  have a:=om (z:=z) (zs:=zs);unfold inV at a ⊢;rw[abT,abB,Bool.or_eq_true,a,abS]
  have:eqV (.str y) (.str z)=true↔z=y:=by
   show (y==z)=true↔_;rw[beq_iff_eq];exact eq_comm
  rw[this]
def b6 :inD (.str z) (zs.map D.str)=true↔z∈zs:=by
 unfold inD;have:(zs.map D.str).map vOf=zs.map V.str:=by rw[aav];rfl
 rw[this];exact om
def gM(zs:↥Str):(zs.map D.str).all flD=true:=by
 induction zs with
 |nil=>rfl
 |cons z zs a=>exact a
def bm :qp (zs.map Sum.inr) (.inr z)=true↔z∈zs:=by
 unfold qp;rw[abw,aaK];constructor
 .rintro⟨y,h1,h2⟩;have:=of_decide_eq_true h2;cases this;exact h1
 .intro h;exact{z,h,by simp}
theorem kg{Q:↥Str->Prop}(q:Q zs):match dN (zs.map .str) with
  |some zs=>Q zs
  | none=>False:=by
 rw[jC];exact q
theorem iH{bs:↥Bool}{Q:↥Bool->Prop}(q:Q bs):match gE (bs.map .bl) with
  |some zs=>Q zs
  | none=>False:=by
 rw[lv];exact q
def lx :(iA (zs.map Sum.inr) ds (.inr z) d).1=(KS.dedup1 zs z).map Sum.inr:=by
 unfold iA KS.dedup1;by_cases h:z∈zs
 .have e:((zs.map Sum.inr).any λx=>decide (x=(Sum.inr z:Key)))=true:=bm.mpr h;rw[if_pos e,if_pos h]
 .have e:¬((zs.map Sum.inr).any λx=>decide (x=(Sum.inr z:Key)))=true:=λq=>h (bm.mp q);rw[if_neg e,if_neg h,aae];rfl
theorem ly:∀(zs acc:↥Str),(zs.foldl (λacc z=>KS.dedup1 acc z) acc).length<=acc.length+zs.length
 |[],acc=>by simp
 | z::zs,acc=>by
  rw[List.foldl_cons,abX];have:=ly zs (KS.dedup1 acc z);have:=(qi acc z).2.1;nofun
def xK(zs:↥Str):(mm zs).length<=zs.length:=by
 rw[mm,(aB _).length_eq];have:=ly zs [];simpa [lw] using this
def iI{P:OV->Prop}(a:zs.length<64)(h:P (.fl ((bF zs).map .str))):iG [.dct (zs.map Sum.inr) ds] P:=by
 unfold iG tu;simp only[iE];exact{(a),h}
theorem bN{x:D}{r:↥D}(q:Q x):match atI (x::r) 0 with
  |some d=>Q d
  | none=>False:=by
 rw[LL];exact q
end L2
namespace KS
open PySem PySem.Spec PyProof.Rows
open PySem.W
section
variable {prog:Program} {w:World} {K:Type} [DecidableEq K] {knd:KeyKind prog w K} {A:Around} {E:Value->Shared->Prop} {s:Shared}
end
end KS
namespace L2
open PySem PySem.Spec PyProof.Rows
variable{X:Cx}{μ ixs T:↥Nat}{e tg l:Expr}{ty te tl t:TE}{apos cpos:Pos}{i j n no i0 j0 ep:Nat}{fk fe:FE}{F H:Hp}{g:TG}{fg:FG}{tc:TT}{fc:FT}{ρ:FSt}{a it:Addr}{o:Obj}{kvs:↥(Key×V)}{vs:↥(Key×Value)}{P:Program}{w:World}{st:Stmt}
section
variable {K:Frag} 
end
def DR{o:Expr}{td:TE}(d:BE X o td)(f:BE X e ty)(b:attributeBase o "pop" X.env (eval o X.env)=eval o X.env)(c:a9 e=true)(a:(apos.endLine==cpos.line)=true):BE X (.Call (.Attribute o "pop" apos) [e] [] cpos) (nJ td ty):=-
 {wA d.h f.h {b,nO (es:=[e]) (by simp[c]) (by show 1<29;decide),a,by
  rw[aP c];rfl}}
section
variable {K:Frag} 
def mQ(ks:↥Key)(ds:↥D)(k:Key):↥Key×↥D:=(ks.filter λx=>decide (x≠k),((ks.zip ds).filter λa=>decide (a.1≠k)).map (·.2))
def DS(i:Nat)(fk:FE):FE:=λρ Q=>(unD ρ i).isSome=true/\fk ρ λs a=>on1 a s λb=>match ml b,unD a i with
 | some k,↑(ks,ds)=>(match iD ks ds k with
  |some d=>Q (.ov (.fz d)) (a.set i !(.fd (mQ ks ds k).1 (mQ ks ds k).2))
  |none=>False)
 |_,_=>False
theorem lz{F:Hp}{k:Key}:∀{ys:↥(Key×V)} {ks:↥Key} {ds:↥D},ys.map (·.1)=ks->Dens K F (ys.map (·.2)) ds->(jb ys k).map (·.1)=(mQ ks ds k).1/\Dens K F ((jb ys k).map (·.2)) (mQ ks ds k).2
 |[],_,ds,a,h=>by subst a;cases h;exact{rfl,.nil}
 | y::ys,_,ds,a,h=>by
  subst a
  cases h with
  | @cons _ f _ ds h1 h2=>
   obtain⟨d,c⟩:=lz (k:=k) rfl h2;unfold jb mQ at *;by_cases e:y.1=k
   .have b:decide (y.1≠k)=false:=decide_eq_false λz=>z e;simp only[List.map_cons,List.zip_cons_cons,List.filter_cons,b,if_neg Bool.false_ne_true];exact{(d),c}
   .have b:decide (y.1≠k)=true:=decide_eq_true e;simp only[List.map_cons,List.zip_cons_cons,List.filter_cons,b,if_pos];exact{by rw[d],.cons h1 c}
def DT(z:μ[j]?=!i)(y:EF K μ ty fk):EF K μ (nJ (cV j) ty) (DS i fk):=-{by
 intro F Z H O σ ρ A Q P m R h q;obtain⟨B,h⟩:=h;obtain⟨⟨x,M⟩,J⟩:=ab4.mp B;obtain⟨a,g,h1,h2,_,_,_⟩:=R.mutD J;refine{.ref a,(m j i z).1.trans h1,a,rfl,.inl {g,.inl h2},?_};refine y.h m R h λr o v F1 H1 W U w s n v1 f1=>?_;obtain⟨S,D,b⟩:=b4 w;split at b
 .rename_i k ks ds G I;split at b
  .rename_i d E;obtain⟨T,ys,f,l,c,e,mt⟩:=n.mutD I;rw[h1] at f;cases f;obtain⟨p,C,L⟩:=j6 c e E;obtain⟨u,t⟩:=lz (k:=k) c e;obtain⟨V,N⟩:=mt (jb ys k) _ _ u t;exact{ys,k,p,l,eW (n.acc v1 D) G,C,q _ _ _ _ _ _ _ b s N (.fz L) Fresh.nil}
  .exact b.elim
 .exact b.elim}
def xL(h:j<n)(a:EF K (List.range n) ty fk):EF K (List.range n) (nJ (cV j) ty) (DS j fk):=-DT (by simp[h]) a
def iJ:D->Bool
 |.non=>true
 |_=>false
def Acc.isNon{v:V}{d:D}(h:Acc K F H v d):decide (v=.non)=iJ d:=by
 cases h with
 |fz h=>cases h <;> first|rfl|exact decide_eq_false (λz=>nomatch z)
 |lst=>exact decide_eq_false (λz=>nomatch z)
 |dct=>exact decide_eq_false (λz=>nomatch z)
 |dt=>exact decide_eq_false (λz=>nomatch z)
def xM:D->D->(OV->Prop)->Prop
 |d,.non,P=>P (.fz (.bl (iJ d)))
 |_,_,_=>False
def lA:D->D->(OV->Prop)->Prop
 |d,.non,P=>P (.fz (.bl (⇑(iJ d))))
 |_,_,_=>False
def DU:OpF K MV xM:=-{by
 intro F H x y d e Q P s b a f n;unfold xM at f;split at f
 .exact{a.non_eq,by rw[b.isNon];exact ax s n (.bl _) f}
 .exact f.elim}
def xN:OpF K HB lA:=-{by
 intro F H x y d e Q P s b a f n;unfold lA at f;split at f
 .exact{a.non_eq,by rw[b.isNon];exact ax s n (.bl _) f}
 .exact f.elim}
end
section
variable {K:Frag} 
end
section
variable {K:Frag} 
end
def kh(fg:FG)(ft:FT)(fe:FE)(P:↥D->FSt->Prop)(sl:Nat)(all:↥D):↥D->↥D->FSt->Prop
 |[],as,ρ=>unL ρ sl=!all/\P as ρ
 | d::ds,as,ρ=>unL ρ sl=!all/\fg d ρ λf=>ft f λb a=>br b (fe a λr e=>match fzR r e with
  |some (y,c)=>as.length<sizeLine/\kh fg ft fe P sl all ds (as++[y]) c
  |none=>False) (kh fg ft fe P sl all ds as a)
@[irreducible] def eA(fg:FG)(ft:FT)(fe:FE)(P:↥D->FSt->Prop)(sl:Nat)(all ds as:↥D)(ρ:FSt):Prop:=kh fg ft fe P sl all ds as ρ
def iK(fg:FG)(ft:FT)(fe:FE)(P:↥D->FSt->Prop)(sl:Nat)(all ds:↥D):eA fg ft fe P sl all ds=kh fg ft fe P sl all ds:=by funext as ρ;unfold eA;rfl
def jG(fg:FG)(ft:FT)(fe:FE)(P:↥D->FSt->Prop)(sl:Nat)(all as:↥D)(ρ:FSt):eA fg ft fe P sl all [] as ρ=(unL ρ sl=!all/\P as ρ):=by rw[iK];rfl
def jH(fg:FG)(ft:FT)(fe:FE)(P:↥D->FSt->Prop)(sl:Nat)(all:↥D)(d:D)(ds as:↥D)(ρ:FSt):eA fg ft fe P sl all (d::ds) as ρ=(unL ρ sl=!all/\fg d ρ λf=>ft f λb a=>br b (fe a λr e=>match fzR r e with
  |some (y,c)=>as.length<sizeLine/\eA fg ft fe P sl all ds (as++[y]) c
  |none=>False) (eA fg ft fe P sl all ds as a)):=by rw [iK,iK];rfl
def oo(no i:Nat)(fg:FG)(ft:FT)(fe:FE):FE:=λρ Q=>match unL ρ i with
 |some ds=>ji (List.replicate no none++ρ) (eA fg ft fe (λas a=>Q (.ov (.fl as)) (a.drop no)) (no+i) ds ds [])
 |none=>False
section
variable {K:Frag} 
def xO(hj0:μ[j0]?=!i0)(hix:∀j∈ixs,j<μ.length)(hg:GF K (muC no ixs μ) T g fg)(hT:∀i∈T,i<no)
  (hc:TF K (muC no ixs μ) tc fc) (he:EF K (muC no ixs μ) te fe):EF K μ (dZ no ixs (mz K (cV j0)) g tc te) (oo no i0 fg fc fe):=-{by
 intro F Z H τ σ ρ A Q P vw R h q;unfold oo at h;split at h
 case h_2=>exact h.elim
 rename_i ds e0;obtain⟨a0,xs0,g1,g2,g3,_⟩:=R.mutL e0;refine{.ref a0,(vw j0 i0 hj0).1.trans g1,a0,rfl,{xs0,SqL.of g2},?_};have h1:=h;rw[di] at h1;have R1:=R;have s1:Same F F:=Same.refl _
 have own:∀{F' H' f c A'},Rel K F' Z H' f c A'->(∀i,no<=i->f[i]?=(List.replicate no none++σ)[i]?)->unL c (no+i0)=!ds->∃xs,H' a0=!(.lst xs)/\Dens K F' xs ds:=by
  intro F' H' f c A' l k e;obtain⟨b,ys,q1,q2,q3,_⟩:=l.mutL e;rw[k (no+i0) (),List.getElem?_append_right (by simp),aaE,aba,g1] at q1;cases q1;exact{(ys),q2,q3}
 intro a ha;have S:F a=none:=R1.fh.free ha;have E:Z a=none:=R1.zh.free ha
 have W:a∉A:=λz=>by
  obtain⟨u,J⟩:=R1.sl.live a z;rw[ha] at J;cases J
 have R1':Rel K F Z (upd H a (.lst [])) (List.replicate no none++σ) (List.replicate no none++ρ) A:=by
  have:=R1.write (o:=.lst []) W S E;exact{this.sl.none_app no,this.nd,this.fr,this.fh,this.zh,this.dj}
 have N:∀F' H' f c A' acc as,Same F F'->Rel K F' Z H' f c A'->(∀i,no<=i->f[i]?=(List.replicate no none++σ)[i]?)->H' a=!(.lst acc)->F' a=none->a∉A'->Dens K F' acc as->P (.ov (.fl as)) (c.drop no)->Q (.ref a) H':=by
  intro F' H' f c A' acc as s' l k ha' hF' hA' dn p;obtain⟨A2,B2,e2,L⟩:=l.sl.dropN no
  have es:f.drop no=σ:=by
   apply List.ext_getElem?;intro i;rw[List.getElem?_drop,k (no+i) (),List.getElem?_append_right (by simp),aaE,aba]
  rw[es] at L;have Y:∀b∈A2,b∈A':=λb D=>by rw[e2];exact abQ.mpr (.inr D)
  have R2:Rel K F' Z H' σ (c.drop no) A2:={L,by have:=l.nd;rw[e2,abH] at this;exact this.2.1,λb D=>l.fr b (Y b D),l.fh,l.zh,l.dj}
  exact q _ _ _ _ _ _ [a] p (s1.trans s') R2 (.fl ha' dn) {by simp,λb D=>by
   have:b=a:=(by exists D);subst this;exact{hF',E,λz=>hA' (Y _ z)}}
 refine{λi k acc m H'=>k=ds.length - i/\i<=ds.length/\∃F' c A' f as,Same F F'/\Rel K F' Z H' f c A'/\View (muC no ixs μ) m f/\(∀i,no<=i->f[i]?=(List.replicate no none++σ)[i]?)/\H' a=!(.lst acc)/\F' a=none/\a∉A'/\Dens K F' acc as /\
   eA fg fc fe (λas c=>P (.ov (.fl as)) (c.drop no)) (no+i0) ds (ds.drop i) as c,
  {_,rfl,aan _,F,_,A,_,[],Same.refl _,R1',fB vw hix,λ_ _=>rfl,ag,S,W,.nil,by rw[aaR];exact h1},?_}
 rintro i k acc m H' ⟨rfl,hle,F',c,A',f,as,s',l,vw',kp,U,O,V,dn,h'⟩;by_cases C:i<ds.length
 .rw[aat C,jH] at h';obtain⟨J,h'⟩:=h';obtain⟨ys,w,t⟩:=own l kp J
  refine .inr {(by
   obtain⟨y,z1,z2⟩:=t.get (List.getElem?_eq_getElem C);exact{ys,y,SqL.of w,z1}),λacc m H'=>∃F' c A' f as,Same F F'/\Rel K F' Z H' f c A'/\View (muC no ixs μ) m f/\(∀i,no<=i->f[i]?=(List.replicate no none++σ)[i]?)/\H' a=!(.lst acc)/\F' a=none/\a∉A'/\Dens K F' acc as /\
   eA fg fc fe (λas c=>P (.ov (.fl as)) (c.drop no)) (no+i0) ds (ds.drop (i+1)) as c,λacc' n H2 z=>{_,(),rfl,C,z},λx H2 y=>?_}
  obtain⟨rfl,y⟩:=y;obtain⟨d,hd,dx⟩:=t.get' (y ys (SqL.of w));rw[List.getElem?_eq_getElem C] at hd;cases hd;refine hg.h vw' l dx h' fun τ2 n ρ2 A2 p2 s R2 k2 kl2 _ Y=>?_
  have M:∀i,no<=i->n[i]?=(List.replicate no none++σ)[i]?:=λi hi=>by
   rw[k2 i λz=>by have:=hT i z;nofun];exact kp i hi
  have fD:Fresh F' Z A2 [a]:={by simp,λb D=>by
   have:b=a:=(by exists D);subst this;exact{O,E,λz=>V (Y _ z)}}
  obtain⟨Z',sz,R2',zl,back⟩:=R2.hold (B:=[a]) (λb D=>by
   have:b=a:=(by exists D);subst this;exact{_,U}) (.one U (λ_ z=>nomatch z) .nil) fD
  refine hc.h s R2' p2 λb ρ3 F3 H3 A3 I G R3=>?_
  cases b with
  | false=>
   replace I:=sM I;rw[if_neg abU];obtain⟨R3',f3,k3⟩:=back _ _ _ _ G R3;have fa:=f3.fr a (by simp);exact{F3,ρ3,A3,n,as,s'.trans G,R3',s,M,k3 a _ (by simp) U,fa.1,fa.2.2,dn.mono G,I}
  | true=>
   replace I:=sL I;rw[if_pos rfl];refine he.h s R3 I λr ρ4 v F4 H4 A4 B4 X s4 R4 v4 f4=>?_;split at X
   .rename_i y ρ5 e5;obtain⟨F5,A5,s5,R5,dy,_,_⟩:=R4.frz v4 f4 e5;obtain⟨R5',f5,k5⟩:=back _ _ _ _ ((G.trans s4).trans s5) R5;have fa:=f5.fr a (by simp);refine{k5 a _ (by simp) U,by rw[dn.length];exact X.1,F5,ρ5,A5,n,as++[y],((s'.trans G).trans s4).trans s5,R5'.write fa.2.2 fa.1 E,s,M,ag,fa.1,fa.2.2,(dn.mono ((G.trans s4).trans s5)).snoc dy,X.2}
   .exact X.elim
 .have e:i=ds.length:=()
  subst e;rw[aaO,jG] at h';obtain⟨J,h'⟩:=h';obtain⟨ys,w,t⟩:=own l kp J;exact .inl {{ys,SqL.of w,by rw[t.length];exact aac _},N _ _ _ _ _ _ _ s' l kp U O V dn h'}}
def tD(h:j<n)(a:∀j∈ixs,j<(List.range n).length)(b:GF K (muC no ixs (List.range n)) T g fg)(e:∀i∈T,i<no)
  (d:TF K (muC no ixs (List.range n)) tc fc) (c:EF K (muC no ixs (List.range n)) te fe):EF K (List.range n) (dZ no ixs (mz K (cV j)) g tc te) (oo no j fg fc fe):=-xO (by simp[h]) a b e d c
def tE{ft:FT}{P:↥D->FSt->Prop}{sl:Nat}{all f:↥D}(I:Nat->↥D->FSt->Prop)(o:∀i as ρ,I i as ρ->unL ρ sl=!all)(q:I 0 f ρ)
  (hs:∀(i:Nat) (d:D) (as:↥D) (ρ:FSt) (R:↥D->FSt->Prop),all[i]?=!d->I i as ρ->(∀c a,I (i+1) c a->R c a) ->
   fg d ρ λn=>ft n λb g=>br b (fe g λr m=>match fzR r m with
    |some (y,l)=>as.length<sizeLine/\R (as++[y]) l
    |none=>False) (R as g))
  (hd:∀as ρ,I all.length as ρ->P as ρ):eA fg ft fe P sl all all f ρ:=by
 have j:∀(k i:Nat) (as:↥D) (ρ:FSt),i+k=all.length->I i as ρ->eA fg ft fe P sl all (all.drop i) as ρ:=by
  intro k
  induction k with
  | zero=>
   intro i as ρ e h;have:i=all.length:=()
   subst this;rw[aaO,jG];exact{o _ _ _ h,hd as ρ h}
  | succ k p=>
   intro i as ρ e h;have hi:i<all.length:=()
   rw[aat hi,jH];exact{o _ _ _ h,hs i all[i] as ρ _ (List.getElem?_eq_getElem hi) h λc a h'=>p (i+1) c a () h'}
 have:=j all.length 0 f ρ () q
 rwa [aaR] at this
end
section
variable {K:Frag}
@[irreducible] def cMinD:↥D->(OV->Prop)->Prop
 |[.dct ks _],P=>∃zs:↥Str,ks=zs.map Sum.inr/\zs≠[]/\∀z∈zs,P (.fz (.str z))
 |_,_=>False
end
def tF(K:Frag):↥V->Hp->VK->Prop:=λxs H Q=>∃p kvs,xs=[.ref p]/\Rd H p (.dK kvs)/\∀l,H l=none->Q (.ref l) (upd H l (.dK kvs))
def qt:CallR X (.type "dict") (tF X.K):=by
 intro pins s σ H xs us Q I r h;obtain⟨p,kvs,rfl,b,q⟩:=h;obtain⟨u,rfl,a⟩:=dS r;cases a;exact wB I b λl s' c d=>{.ref l,_,d,rfl,q l c}
def xP(K:Frag)(h:X.K=K):BCall X (.type "dict") (tF K):=by subst h;exact{(qt)}
section
variable {K:Frag}
def DW:↥D->(OV->Prop)->Prop
 |[.dct ks ds],P=>P (.fd ks ds)
 |_,_=>False
def DX:CallF K (tF K) DW:=-{by
 intro F H xs ds Q P s d f n;unfold DW at f;split at f
 .rename_i ks g;obtain⟨x,rfl,c⟩:=bH d;obtain⟨a,ys,rfl,h1,h2,e⟩:=c.asD s;exact{a,ys,rfl,h1,λq b=>n _ (.ref q) F _ [q] f (Pure.new s b) (.fd ag h2 e) (New.one b (s.free b))}
 .exact f.elim}
end
section
variable  {pins:↥(Addr×Obj)} {σ:St}  {s:Shared} 
def Inv.frozen(I:Inv X pins σ H s)(e:H a=!(.dK kvs))(f:s.heap.get? a=!o):Inv X pins σ (upd H a (.frz o (.dK kvs))) s:=by
 have st:∀{b u},ObjOk X.prog X.w H s.heap b u->ObjOk X.prog X.w (upd H a (.frz o (.dK kvs))) s.heap b u:=λx=>x.stay (λ_ _ _ q=>q) (λc q=>by
  rw[aj λz=>by rw[z,e] at q;cases q];exact q) λc xs q=>by
  rw[aj λz=>by rw[z,e] at q;cases q];exact q
 exact I.un (h':=s.heap) (t':=s.toks) (H':=upd H a (.frz o (.dK kvs))) {λb ob q _ _ _=>q,λb ob q _ _ _=>{(ob.slots),q},λb ob q n _=>by rw[aj λz=>by rw[z,e] at n;cases n];exact n,λb ob q _=>{(ob),q},
  λb xs q=>by rw[aj λz=>by rw[z,e] at q;cases q];exact q,λb ob u q=>by rw[aj λz=>by rw[z,e] at q;cases q];exact q,λb ps q=>{#[],by rw[aj (λz=>by rw[z,e] at q;cases q),q];simp}} (λb u q=>by
  by_cases d:b=a
  .subst d;rw[ag] at q;cases q;exact{f,st (I.hok b _ e)}
  .rw[aj d] at q;exact st (I.hok b u q))
def Inv.thaw(I:Inv X pins σ H s)(e:H a=!(.frz o (.dK kvs)))(j:∀o' f,X.H₀ a≠!(.frz o' f)):Inv X pins σ (upd H a (.dK kvs)) s:=by
 have nn:∀b,H b=none->upd H a (.dK kvs) b=none:=λb h=>by rw[aj λz=>by rw[z,e] at h;cases h];exact h
 have st:∀{b u},ObjOk X.prog X.w H s.heap b u->ObjOk X.prog X.w (upd H a (.dK kvs)) s.heap b u:=λx=>x.stay (λ_ _ _ q=>q) (λc q=>by
  rw[aj λz=>by rw[z,e] at q;cases q];exact q) λc xs q=>by
  rw[aj λz=>by rw[z,e] at q;cases q];exact q
 refine{I.ok,I.os,I.bare,{I.base.keep,I.base.slot,λb ob q n g=>nn b (I.base.free b ob q n g),I.base.there,λb xs q=>?_,λb ob u q=>?_,λb ps q=>?_},I.loc,I.cell,nn _ I.free,λx c q=>nn c (I.freeC x c q),λp i=>?_,λb u q=>?_,I.len}
 .have h:=I.base.tups b xs q;rw[aj λz=>by rw[z,e] at h;cases h];exact h
 .have h:=I.base.frzs b ob u q;rw[aj (λz=>j ob u (by rw[← z];exact q))];exact h
 .obtain⟨m,h⟩:=I.base.tbls b ps q;exact{m,by rw[aj λz=>by rw[z,e] at h;cases h];exact h}
 .obtain⟨h1,h2,k⟩:=I.pin p i;exact{h1,nn _ h2,k}
 .by_cases d:b=a
  .subst d;rw[ag] at q;cases q;exact st (I.hok b _ e).2
  .rw[aj d] at q;exact st (I.hok b u q)
def F7(kv:Key×V):V:=kV kv.1
def IQ(kv:Key×V):V:=kv.2
def Itd(c:Key×V->V)(a:Addr)(o:Obj)(kvs:↥(Key×V)):It:=
 {λi H=>H a=!(.frz o (.dK kvs))/\i<kvs.length,λi H x H'=>H'=H/\∃b,kvs[i]?=!b/\x=c b,λi H=>H a=!(.frz o (.dK kvs))/\i=kvs.length}
def L4(r:KV kvs vs):∀{i:Nat} {kv:Key×V},kvs[i]?=!kv->∃x,vs[i]?=!(kv.1,x):=by
 induction r with
 |nil=>intro i kv h;simp at h
 | @cons p q ps c h t a=>
  intro i kv e
  cases i with
  |zero=>simp at e;subst e;exact {q.2,by simp [h.1]}
  |succ i=>obtain ⟨x,b⟩:=a (i:=i) (kv:=kv) (by exists e);exact {x,(by exists b)}
def ki{es:Array DictEntry}(I:Inv X pins σ H s)(hd:o.data=.dict es ep)(e:H a=!(.frz o (.dK kvs))):∃vs,KV kvs vs/\kvs.length=vs.length/\s.heap.DictAt (aw X.prog X.w) a vs ep:=by
 obtain⟨c,j,k,vs,b,o',g,i,h1,h2,d,f⟩:=(show ObjOk X.prog X.w H s.heap a (.frz o (.dK kvs)) from I.hok a _ e);rw[c] at h1;cases h1;rw[hd] at d;cases d;exact{vs,b,aa4 b,o,es,c,h2,hd,f}
theorem tG{K:Frag}{es:Array DictEntry}(hd:o.data=.dict es ep):Turn P w K tg (Itd F7 a o kvs) [it] it (λi h=>h.IsKeyIter it a i kvs.length ep) where
 mem:=by simp
 obj:=λi h st b hb=>by
  have e:b=it:=(by exists hb);subst e;obtain⟨o,e,c,d⟩:=st;exact{o,e,λv z=>by rw[d] at z;cases z}
 keep:=λi h h' st k=>st.at λo e=>k it (by simp) o e
 item:=by
  intro X hP hw hK hc i pins s σ H E I hf st hg;subst hP hw hK;obtain⟨e,hlt⟩:=hg;obtain⟨vs,rv,hl,hat⟩:=ki I hd e;obtain⟨x,hx⟩:=L4 rv (List.getElem?_eq_getElem hlt);obtain⟨f0,f1,f2,f3,f4,f5⟩:=hf it (by simp);have st0:s.heap.IsKeyIter it a i vs.length ep:=hl ▸ st;refine wpAny_pyNext_dict_item (knd:=aw X.prog X.w) st0 hat hx λkey h' hkey st' sb=>?_;have I1:Inv X pins σ H { s with heap:=h' }:=I.turned (t':=s.toks) (λb o hb e=>(sb.2 b hb).trans e) f0 f1 f3 f4 f5;rw[← hl] at st';obtain⟨o2,e2,c2,d2⟩:=id st';refine{key,rfl,i9 (s:={ s with heap:=h' }) e2 c2 d2 (by decide) {kV kvs[i].1,H,I1,?_,{rfl,_,List.getElem?_eq_getElem hlt,rfl},st',λb hb=>(hf b hb).1}};rcases aT (show jO kvs[i].1 key=true from hkey) with ⟨j,t,q1,q2⟩|⟨z,t,q1,q2⟩
  .rw[q1,q2];exact{(t),rfl}
  .rw[q1,q2];exact{(t),rfl}
 done:=by
  intro X hP hw hK hc i pins s σ H E I hf st hg;subst hP hw hK;obtain⟨e,hlt⟩:=hg;obtain⟨vs,rv,hl,hat⟩:=ki I hd e;obtain⟨f0,f1,f2,f3,f4,f5⟩:=hf it (by simp);have st0:s.heap.IsKeyIter it a i vs.length ep:=hl ▸ st;exact wpAny_pyNext_dict_end (knd:=aw X.prog X.w) (I.ok.hd hc) st0 hat (by simp;nofun) λh' eb=>{rfl,I.turned (t':=s.toks) (λb o hb e=>eb b o hb e) f0 f1 f3 f4 f5}
 self:=λ_ _ _ _ _ st h=>wpAny_pyIter_keyiter st h
def IR(r:KV kvs vs):∀{i:Nat} {kv:Key×V},kvs[i]?=!kv->∃x,vs[i]?=!(kv.1,x)/\RelV kv.2 x:=by
 induction r with
 |nil=>intro i kv h;simp at h
 | @cons p q ps c h t a=>
  intro i kv e
  cases i with
  |zero=>simp at e;subst e;exact {q.2,by simp [h.1],h.2}
  |succ i=>obtain ⟨x,b,hr⟩:=a (i:=i) (kv:=kv) (by exists e);exact {x,(by exists b),hr}
theorem tH{K:Frag}{es:Array DictEntry}(hd:o.data=.dict es ep):Turn P w K tg (Itd IQ a o kvs) [it] it (λi h=>h.IsValIter it a i kvs.length ep) where
 mem:=by simp
 obj:=λi h st b hb=>by
  have e:b=it:=(by exists hb);subst e;obtain⟨o,e,c,d⟩:=st;exact{o,e,λv z=>by rw[d] at z;cases z}
 keep:=λi h h' st k=>st.at λo e=>k it (by simp) o e
 item:=by
  intro X hP hw hK hc i pins s σ H E I hf st hg;subst hP hw hK;obtain⟨e,hlt⟩:=hg;obtain⟨vs,rv,hl,hat⟩:=ki I hd e;obtain⟨x,hx,hr⟩:=IR rv (List.getElem?_eq_getElem hlt);obtain⟨f0,f1,f2,f3,f4,f5⟩:=hf it (by simp);have st0:s.heap.IsValIter it a i vs.length ep:=hl ▸ st;refine wpAny_pyNext_values_item (knd:=aw X.prog X.w) st0 hat hx λh' st' sb=>?_;have I1:Inv X pins σ H { s with heap:=h' }:=I.turned (t':=s.toks) (λb o hb e=>(sb.2 b hb).trans e) f0 f1 f3 f4 f5;rw[← hl] at st';obtain⟨o2,e2,c2,d2⟩:=id st';exact{x,rfl,i9 (s:={ s with heap:=h' }) e2 c2 d2 (by decide) {kvs[i].2,H,I1,hr,{rfl,_,List.getElem?_eq_getElem hlt,rfl},st',λb hb=>(hf b hb).1}}
 done:=by
  intro X hP hw hK hc i pins s σ H E I hf st hg;subst hP hw hK;obtain⟨e,hlt⟩:=hg;obtain⟨vs,rv,hl,hat⟩:=ki I hd e;obtain⟨f0,f1,f2,f3,f4,f5⟩:=hf it (by simp);have st0:s.heap.IsValIter it a i vs.length ep:=hl ▸ st;exact wpAny_pyNext_values_end (knd:=aw X.prog X.w) (I.ok.hd hc) st0 hat (by simp;nofun) λh' eb=>{rfl,I.turned (t':=s.toks) (λb o hb e=>eb b o hb e) f0 f1 f3 f4 f5}
 self:=λ_ _ _ _ _ st h=>wpAny_pyIter_valiter st h
def lB(b:Key×V->V)(tl:TE):TI:=λσ H R=>tl σ H λx H1=>∃a kvs,x=.ref a/\H1 a=!(.dK kvs)/\∀o,R (Itd b a o kvs) (upd H1 a (.frz o (.dK kvs)))
def DY(p:PE X l tl):PI X tg l (lB F7 tl):=by
 intro pins s σ H R I h;refine thn (p pins s σ H _ I h) λv c v=>?_;obtain⟨x,H1,d,m,n⟩:=v;obtain⟨a,kvs,e,f,q⟩:=n;subst e;cases m;obtain⟨A,t,vs,k,o,es,ep,h1,h2,j,u⟩:=(show ObjOk X.prog X.w H1 c.heap a (.dK kvs) from d.hok a _ f);have g:kvs.length=vs.length:=aa4 k;refine wpAny_pyIter_dict (knd:=aw X.prog X.w) t {(o),es,h1,h2,j,u} ?_;have y:=d.kept (t':=c.toks) (h':=c.heap.push { cls:=.type "dict_keyiterator", data:=.fields #[.ref a,.int 0 0,.int vs.length 0,.int ep 0] }) λb o e=>Heap.get?_push_of_some _ e;have w:=y.frozen f (Heap.get?_push_of_some _ h1);refine{c.heap.objs.size,[c.heap.objs.size],_,_,_,rfl,w,tG j,{_,Heap.get?_push_size _ rfl,rfl,by rw[g];rfl},λb r=>?_,q o};have e:b=c.heap.objs.size:=(by exists r);subst e;have i:=d.hok.fresh (aac c.heap.objs.size);exact d.fpOk (aac _) (by rw[aj λz=>by rw[z,f] at i;cases i];exact i)
def DZ(a:BE X l tl):BI X tg l (lB F7 tl):=-{DY a.h}
def D0(E:PE X l tl)(i:attributeBase l "values" X.env (eval l X.env)=eval l X.env)(g:(apos.endLine==cpos.line)=true):PI X tg (.Call (.Attribute l "values" apos) [] [] cpos) (lB IQ tl):=by
 intro pins s σ H R I h;refine wpAny_Call_method0_late i g (thn (E pins s σ H _ I h) λv c M=>?_);obtain⟨x,H1,m,C,D⟩:=M;obtain⟨a,kvs,e,n,q⟩:=D;subst e;cases C;obtain⟨L,G,vs,B,o,es,ep,h1,h2,t,w⟩:=(show ObjOk X.prog X.w H1 c.heap a (.dK kvs) from m.hok a _ n);have p:kvs.length=vs.length:=aa4 B;obtain⟨A,y,_⟩:=rM m (.inl {kvs,.inl n});refine{"dict", "dict.values", aby,PySem.F.slot_dict_values,PySem.F.type_dict_values,A,y,?_};refine abd rfl (PySem.evalArgs_none ?_);have k:c.heap.DictOf (aw X.prog X.w) a vs:={(o),es,ep,h1,h2,t,w};refine call_meetsIn PySem.F.slot_dict_values k.typeIs PySem.F.entry_dict_values (PySem.F.args_dict_values_1 _) (meets_dict_values (aw X.prog X.w) a G) {{(vs),k},?_};have f:∀b u,c.heap.get? b=!u->(c.heap.push { cls:=.type "dict_values", data:=.fields #[.ref a] }).get? b=!u:=λb u e=>Heap.get?_push_of_some _ e;refine wpAny_pyIter_values (knd:=aw X.prog X.w) (v:=c.heap.objs.size) (d:=a) {_,Heap.get?_push_size _ rfl,rfl,rfl} {o,es,f a o h1,h2,t,w} ?_;have K:=m.kept (t':=c.toks) (h':=(c.heap.push { cls:=.type "dict_values", data:=.fields #[.ref a] }).push { cls:=.type "dict_valueiterator", data:=.fields #[.ref a,.int 0 0,.int vs.length 0,.int ep 0] }) λb o e=>Heap.get?_push_of_some _ (f b o e);have J:=K.frozen n (Heap.get?_push_of_some _ (f a o h1));refine{(c.heap.push { cls:=.type "dict_values", data:=.fields #[.ref a] }).objs.size,[(c.heap.push { cls:=.type "dict_values", data:=.fields #[.ref a] }).objs.size],_,_,_,rfl,J,tH t,{_,Heap.get?_push_size _ rfl,rfl,by rw[p];rfl},λb F=>?_,q o};have e:b=(c.heap.push { cls:=.type "dict_values", data:=.fields #[.ref a] }).objs.size:=(by exists F);subst e;have j:c.heap.objs.size<=(c.heap.push { cls:=.type "dict_values", data:=.fields #[.ref a] }).objs.size:=by rw[aa0];exact aa7 _
 have r:=m.hok.fresh j;exact m.fpOk j (by rw[aj λz=>by rw[z,n] at r;cases r];exact r)
def D3(c:BE X l tl)(b:attributeBase l "values" X.env (eval l X.env)=eval l X.env)(a:(apos.endLine==cpos.line)=true):BI X tg (.Call (.Attribute l "values" apos) [] [] cpos) (lB IQ tl):=-{D0 c.h b a}
def qu(t:TE):TE:=λσ H Q=>t σ H λv H'=>∃a o kvs,H a=!(.dK kvs)/\H' a=!(.frz o (.dK kvs))/\Q v (upd H' a (.dK kvs))
def Inv.nofrz(I:Inv X pins σ H s)(e:H a=!(.dK kvs)):∀o' b,X.H₀ a≠!(.frz o' b):=-λo' b z=>by
 have:=I.base.frzs a o' b z;rw[e] at this;cases this
def D4(h:BE X e t):BE X e (qu t):=-{by
 intro pins s σ H Q I q;refine thn (h.h pins s σ H _ I q) λv i y=>?_;obtain⟨x,H1,g,b,a,o,kvs,f,d,c⟩:=y;exact{x,_,g.thaw d (I.nofrz f),b,c}}
def D5(h:BS X st (pJ t (eQ i))):BS X st (pJ (qu t) (eQ i)):=-{by
 intro pins s σ H D I q;refine thn (h.h pins s σ H { D with nx:=λb H'=>∃a o kvs,H a=!(.dK kvs)/\H' a=!(.frz o (.dK kvs))/\D.nx b (upd H' a (.dK kvs)) } I q) λf k c=>?_
 cases f with
 | next=>
  obtain⟨b,H',j,a,o,kvs,g,e,d⟩:=c;exact{b,_,j.thaw e (I.nofrz g),d}
 |brk=>exact c
 |cont=>exact c
 |ret u=>exact c}
end
def fzo:Option OV->Option OV
 |some (.fz d)=>!(.fz d)
 |_=>none
def oq(a:↥Key->↥D->↥D)(no i:Nat)(fg:FG)(ft:FT)(fe:FE):FE:=λρ Q=>match unD ρ i with
 |some (ks,ds)=>ji (List.replicate no none++(ρ.map fzo).set i !(.fz (.dct ks ds))) (ei fg ft fe (λas _=>(∃zs:↥Str,as=zs.map .str)/\Q (.ov (.fl as)) ρ) (a ks ds) [])
 |none=>False
def L5:↥Key->↥D->↥D:=λks _=>ks.map xC
def L6:↥Key->↥D->↥D:=λ_ ds=>ds
def Aj(no i:Nat)(fg:FG)(ft:FT)(fe:FE):FE:=oq L5 no i fg ft fe
section
variable {K:Frag} 
theorem Slots.fzo{F H:Hp}:∀{σ:St} {ρ:FSt} {A:↥Addr},Slots K F H σ ρ A->Slots K F H σ (ρ.map fzo) []
 |_,_,_,.nil=>.nil
 |_,_,_,.skip t=>.skip (Slots.fzo t)
 | _,_,_,.has (o:=o) h t=>by
  cases h with
  |fz d=>exact .has (A:=[]) (B:=[]) (.fz d) (Slots.fzo t)
  |_=>exact .skip (Slots.fzo t)
def D6(k:Key):Den K F (kV k) (xC k):=by
 cases k with
 |inl i=>exact .int i
 |inr z=>exact .str z
def D7(K:Frag)(c:Key×V->V)(a:↥Key->↥D->↥D):Prop:=∀(F:Hp) (ys:↥(Key×V)) ks ds,ys.map (·.1)=ks->Dens K F (ys.map (·.2)) ds->(a ks ds).length=ys.length/\∀(i:Nat) b,ys[i]?=!b->∃e,(a ks ds)[i]?=!e/\Den K F (c b) e
def D8:D7 K F7 L5:=-λF ys ks ds h1 h2=>{by show (ks.map xC).length=_;rw[← h1,abP,abP],λi a e=>{xC a.1,by show (ks.map xC)[i]?=_;rw[← h1,aav,List.getElem?_map,e];rfl,D6 a.1}}
def D9:D7 K IQ L6:=-λF ys ks ds h1 h2=>{by show ds.length=_;rw[← h2.length,abP],λi a e=>h2.get' (by rw[List.getElem?_map,e];rfl)}
def ou{pk:Key×V->V}{m:↥Key->↥D->↥D}(hs:D7 K pk m)(hj0:μ[j0]?=!i0)(hix:∀j∈ixs,j<μ.length)(hg:GF K (muC no ixs μ) T g fg)(hT:∀i∈T,i<no)
  (hc:TF K (muC no ixs μ) tc fc) (he:EF K (muC no ixs μ) te fe):EF K μ (qu (dZ no ixs (lB pk (cV j0)) g tc te)) (oq m no i0 fg fc fe):=-{by
 intro F Z H τ σ ρ A Q P vw R h q;unfold oq at h;split at h
 case h_2=>exact h.elim
 rename_i ks ds e0;obtain⟨a,ys,g1,g2,g3,g4,_⟩:=R.mutD e0
 have ha0:a∈A:=by
  have e:=lq e0;obtain⟨v,B,A',h1,h2,h3,h4⟩:=R.sl.take e;rw[g1] at h1;cases h1
  cases h2 with
  |fd=>exact h3.mem_iff.mpr (by simp)
 obtain⟨hF0,hZ0⟩:=R.fr a ha0;refine{.ref a,(vw j0 i0 hj0).1.trans g1,a,ys,rfl,g2,λo D hD=>?_};rw[di] at h;have I:D≠a:=λz=>by rw[z,ag] at hD;cases hD
 have s:H D=none:=by rw[aj I] at hD;exact hD
 -- what is one's own is held
 obtain⟨w,O,d⟩:=mix (A.filter λb=>decide (b≠a)) H Z;have inB:∀b,b∈A->b≠a->b∈A.filter λb=>decide (b≠a):=λb h1 h2=>ab3.mpr {h1,decide_eq_true h2};have n:∀b,b∈(A.filter λb=>decide (b≠a))->b∈A/\b≠a:=λb c=>{(ab3.mp c).1,of_decide_eq_true (ab3.mp c).2}
 have sz:Same Z w:=λb u z=>by
  rw[d b λy=>by rw[(R.fr b (n b y).1).2] at z;cases z];exact z
 have zA:w a=none:=by rw[d a λy=>(n a y).2 rfl];exact hZ0
 have zD:w D=none:=by
  rw[d D λy=>by
   obtain⟨u,G⟩:=R.sl.live D (n D y).1;rw[s] at G;cases G]
  exact R.zh.free s
 have U:F D=none:=R.fh.free s
 let F1:Hp:=upd F a (.frz o (.dK ys))
 let H1:Hp:=upd (upd H a (.frz o (.dK ys))) D (.lst [])
 have sF:Same F F1:=λb u z=>by rw[show F1 b=F b from aj λy=>by rw[y,hF0] at z;cases z];exact z
 have fh1:Same F1 H1:=λb u z=>by
  have bD:b≠D:=λy=>by rw[y,show F1 D=F D from aj I,U] at z;cases z
  rw[show H1 b=upd H a (.frz o (.dK ys)) b from aj bD];by_cases c:b=a
  .subst c;rw[ag];rw[show F1 b=↑(.frz o (.dK ys)) from ag] at z;exact z
  .rw[aj c];rw[show F1 b=F b from aj c] at z;exact R.fh b u z
 have zh1:SameN w H1:={λb u z=>by
  have bD:b≠D:=λy=>by rw[y,zD] at z;cases z
  have ba:b≠a:=λy=>by rw[y,zA] at z;cases z
  rw[show H1 b=upd H a (.frz o (.dK ys)) b from aj bD,aj ba];by_cases c:b∈A.filter λb=>decide (b≠a)
  .rw[O b c] at z;exact z
  .rw[d b c] at z;exact R.zh.s b u z,λb xs z=>by
  by_cases c:b∈A.filter λb=>decide (b≠a)
  .rw[O b c] at z;exact R.sl.nt b (n b c).1 xs z
  .rw[d b c] at z;exact R.zh.n b xs z}
 have dj1:∀b u,F1 b=!u->w b=none:=λb u z=>by
  by_cases c:b=a
  .rw[c];exact zA
  .rw[show F1 b=F b from aj c] at z;rw[d b λy=>by rw[(R.fr b (n b y).1).1] at z;cases z];exact R.dj b u z
 have sl0:Slots K F1 H1 σ (ρ.map fzo) []:=(R.sl.fzo).keep sF λ_ _ z=>nomatch z;have hi0:i0<ρ.length:=(List.getElem?_eq_some_iff.mp (lq e0)).1;have en:(ρ.map fzo)[i0]?=!none:=by rw[List.getElem?_map,lq e0];rfl
 obtain⟨A2,p2,sl2⟩:=sl0.put (i:=i0) (B:=[]) en g1 (.fz (.dct (.inr {(o),ag}) g3 (g4.mono sF)));have eA2:A2=[]:=(by exists p2);subst eA2;have R1:Rel K F1 w H1 (List.replicate no none++σ) (List.replicate no none++(ρ.map fzo).set i0 !(.fz (.dct ks ds))) []:={sl2.none_app no,aaH,λ_ z=>(nomatch z),fh1,zh1,dj1};have fD1:F1 D=none:=by rw[show F1 D=F D from aj I];exact U
 have t:∀{F' H' f l A'},Same F1 F'->Rel K F' w H' f l A'->H' a=!(.frz o (.dK ys)):=λs' J=>J.fh _ _ (s' _ _ ag);have Y:(m ks ds).length=ys.length:=(hs F ys ks ds g3 g4).1
 refine{λi k acc C H'=>k=ys.length - i/\i<=ys.length/\∃F' l A' f as,Same F1 F'/\Rel K F' w H' f l A'/\View (muC no ixs μ) C f/\H' D=!(.lst acc)/\F' D=none/\D∉A'/\Dens K F' acc as /\
   ei fg fc fe (λas _=>(∃zs:↥Str,as=zs.map .str)/\P (.ov (.fl as)) ρ) ((m ks ds).drop i) as l,
  {_,rfl,aan _,F1,_,[],_,[],Same.refl _,R1,fB vw hix,ag,fD1,(λz=>nomatch z),.nil,by rw[aaR];exact h},?_}
 rintro i k acc C H' ⟨rfl,hle,F',l,A',f,as,s',J,vw',p,hFD,hAD,dn,h'⟩;by_cases N:i<ys.length
 .have L:i<(m ks ds).length:=by rw[Y];exact N
  rw[aat L,iz] at h'
  refine .inr {{t s' J,N},λacc C H'=>∃F' l A' f as,Same F1 F'/\Rel K F' w H' f l A'/\View (muC no ixs μ) C f/\H' D=!(.lst acc)/\F' D=none/\D∉A'/\Dens K F' acc as /\
   ei fg fc fe (λas _=>(∃zs:↥Str,as=zs.map .str)/\P (.ov (.fl as)) ρ) ((m ks ds).drop (i+1)) as l,λacc' M H2 z=>{_,(),rfl,N,z},λx H2 y=>?_}
  obtain⟨rfl,kv,hkv,rfl⟩:=y;obtain⟨el,hel,del⟩:=(hs F ys ks ds g3 g4).2 i kv hkv
  have ekey:(m ks ds)[i]=el:=by
   rw[List.getElem?_eq_getElem L] at hel;exact aak hel
  rw[ekey] at h';refine hg.h vw' J (del.mono (sF.trans s')) h' fun τ2 M ρ2 A2 p2 E R2 k2 kl2 _ m2=>?_
  have fD:Fresh F' w A2 [D]:={by simp,λb c=>by
   have:b=D:=(by exists c);subst this;exact{hFD,zD,λz=>hAD (m2 _ z)}}
  obtain⟨Z2,sz2,R2',zl,back⟩:=R2.hold (B:=[D]) (λb c=>by
   have:b=D:=(by exists c);subst this;exact{_,p}) (.one p (λ_ z=>nomatch z) .nil) fD
  refine hc.h E R2' p2 λb ρ3 F3 H3 A3 X W R3=>?_
  cases b with
  | false=>
   replace X:=sM X;rw[if_neg abU];obtain⟨R3',f3,k3⟩:=back _ _ _ _ W R3;have fa:=f3.fr D (by simp);exact{F3,ρ3,A3,M,as,s'.trans W,R3',E,k3 D _ (by simp) p,fa.1,fa.2.2,dn.mono W,X}
  | true=>
   replace X:=sL X;rw[if_pos rfl];refine he.h E R3 X λr ρ4 v F4 H4 A4 B4 p4 s4 R4 v4 f4=>?_;split at p4
   .rename_i y ρ5 e5;obtain⟨F5,A5,s5,R5,dy,_,_⟩:=R4.frz v4 f4 e5;obtain⟨R5',f5,k5⟩:=back _ _ _ _ ((W.trans s4).trans s5) R5;have fa:=f5.fr D (by simp);refine{k5 D _ (by simp) p,by rw[dn.length];exact p4.1,F5,ρ5,A5,M,as++[y],((s'.trans W).trans s4).trans s5,R5'.write fa.2.2 fa.1 zD,E,ag,fa.1,fa.2.2,(dn.mono ((W.trans s4).trans s5)).snoc dy,p4.2}
   .exact p4.elim
 .have e:i=ys.length:=()
  subst e;rw[← Y,aaO,iy] at h';obtain⟨⟨zs,rfl⟩,h'⟩:=h';refine .inl {{t s' J,rfl},a,o,ys,g2,t s' J,?_};have ex:=dn.strs_eq;subst ex
  have sl3:Slots K F (upd H' a (.dK ys)) σ ρ A:=R.sl.keep (Same.refl _) λb u c G=>by
   by_cases S:b=a
   .subst S;rw[ag];rw[g2] at G;exact G
   .rw[aj S];exact J.zh.s b u (by rw[O b (inB b c S)];exact G)
  have R3:Rel K F Z (upd H' a (.dK ys)) σ ρ A:={sl3,R.nd,R.fr,λb u z=>by
   rw[aj λy=>by rw[y,hF0] at z;cases z];exact J.fh b u (s' b u (sF b u z)),{λb u z=>by
   rw[aj λy=>by rw[y,hZ0] at z;cases z];exact J.zh.s b u (sz b u z),R.zh.n},R.dj}
  refine q _ _ _ F _ A [D] h' (Same.refl _) R3 (.fl (by rw[aj I];exact p) (Dens.strs zs)) {by simp,λb c=>?_};have:b=D:=(by exists c);subst this
  exact{U,R.zh.free s,λz=>by
   obtain⟨u,G⟩:=R.sl.live b z;rw[s] at G;cases G}}
def tI(h:j<n)(a:∀j∈ixs,j<(List.range n).length)(b:GF K (muC no ixs (List.range n)) T g fg)(e:∀i∈T,i<no)
  (d:TF K (muC no ixs (List.range n)) tc fc) (c:EF K (muC no ixs (List.range n)) te fe):EF K (List.range n) (qu (dZ no ixs (lB F7 (cV j)) g tc te)) (Aj no j fg fc fe):=-ou D8 (by simp[h]) a b e d c
end
def xQ :BS X st qT:=-{(v7)}
def eU:FS:=λ_ _=>False
def xR{K:Frag}{m:↥Nat}:SF K n m qT eU:=-{λ_ _ _ h=>h.elim}
def gc{c:FT}{f g:FS}{E:FEnds}(I:FSt->Prop)(rest:∀ρ,I ρ->E.nx ρ)(h:(∀ρ,I ρ->E.nx ρ)->c ρ λb a=>br b (f E a) (g E a)):fIf c f g E ρ:=-ay (h rest)
section
variable {K:Frag} 
end
end L2
namespace L2
open PySem PySem.Spec PyProof.Rows PyProof.Rows
section
variable {X:Cx} {pins:↥(Addr×Obj)} {σ:St} {H:Hp} {s:Shared}
end
section
variable {K:Frag} {n:Nat} {m:↥Nat} {G:Hp->Prop}
end
end L2
namespace L2
open PySem PySem.Spec PyProof.Rows
variable{X:Cx}{pins:↥(Addr×Obj)}{σ:St}{H:Hp}{s:Shared}
end L2
namespace L2
open PySem PySem.W PySem.Spec PyProof.Rows PySem.Calls PySem.Builtin PySem.Builtin.ObjectAttr PySem.Builtin.Getset_descriptor
section
variable {prog:Program} {w:World} {A:Around} {E:Value->Shared->Prop} {s:Shared} {K:Frag} {a C:Addr} {o:Obj}
end
section
variable {X:Cx}
end
end L2
namespace HT
open PySem PySem.Spec PyProof.Rows
section
variable {prog:Program} {w:World} {A:Around} {E:Value->Shared->Prop} {s:Shared}
def getItem_tuple_all{t sl:Addr}{items:Array Value}{vl vu:Value}{lo hi:Option Int}{Q:Value->Shared->Prop}(a:IsTup s.heap t items)(hs:s.heap.IsSliceOf sl vl vu .none)(pl:IsPart vl lo)(f:IsPart vu hi)
  (e:sIx items.size 0 lo=0/\sIx items.size items.size hi=items.size) (h:Q (.ref t) s):wpAny (model prog w) A (getItem (.ref t) (.ref sl)) Q E s:=by
 obtain⟨os,b,c,g⟩:=id hs;have d:s.TypeIs (.ref sl) "slice" := {(os),b,c};unfold getItem
 try with_reducible refine aaS ?_
 first|refine aaa (aaf ?_)|skip
 refine aaa (wpAny_sequenceKey a.typeIs (by decide) ?_)
 refine aaa (wpAny_callSpecial?_slot (name:=Str.ofString "__getitem__") a.typeIs aa8
  (aaC aa8 a.typeIs entry_tuple_getitem ?_ (args_tuple_getitem _ _)))
 show wpAny _ _ (Builtin.Tuple.tupleItemsOf (.ref t) >>= _) _ _ s;refine aaa (tupleItemsOf_ a ?_);refine aaa (wpAny_typeOf d ?_);rw[if_pos (by decide)];refine aaa (dI hs pl f ?_);show wpAny _ _ (if (((sIx items.size 0 lo:Nat):Int)==0&&(1:Int)==1&&(sIx items.size items.size hi - sIx items.size 0 lo)==items.size)=true then _ else _) _ _ s;rw[if_pos (by rw[e.1,e.2];simp)];refine aaa (m:=Builtin.Tuple.tupleIsExact _) (aaa (wpAny_typeOf a.typeIs (aaf ?_)));rw[if_pos (by decide)]
 first
  |exact aaa (abE (aaf {_,rfl,aaf h}))
  |exact aaa (abE (aaa (aaf (aaf {_,rfl,aaf h}))))
  |exact aaa (aaa (abE (aaf (aaf {_,rfl,aaf h}))))
  |exact aaa (aaa (abE (aaf {_,rfl,aaf h})))
end
end HT
namespace L2
open PySem PySem.Spec PyProof.Rows
variable{X:Cx}
def IS(K:Frag):V->Option Int->Option Int->Hp->VK->Prop:=λx lo hi H Q=>∃a xs,x=.ref a/\SqT K H a xs/\HT.sIx xs.length 0 lo=0/\HT.sIx xs.length xs.length hi=xs.length/\Q (.ref a) H
def Ea:SlR X (IS X.K):=by
 intro pins s σ H x v vl vu lo hi sl Q I f hs pl g h;obtain⟨a,xs,rfl,i,e,d,q⟩:=h;cases f;obtain⟨its,r,c,j⟩:=I.tuple i;have b:its.toArray.size=xs.length:=by rw[abY];exact r.length.symm
 refine{"tuple", _,PyProof.Rows.slot_tuple_getitem.lookup,c.typeIs,?_};exact HT.getItem_tuple_all c hs pl g (by rw[b];exact{(e),d}) {.ref a,H,I,rfl,q}
def M4(K:Frag):V->Option Int->Option Int->Hp->VK->Prop:=λx lo hi H Q=>G4 K x lo hi H Q∨IS K x lo hi H Q
def tJ{a:Expr}{lo hi:Option Expr}{ta:TE}{tl th:TO}{pos b:Pos}(K:Frag)(d:BE X a ta)(c:BO X lo tl)(hh:BO X hi th)(e:X.K=K):BE X (.Subscript a (.Slice lo hi none b) pos) (tSl (M4 K) ta tl th):=by
 subst e;exact{nG (zX.or Ea) d.h c.h hh.h}
section
variable {K:Frag} {μ:↥Nat}
def tK{α:Type}{xs:↥α}{lo hi:Option Int}(h1:HT.sIx xs.length 0 lo=0)(h2:HT.sIx xs.length xs.length hi=xs.length):fR xs lo hi=xs:=by
 unfold fR;rw[h1,h2];simp
def L7:D->Option Int->Option Int->(OV->Prop)->Prop
 |.str z,lo,hi,P=>z.length<=sizeLine/\P (.fz (.str (j7 z lo hi)))
 |.lst ds,lo,hi,P=>P (.fl (fR ds lo hi))
 |.tup ds,lo,hi,P=>P (.fz (.tup (fR ds lo hi)))
 |_,_,_,_=>False
def L8:SlF K (M4 K) L7:=-{by
 intro F H x d lo hi Q P s b f n;unfold L7 at f;split at f
 .exact .inl (j8.h s b (by unfold aSl;exact f) n)
 .exact .inl (j8.h s b (by unfold aSl;exact f) n)
 .rename_i ds;by_cases c:HT.sIx ds.length 0 lo=0/\HT.sIx ds.length ds.length hi=ds.length
  .have e:=tK c.1 c.2;rw[e] at f;have g:=b;obtain⟨a,xs,rfl,h1,h2⟩:=b.asT s;refine .inr {a,xs,rfl,h1,by rw[h2.length];exact c.1,by rw[h2.length];exact c.2,?_}
   cases g with
   |fz hd=>exact ax s n hd f
  .exact .inl (j8.h s b (by unfold aSl;exact{(c),f}) n)
 .exact f.elim}
end
mutual
def depD:D->Nat
 |.lst xs=>depDs xs+1
 |.tup xs=>depDs xs+1
 |_=>0
def depDs:↥D->Nat
 |[]=>0
 |d::ds=>max (depD d) (depDs ds)
end
mutual
def okS:D->Bool
 |.lst xs=>okSs xs
 |.tup xs=>okSs xs
 |.dct _ _=>false
 |.ty _=>false
 |.gt _=>false
 |.dt _ _=>false
 |_=>true
def okSs:↥D->Bool
 |[]=>true
 |d::ds=>okS d&&okSs ds
end
section
variable  {pins:↥(Addr×Obj)} {σ:St} {H:Hp} {s:Shared}
end
section
variable {K:Frag}
end
end L2
namespace L2
open PySem PySem.Spec PyProof.Rows
open PySem.Builtin PySem.Builtin.Str
section
variable {X:Cx}
end
section
variable {K:Frag} {μ:↥Nat}
end
end L2
namespace L2
open PySem PySem.Builtin PySem.Builtin.Str PySem.StrLaws
def gN(z:Str):z.length=z.cps.toList.length:=by simp[Str.length]
end L2
namespace L2
open PySem PySem.Spec PyProof.Rows PySem.W
section
variable {n:Nat} {lt:Nat->Nat->Bool}
end
section
variable {prog:Program} {w:World} {A:Around} {s:Shared} {C:Bool->Shared->Prop} {bb fn:Bool}
end
section
variable {X:Cx}
end
section
variable {K:Frag}
end
end L2
namespace L2
open PySem PySem.Spec PyProof.Rows
open PySem.Builtin PySem.Builtin.Str
section
variable {X:Cx}
end
section
variable {K:Frag} {μ:↥Nat}
end
end L2
namespace L2
open PySem PySem.Spec PyProof.Rows
variable{X:Cx}{μ:↥Nat}{A:Around}{E:Value->Shared->Prop}{s:Shared}
section
variable {K:Frag} 
end
section
variable {M:Model}   
end
section
variable {prog:Program} {w:World}   {R:Result->Shared->Prop} 
end
section
variable  {pins:↥(Addr×Obj)} {σ:St} {H:Hp}  {T F:↥Str} {ixs:↥Nat} {scope:Scope} {fp:↥Addr}
end
section
variable {K:Frag}  {G:Hp->Prop}
end
end L2
namespace L2
open PySem PySem.W PySem.Spec PyProof.Rows
variable{X:Cx}
end L2
namespace L2
open PySem PySem.Spec PyProof.Rows
section
variable {X:Cx}
end
section
variable {K:Frag} {μ:↥Nat}
end
end L2
namespace L2
open PySem PySem.Spec PyProof.Rows
open PySem.Builtin PySem.Builtin.Str PySem.StrLaws
section
variable {X:Cx}
end
section
variable {K:Frag} {μ:↥Nat}
end
end L2
namespace L2
open PySem PySem.Spec PyProof.Rows
variable{μ ixs T m:↥Nat}{n no i j c k ix:Nat}{te tv td ty tk:TE}{fe fk:FE}{g:TG}{fg:FG}{tc:TT}{fc:FT}{t ta:TA}{fa:FA}{wi:TI}{fi:FI}{ds:↥D}{os:↥OV}{X:Cx}{tg e:Expr}{pos p pos2:Pos}{y v:V}{x f q mn:Str}{es:↥Expr}{st:Stmt}{oc doc pm cdv ct:Value}{od an:Option Addr}{osl:Array (Option Value)}{Z F F' H H':Hp}{fd:FuncData}{ps:↥FV}{σ:St}{ρ:FSt}{A B:↥Addr}{a C r:Addr}{o:Obj}{vs xs:↥V}{α K:Type}{d:D}{cc:Ct}{prog:Program}{w:World}{E Q:Value->Shared->Prop}{s:Shared}{pins:↥(Addr×Obj)}{ks:↥↥Key}{u:Tok}
def dU(fa:FE):FT:=au fa
def bT(_:↥Nat)(no:Nat)(fi:FI)(fg:FG)(ft:FT)(fe:FE):FE:=Ik no fi fg ft fe
def tL(_:↥Nat)(no i:Nat)(fg:FG)(ft:FT)(fe:FE):FE:=oo no i fg ft fe
def tM(_:↥Nat)(no i:Nat)(fg:FG)(ft:FT)(fe:FE):FE:=Aj no i fg ft fe
def tN(_:↥Nat)(no i:Nat)(fg:FG)(ft:FT)(fe:FE):FE:=oq L6 no i fg ft fe
section
variable {K:Frag}    
def L9(h:j<n)(b:GF K (muC no ixs (List.range n)) T g fg)(e:∀i∈T,i<no)(a:∀j∈ixs,j<(List.range n).length)
  (d:TF K (muC no ixs (List.range n)) tc fc) (c:EF K (muC no ixs (List.range n)) te fe):EF K (List.range n) (qu (dZ no ixs (lB IQ (cV j)) g tc te)) (tN ixs no j fg fc fe):=-ou D9 (by simp[h]) a b e d c
def tf_B(a:EF K μ te fe):TF K μ (tB te) (dU fe):=-{(sO a).h}
def xS{c:Ct}(a:AF K μ t fa):EF K μ (kS (spM K c) [] E0 t) (ar c fa):=-sQ a
def Ma(h:μ[μ.idxOf i]?=!i):EF K μ (cV (μ.idxOf i)) (ab i):=-sN h
def gf_c(h:decide (i<no)=true)(a:(muC no ixs μ).Nodup):GF K (muC no ixs μ) [i] (eQ i) (ac i):=-sR (by
 unfold muC;rw[List.getElem?_append_left (by rw[ab8];exact of_decide_eq_true h)];simp[of_decide_eq_true h]) a
def Mb(hi:ITF K μ wi fi)(b:GF K (muC no ixs μ) T g fg)(e:∀i∈T,i<no)(a:∀j∈ixs,j<μ.length)
  (d:TF K (muC no ixs μ) tc fc) (c:EF K (muC no ixs μ) te fe):EF K μ (dZ no ixs wi g tc te) (bT ixs no fi fg fc fe):=-Dt hi a b e d c
def Mc(h:j<n)(b:GF K (muC no ixs (List.range n)) T g fg)(e:∀i∈T,i<no)(a:∀j∈ixs,j<(List.range n).length)
  (d:TF K (muC no ixs (List.range n)) tc fc) (c:EF K (muC no ixs (List.range n)) te fe):EF K (List.range n) (dZ no ixs (mz K (cV j)) g tc te) (tL ixs no j fg fc fe):=-tD h a b e d c
def Md(h:j<n)(b:GF K (muC no ixs (List.range n)) T g fg)(e:∀i∈T,i<no)(a:∀j∈ixs,j<(List.range n).length)
  (d:TF K (muC no ixs (List.range n)) tc fc) (c:EF K (muC no ixs (List.range n)) te fe):EF K (List.range n) (qu (dZ no ixs (lB F7 (cV j)) g tc te)) (tM ixs no j fg fc fe):=-tI h a b e d c
end
def Eb:↥D->↥Str
 |.str z::ds=>z::Eb ds
 |_=>[]
def Me{K:Frag}(h:(Eb ds).map D.str=ds):EF K μ (tGU K ((Eb ds).map V.str)) (fC (.gt ds)):=-LZ λ_=>by
 conv=>arg 4;rw[← h]
 exact Dens.strs _
def KO(m:↥Nat):Nat->↥OV->Bool
 |_,[]=>true
 |i,o::os=>(m.contains i || sY o)&&KO m (i+1) os
theorem tO{m:↥Nat}:∀{os:↥OV} {i:Nat},KO m i os=true->∀j o,os[j]?=!o->i+j∉m->sY o=true
 |[],_,_,_,_,e,_=>nomatch e
 | a::os,i,h,j,o,e,n=>by
  rw[KO,ab2,Bool.or_eq_true] at h
  cases j with
  | zero=>
   cases e;exact h.1.elim (λz=>absurd (List.contains_iff_mem.mp z) n) id
  |succ j=>exact tO h.2 j o e (by rw [Nat.add_right_comm];exact n)
def lo_of(h1:os.length=n)(h2:KO m 0 os=true):os.length=n/\∀j o,os[j]?=!o->j∉m->sY o=true:=-{h1,λj o e a=>tO h2 j o e (by rw[Nat.zero_add];exact a)}
def tgN:Expr->↥Str
 |.Name x _=>[x]
 | .Tuple es _ _=>es.filterMap λe=>match e with
  |.Name x _=>!x
  |_=>none
 |_=>[]
def fvN(X:Cx)(ixs:↥Nat):↥Str:=ixs.map λi=>X.N.getD i ""
def Mf{l:↥Str}(h:decide l.Nodup=true):l.Nodup:=-of_decide_eq_true h
section
variable    {scope:Scope} {elt iter:Expr} {ifs:↥Expr}     
def Mg(e:(tgN tg).length=no)(d:X.calm=true)(S:CompScope X (tgN tg) (fvN X ixs) ixs scope)(hi:BI X tg iter wi)
  (b:∀C s H fp,BG (bq X (tgN tg++fvN X ixs) scope (aK X.env scope.names []) C s H fp) tg g) (a:∀C s H fp,BIf (bq X (tgN tg++fvN X ixs) scope (aK X.env scope.names []) C s H fp) ifs tc) (c:∀C s H fp,BE (bq X (tgN tg++fvN X ixs) scope (aK X.env scope.names []) C s H fp) elt te)
  (hs:∀x,foldedSetIterable iter X.env x=pure x):BE X (.ListComp elt [{(tg),iter,ifs,0}] scope pos) (dZ no ixs wi g tc te):=-e ▸ Cu d S hi b a c hs
def Mh{y:Str}{py a:Pos}(b:swapsWith (.ListComp elt [{(tg),iter,ifs,0}] scope pos) ↑(.Name y py) a.line X.env=pure true)(l:(tgN tg).length=no)(k:X.calm=true)(S:CompScope X (tgN tg) (fvN X ixs) ixs scope)(hi:BI X tg iter wi)
  (e:∀C s H fp,BG (bq X (tgN tg++fvN X ixs) scope (aK X.env scope.names []) C s H fp) tg g) (d:∀C s H fp,BIf (bq X (tgN tg++fvN X ixs) scope (aK X.env scope.names []) C s H fp) ifs tc) (j:∀C s H fp,BE (bq X (tgN tg++fvN X ixs) scope (aK X.env scope.names []) C s H fp) elt te)
  (hs:∀x,foldedSetIterable iter X.env x=pure x) (m:X.N.Nodup) (c:X.N[i]?=!y) (hx:Loc X.env.scope y) (f:X.fn y=true∨X.env.scope.names.lookup y=!.local) :
  BS X (.Assign [.Name y py] (.ListComp elt [{(tg),iter,ifs,0}] scope pos) a) (pJ (dZ no ixs wi g tc te) (eQ i)):=-l ▸ C5 k S hi e d j hs m c hx b f
def xT{f:Value}{r:↥V->Hp->VK->Prop}(k:BCall X f r)(i:X.mg x=none)(d:bootBuiltins x=!f)(m:(∃id,f=.builtin id)∨∃T,f=.type T)(l:BA X (e::es) t)(j:X.env.kindOf x=!.globalImplicit)(a:(e::es).all a9=true)(g:(x == "__name__")=false)
  (c:(x==("__debug__" : Str))=false):BE X (.Call (.Name x p) (e::es) [] pos) (tCB r t):=by
 have b:x ≠ "__name__" := λz=>by rw[z] at g;exact absurd g (by decide)
 rcases m with ⟨id,rfl⟩|⟨T,rfl⟩
 .exact wQ k i d l j a b c
 .exact wR k i d l j a b c
end
structure Df(K:Frag)(x:Str)(st:Stmt)(f:Addr)(fd:FuncData):Prop where
 ns:PySem.W.nsIn K mainGlobals x=!!(.ref f)
 fn:Fun K x x st f fd
def df_mk{K:Frag}{f:Addr}{kV:Value}(a:PySem.W.nsIn K mainGlobals x=!!(.ref f))(l:K.lookup f=!{oc,od,.func (PySem.W.fnOf x x (cF st) (bu st) (av st) .none kV doc pm an cdv ct),osl})
  (c:PySem.W.codeIn K cdv x=true) (k:PySem.W.keepIn K (.ref f)=true):Df K x st f (PySem.W.fnOf x x (cF st) (bu st) (av st) .none kV doc pm an cdv ct):=-{a,zV l c k}
abbrev Lh(c:Ct)(n:Nat)(m:↥Nat):Prop:=∀os P,c os P->os.length=n/\∀j o,os[j]?=!o->j∉m->sY o=true
abbrev Hh(c:Ct)(f:FS)(m:↥Nat)(n:Nat):Prop:=∀os P,c os P->f { nx:=fin m os P (.fz .non),rt:=fin m os P } (ao n os)
structure Zz where
 P:Program
 w:World
 K:Frag
 mg:Str->Option Value
 base:Heap
 h:Heap
structure TopZ(Z:Zz)(T:Prop):Prop where
 X:Z.K.In Z.h
 G:Z.h.Ns mainGlobals Z.mg
 T:T
abbrev cS(Z:Zz)(x:Str)(k:Nat)(ps:↥Str)(c:Ct):Prop:=Own Z.P Z.w Z.K Z.mg Z.base x k ps (spM Z.K c)
section
variable {Z:Zz} {T:Prop}   {f:Addr}  {ps:↥Str} {c:Ct} {fs:FS}  
def kj(N:↥Str)(t:TopZ Z T)(D:Fun Z.K x q st f fd)(e:Lh c ps.length m)(l:Hh c fs m n)(S:FnScope N ps (av st))
  (d:∀(cdv:Value) (A:Around) (outer:↥Env) (s:Shared) (H:Hp) (E:XK),T->N.Nodup->Room k (A.deeper (envOfC q (av st) s.heap.objs.size f cdv)) ->
   ∃t,SF Z.K n m t fs/\BSs (rA CX0 Z.P Z.w Z.K Z.mg Z.base N q (av st) f cdv A outer s H E).nox (bu st) t) (g:autoParam (N.length=n) L2.aR._auto_1) (o:autoParam (ps.length<=n) L2.aD._auto_1) (j:autoParam (∀i∈m,i<ps.length) L2.aD._auto_1):FnOk Z.P Z.w Z.K Z.mg Z.base CX0 (k+1) f fd ps (spM Z.K c):=-
 Fun.okG n m D S g o e j (λcdv A outer s H E hr=>let ⟨t,a,b⟩:=d cdv A outer s H E t.T S.nd hr;{(t),b,a}) l
def aA(N:↥Str)(t:TopZ Z T)(D:Df Z.K x st f fd)(b:Lh c ps.length m)(g:Hh c fs m n)
  (j:∀(kV doc pm:Value) (an:Option Addr) (cdv ct:Value) (us:↥Value),us.length=ps.length->bindArgs (PySem.W.fnOf x x (cF st) (bu st) (av st) .none kV doc pm an cdv ct) {us,[]}=pure (ps.zip us)) (S:FnScope N ps (av st))
  (a:∀(cdv:Value) (A:Around) (outer:↥Env) (s:Shared) (H:Hp) (E:XK),T->N.Nodup->Room k (A.deeper (envOfC x (av st) s.heap.objs.size f cdv)) ->
   ∃t,SF Z.K n m t fs/\BSs (rA CX0 Z.P Z.w Z.K Z.mg Z.base N x (av st) f cdv A outer s H E).nox (bu st) t) (d:autoParam (N.length=n) L2.aR._auto_1) (l:autoParam (ps.length<=n) L2.aD._auto_1) (e:autoParam (∀i∈m,i<ps.length) L2.aD._auto_1):cS Z x (k+1) ps c:=-
 {f,fd,kj N t D.fn b g S a d l e,aaW t.X t.G D.ns,D.fn.kp,D.fn.binds j}
end
structure ClsF(K:Frag)(c:Nat)(C:Addr):Prop where
 ns:PySem.W.nsIn K mainGlobals (C6 c)=!!(.ref C)
 cl:Cls K C
 na:∀f∈cm c,NoAttr K C f
def dA(c:Nat):(cm c).Nodup:=by
 match c with
 |0=>decide +kernel
 |1=>exact aaH
 |_+2=>exact aaH
def unO(ρ:FSt)(i c:Nat):Option (Addr×↥FV):=match ρ[i]? with
 | some ↑(.ob ⟨a,b,ps⟩)=>(match Nat.beq b c with
  |true=>!(a,ps)
  |false=>none)
 |_=>none
def KP(a:Addr):OV->Option FV
 |.fz d=>!(.fz d)
 |.fl ds=>!(.fl a ds)
 |.fd ks ds=>!(.fd a ks ds)
 |.ft ks ds=>!(.ft a ks ds)
 |_=>none
def tP(as:Nat->Addr):Nat->↥OV->Option ↥FV
 |_,[]=>![]
 | i,o::os=>match KP (as i) o with
  | some p=>match tP as (i+1) os with
   |some ps=>!(p::ps)
   |none=>none
  |none=>none
def IT(ps:↥FV)(k:Nat)(g:FV):Option ↥FV:=match Nat.blt k ps.length with
 |true=>!(ps.set k g)
 | false=>(match Nat.beq k ps.length with
  |true=>!(ps++[g])
  |false=>none)
section
variable {K:Frag}     
def tQ(h:unO ρ i c=!(a,ps)):ρ[i]?=!!(.ob {(a),c,ps}):=by
 unfold unO at h;split at h
 .rename_i g f b e;split at h
  .rename_i d;cases h;rw[e,Nat.eq_of_beq_eq_true d]
  .cases h
 .cases h
def adr:V->Addr
 |.ref a=>a
 |_=>0
def Ow.part{o:OV}{g:FV}(h:Ow K F H v o B)(e:KP (adr v) o=!g):Fw K F H v g B:=by
 cases h with
 |fz h=>cases e;exact .fz h
 |fl h t=>cases e;exact .fl h t
 |fd h q t=>cases e;exact .fd h q t
 |ft h q t=>cases e;exact .ft h q t
 |_=>cases e
def Ows.parts{as:Nat->Addr}(h:Ows K F H vs os B):∀{ps:↥FV} {i:Nat},(∀j v,vs[j]?=!v->as (i+j)=adr v)->tP as i os=!ps->Fws K F H vs ps B:=by
 induction h with
 |nil=>intro ps i _ e;cases e;exact .nil
 | @cons v o _ os _ _ h t f=>
  intro ps i c e;unfold tP at e;have k:as i=adr v:=c 0 v rfl
  cases a:KP (as i) o with
  |none=>rw [a] at e;cases e
  | some p=>
   cases b:tP as (i+1) os with
   |none=>rw[a,b] at e;cases e
   | some d=>
    rw[a,b] at e;cases e;exact .cons (h.part (k ▸ a)) (f (λj w g=>by rw[show i+1+j=i+(j+1) from ()];exact c (j+1) w g) b)
def Fws.length{xs:↥V}{ps:↥FV}{B:↥Addr}(h:Fws K F H xs ps B):xs.length=ps.length:=by
 induction h with
 |nil=>rfl
 |cons _ _ a=>exact congrArg (·+1) a
def Fws.at_(h:Fws K F H xs ps B):∀{k:Nat} {g:FV},ps[k]?=!g->∃x C B',xs[k]?=!x/\Fw K F H x g C/\B.Perm (C++B') /\
  ∀F' H' y g' c,Same F F'->(∀a u,a∈B'->H a=!u->H' a=!u)->Fw K F' H' y g' c->∃b,Fws K F' H' (xs.set k y) (ps.set k g') b/\b.Perm (c++B'):=by
 induction h with
 |nil=>intro k g e;cases e
 | @cons x o xs os d q h t m=>
  intro k g e
  cases k with
  | zero=>
   cases e;exact{x,d,q,rfl,h,aaB _,λF' H' y g' c s k w=>{_,.cons w (t.keep s k),aaB _}}
  | succ k=>
   obtain⟨y,C,B',h1,h2,p,n⟩:=m (k:=k) e
   have sw:∀(C:↥Addr),(d++(C++B')).Perm (C++(d++B')):=λC=>by
    rw[← aay,← aay];exact abb _ abi
   refine{y,C,d++B',h1,h2,(aaX d p).trans (sw C),λF' H' i g' c s k w=>?_};obtain⟨b,l,j⟩:=n F' H' i g' c s (λa u f=>k a u (aal _ f)) w;exact{_,.cons (h.keep s λa u f=>k a u (aau _ f)) l,(aaX d j).trans (sw c)}
def Fws.snoc{C:↥Addr}{g:FV}(h:Fws K F H xs ps B)(w:Fw K F H y g C):∃a,Fws K F H (xs++[y]) (ps++[g]) a/\a.Perm (C++B):=by
 induction h with
 |nil=>exact{_,.cons w .nil,aaB _}
 | @cons x o xs os c d h t b=>
  obtain⟨a,h1,h2⟩:=b;refine{_,.cons h h1,(aaX c h2).trans ?_};rw[← aay,← aay];exact abb _ abi
def Rel.away(R:Rel K F Z H σ ρ A)(k:∀a u,a∉B->H a=!u->H' a=!u)(f:∀b∈B,F b=none/\Z b=none/\b∉A):Rel K F Z H' σ ρ A:=-
 {R.sl.keep (Same.refl _) λa u c h=>k a u (λz=>(f a z).2.2 c) h,R.nd,R.fr,λa u h=>k a u (λz=>by rw[(f a z).1] at h;cases h) (R.fh a u h),{λa u h=>k a u (λz=>by rw[(f a z).2.1] at h;cases h) (R.zh.s a u h),R.zh.n},R.dj}
def Rel.chg{o:OV}(R:Rel K F Z H σ ρ A)(e:ρ[i]?=!!o):∃v B,σ[i]?=!!v/\Ow K F H v o B/\B.Nodup/\(∀b∈B,b∈A) /\
  ∀H' o' c,(∀a u,a∉B->H a=!u->H' a=!u)->Ow K F H' v o' c->c.Nodup->(∀b∈c,b∈B∨(F b=none/\Z b=none/\b∉A))->∃A',Rel K F Z H' σ (ρ.set i !o') A':=by
 obtain⟨v,B,A',h1,h2,j,f,pm⟩:=R.takeI e;refine{v,B,h1,h2,f.nd,λb d=>pm.mem_iff.mpr (abQ.mpr (.inl d)),λH' o' c k w nd m=>?_};obtain⟨l,g,_⟩:=(j.away k f.fr).putI (cT e) h1 w {nd,λb d=>(m b d).elim (f.fr b) λz=>{z.1,z.2.1,λy=>z.2.2 (pm.mem_iff.mpr (abQ.mpr (.inr y)))}};rw[aa5] at g;exact{(l),g}
def tR{fs:↥(Str×V)}:∀{k:Nat} {f:Str} {x:V},(fs.map (·.1)).Nodup->(fs.map (·.1))[k]?=!f->(fs.map (·.2))[k]?=!x->fs.lookup f=!x:=by
 induction fs with
 |nil=>intro k f x _ h;cases h
 | cons p fs c=>
  intro k f x n h1 h2;obtain⟨b,a⟩:=abV.mp n
  cases k with
  |zero=>cases h1;cases h2;simp [List.lookup]
  | succ k=>
   have d:f∈fs.map (·.1):=List.mem_of_getElem? h1;have:(f==p.1)=false:=beq_eq_false_iff_ne.mpr λz=>b (show p.1∈_ from z ▸ d);rw[aaI,this];exact c (k:=k) a h1 h2
def Ec{fs:↥(Str×V)}(h:f∉fs.map (·.1)):fs.lookup f=none:=by
 induction fs with
 |nil=>rfl
 | cons p fs a=>
  rw[abT,abS,not_or] at h;rw[aaI,beq_eq_false_iff_ne.mpr h.1];exact a h.2
def Ed{fs:↥(Str×V)}:∀{k:Nat} {f:Str},(fs.map (·.1)).Nodup->(fs.map (·.1))[k]?=!f->(fq f y fs).map (·.1)=fs.map (·.1)/\(fq f y fs).map (·.2)=(fs.map (·.2)).set k y:=by
 induction fs with
 |nil=>intro k f _ h;cases h
 | cons p fs c=>
  intro k f n h1;obtain⟨b,a⟩:=abV.mp n;obtain⟨g,x⟩:=p
  cases k with
  |zero=>cases h1;unfold fq;rw [if_pos rfl];exact {(rfl),rfl}
  | succ k=>
   have d:f∈fs.map (·.1):=List.mem_of_getElem? h1;unfold fq;rw[if_neg λz:g=f=>b (show g∈_ from z.symm ▸ d)];obtain⟨i,e⟩:=c (k:=k) a h1;exact{by rw[abT,abT,i],by rw[abT,abT,e];rfl}
theorem ox{y:V}{f:Str}:∀{fs:↥(Str×V)},f∉fs.map (·.1)->fq f y fs=fs++[(f,y)]
 |[],_=>rfl
 | (g,x)::fs,h=>by
  rw[abT,abS,not_or] at h;unfold fq;rw[if_neg λz=>h.1 z.symm,ox h.2];rfl
def Rel.obj(R:Rel K F Z H σ ρ A)(hC:ClsF K c C)(e:unO ρ i c=!(a,ps)):∃dx fs B,σ[i]?=!!(.ref a)/\H a=!(.ins C dx fs)/\fs.map (·.1)=(cm c).take ps.length/\ps.length<=(cm c).length/\Fws K F H (fs.map (·.2)) ps B/\(a::B).Nodup/\(∀b∈a::B,b∈A) /\
  ∀H' fs' d j,(∀b u,b∉a::B->H b=!u->H' b=!u)->H' a=!(.ins C dx fs')->fs'.map (·.1)=(cm c).take d.length->d.length<=(cm c).length->Fws K F H' (fs'.map (·.2)) d j->(a::j).Nodup->(∀b∈j,b∈B∨(F b=none/\Z b=none/\b∉A))->∃A',Rel K F Z H' σ (ρ.set i !(.ob {(a),c,d})) A':=by
 obtain⟨v,G,h1,h2,n,m,g⟩:=R.chg (tQ e)
 cases h2 with
 | ob h2=>
  cases h2 with
  | @mk _ E dx _ fs _ B D f w t s=>
   have:E=C:=by
    have:=f.symm.trans hC.ns;cases this;rfl
   subst this;refine{dx,fs,B,h1,D,w,t,s,n,m,λH' fs' d j k y p o l q r=>g H' _ (a::j) k (.ob (.mk y f p o l)) q λb x=>?_};rcases abS.mp x with z|z
   .exact .inl (z ▸ aab ..)
   .exact(r b z).imp (aad _) id
def ge{l:↥α}{x:α}(h:l[k]?=!x)(a:k<n):(l.take n)[k]?=!x:=by rw[List.getElem?_take_of_lt a];exact h
def gF(c i k:Nat):FE:=λρ Q=>match unO ρ i c with
 | some (_,ps)=>(match ps[k]? with
  |some (.fz d)=>Q (.ov (.fz d)) ρ
  |_=>False)
 |none=>False
def IU(hC:ClsF K c C)(p:μ[j]?=!i)(b:(cm c)[k]?=!f):EF K μ (wj K (cV j) f) (gF c i k):=-{by
 intro F Z H s σ ρ A Q P m R h q;unfold gF at h;split at h
 .rename_i a ps e;split at h
  .rename_i d l;obtain⟨dx,fs,B,h1,h2,g,t,r,_⟩:=R.obj hC e;obtain⟨x,u,v,g1,g2,_⟩:=r.at_ l;have o:k<ps.length:=(List.getElem?_eq_some_iff.mp l).1;have n:fs.lookup f=!x:=tR (k:=k) (by rw[g];exact(aa1 ..).nodup (dA c)) (by rw[g];exact ge b o) g1
   cases g2 with
   |fz dn=>exact{.ref a,(m j i p).1.trans h1,a,C,dx,fs,x,rfl,h2,hC.cl,hC.na f (List.mem_of_getElem? b),n,q _ _ _ _ _ _ _ h (Same.refl _) R (.fz dn) Fresh.nil}
  .exact h.elim
 .exact h.elim}
def tS(c:Nat):(cm c).length<1000:=by
 match c with
 |0=>decide
 |1=>decide
 |_+2=>show (0:Nat)<1000;decide
def Rel.setF{s:↥FV}{g:FV}{E:↥Addr}(R:Rel K F Z H σ ρ A)(hC:ClsF K c C)(G:(cm c)[k]?=!f)(e:unO ρ i c=!(a,ps))(w:Fw K F H y g E)(fr:Fresh F Z A E)(ep:IT ps k g=!s) :
  ∃dx fs,σ[i]?=!!(.ref a)/\H a=!(.ins C dx fs)/\fs.length<1000/\∃A',Rel K F Z (upd H a (.ins C dx (fq f y fs))) σ (ρ.set i !(.ob {(a),c,s})) A':=by
 obtain⟨dx,fs,B,h1,h2,D,Y,Q,nd,mA,mk⟩:=R.obj hC e;obtain⟨m,t⟩:=abV.mp nd;have L:=Q.length;rw[abP] at L;have O:a∈A:=mA a (aab ..);have r:∀b∈E,b≠a:=λb d z=>(fr.fr b d).2.2 (z ▸ O);have out:∀b u,b≠a->H b=!u->upd H a (.ins C dx (fq f y fs)) b=!u:=λb u d q=>by rw[aj d];exact q
 have T:Fw K F (upd H a (.ins C dx (fq f y fs))) y g E:=w.keep (Same.refl _) λb u d q=>out b u (r b d) q;have W:(fs.map (·.1)).Nodup:=by rw[D];exact(aa1 ..).nodup (dA c)
 refine{dx,fs,h1,h2,by have:=tS c;nofun,?_};unfold IT at ep;split at ep
 .rename_i o;have o:k<ps.length:=Nat.le_of_ble_eq_true o;cases ep;obtain⟨x,C0,B',g1,g2,pm,g4⟩:=Q.at_ (List.getElem?_eq_getElem o);obtain⟨V,p2⟩:=Ed (y:=y) (k:=k) W (by rw[D];exact ge G o);have n:∀b∈B',b∈B:=λb d=>pm.mem_iff.mpr (abQ.mpr (.inr d));obtain⟨S,I,l⟩:=g4 F (upd H a (.ins C dx (fq f y fs))) y g E (Same.refl _) (λb u d q=>out b u (λz=>m (z ▸ n b d)) q) T;obtain⟨_,X,_⟩:=aQ pm t;refine mk _ _ _ S (λb u d q=>out b u (λz=>d (z ▸ aab ..)) q) ag (by rw[V,D,aaF]) (by rw[aaF];exact Y) (by rw[p2];exact I) (abV.mpr {λd=>?_,l.nodup_iff.mpr (ab0.mpr {fr.nd,X,λb d b' p z=>?_})}) λb d=>?_
  .rcases abQ.mp (l.mem_iff.mp d) with z|z
   .exact r a z rfl
   .exact m (n a z)
  .exact(fr.fr b d).2.2 (mA b (aad _ (n b (z ▸ p))))
  .rcases abQ.mp (l.mem_iff.mp d) with z|z
   .exact .inr (fr.fr b z)
   .exact .inl (n b z)
 .split at ep
  .rename_i o;have o:k=ps.length:=Nat.eq_of_beq_eq_true o;subst o;cases ep;have J:ps.length<(cm c).length:=(List.getElem?_eq_some_iff.mp G).1
   have v:f∉fs.map (·.1):=λz=>by
    rw[D] at z;obtain⟨j,N⟩:=List.mem_iff_getElem?.mp z
    have M:j<ps.length:=by
     have:=(List.getElem?_eq_some_iff.mp N).1;rw[aao] at this;nofun
    rw[List.getElem?_take_of_lt M] at N;have:=(List.getElem?_inj () (dA c)).mp (N.trans G.symm);nofun
   have P:Fws K F (upd H a (.ins C dx (fq f y fs))) (fs.map (·.2)) ps B:=Q.keep (Same.refl _) λb u d q=>out b u (λz=>m (z ▸ d)) q;obtain⟨S,I,l⟩:=P.snoc T;have U:=ox (y:=y) v;have e2:(fq f y fs).map (·.2)=fs.map (·.2)++[y]:=by rw[U,aae];rfl
   refine mk _ _ _ S (λb u d q=>out b u (λz=>d (z ▸ aab ..)) q) ag ?_ (by rw[aag];exact J) (by rw[e2];exact I) (abV.mpr {λd=>?_,l.nodup_iff.mpr (ab0.mpr {fr.nd,t,λb d b' p z=>?_})}) λb d=>?_
   .rw[U,aae,D,aag,show ps.length+[g].length=ps.length+1 from rfl,List.take_add_one,G];rfl
   .rcases abQ.mp (l.mem_iff.mp d) with z|z
    .exact r a z rfl
    .exact m z
   .exact(fr.fr b d).2.2 (mA b (aad _ (z ▸ p)))
   .rcases abQ.mp (l.mem_iff.mp d) with z|z
    .exact .inr (fr.fr b z)
    .exact .inl z
  .cases ep
def jk(c i k:Nat)(fe:FE):FS:=λE ρ=>fe ρ λr e=>match fzR r e with
 | some (d,b)=>(match unO b i c with
  | some (a,ps)=>(match IT ps k (.fz d) with
   |some f=>E.nx (b.set i !(.ob {(a),c,f}))
   |none=>False)
  |none=>False)
 |none=>False
def Ak(c i k:Nat)(fe:FE):FS:=λE ρ=>fe ρ λr e=>match takeR r e with
 | some (o,d)=>∀b:Addr,(match KP b o with
  | some g=>(match unO d i c with
   | some (a,ps)=>(match IT ps k g with
    |some f=>E.nx (d.set i !(.ob {(a),c,f}))
    |none=>False)
   |none=>False)
  |none=>False)
 |none=>False
def qv(c i k:Nat)(fe:FE):FS:=λE ρ=>match unO ρ i c with
 | some (_,e)=>(match e[k]? with
  | some (.fz (.int x))=>fe ρ fun r b=>on1 b r fun d=>(match d with
   | .int y=>(match unO b i c with
    | some (a,ps)=>(match IT ps k (.fz (.int (x+y))) with
     |some f=>E.nx (b.set i !(.ob {(a),c,f}))
     |none=>False)
    |none=>False)
   |_=>False)
  |_=>False)
 |none=>False
def Ee(hC:ClsF K c C)(e:(cm c)[k]?=!f)(s:EF K (List.range n) te fe):SF K n m (KA K (cV i) te f) (jk c i k fe):=-{by
 intro F Z H σ0 σ ρ A D B R p E h;refine s.h (View.id p.1) R h λr j v F1 H1 M I b o z v1 f1=>?_;split at b
 .rename_i d g x;obtain⟨G,L,l,R2,dn,_,_⟩:=z.frz v1 f1 x;split at b
  .rename_i a ps w;split at b
   .rename_i q u;obtain⟨dx,fs,h1,h2,t,J,y⟩:=R2.setF hC e w (.fz dn) Fresh.nil u;exact{.ref a,h1,a,C,dx,fs,rfl,h2,hC.cl,hC.na f (List.mem_of_getElem? e),t,E.nx _ _ _ _ _ (o.trans l) y p b}
   .exact b.elim
  .exact b.elim
 .exact b.elim}
def xU(hC:ClsF K c C)(d:(cm c)[k]?=!f)(t:EF K (List.range n) te fe):SF K n m (KA K (cV i) te f) (Ak c i k fe):=-{by
 intro F Z H σ0 σ ρ A D I R p E h;refine t.h (View.id p.1) R h λr j v F1 H1 O L b l G v1 f1=>?_;split at b
 .rename_i o e z;obtain⟨J,N,R2,s,f2,_,_⟩:=G.takeR v1 f1 z;have b:=b (adr v);split at b
  .rename_i g w;split at b
   .rename_i a ps y;split at b
    .rename_i q x;obtain⟨dx,fs,h1,h2,u,M,B⟩:=R2.setF hC d y (s.part w) f2 x;exact{.ref a,h1,a,C,dx,fs,rfl,h2,hC.cl,hC.na f (List.mem_of_getElem? d),u,E.nx _ _ _ _ _ l B p b}
    .exact b.elim
   .exact b.elim
  .exact b.elim
 .exact b.elim}
def Rel.fld(R:Rel K F Z H σ ρ A)(hC:ClsF K c C)(l:(cm c)[k]?=!f)(e:unO ρ i c=!(a,ps))(g:ps[k]?=!(.fz d)):∃dx fs x,σ[i]?=!!(.ref a)/\H a=!(.ins C dx fs)/\fs.lookup f=!x/\Den K F x d:=by
 obtain⟨dx,fs,B,h1,h2,b,n,m,_⟩:=R.obj hC e;obtain⟨x,o,p,g1,g2,_⟩:=m.at_ g;have j:k<ps.length:=(List.getElem?_eq_some_iff.mp g).1
 cases g2 with
 |fz dn=>exact{dx,fs,x,h1,h2,tR (k:=k) (by rw[b];exact(aa1 ..).nodup (dA c)) (by rw[b];exact ge l j) g1,dn}
def Ef(hC:ClsF K c C)(b:(cm c)[k]?=!f)(w:EF K (List.range n) te fe):SF K n m (mD K (cV i) te Lm f) (qv c i k fe):=-{by
 intro F Z H σ0 σ ρ A D N R p E h;unfold qv at h;split at h
 .rename_i j s L;split at h
  .rename_i x G;obtain⟨dx,fs,z,h1,h2,B,dn⟩:=R.fld hC b L G;refine{.ref j,h1,j,C,dx,fs,z,rfl,h2,hC.cl,hC.na f (List.mem_of_getElem? b),B,?_};refine w.h (View.id p.1) R h λr o v F1 H1 Q O u q l v1 f1=>?_;obtain⟨d,e,p2⟩:=b4 u;split at p2
   .rename_i y;refine{x,y,dn.int_eq,(l.acc v1 e).int_eq,?_};split at p2
    .rename_i a ps J;split at p2
     .rename_i t I;obtain⟨g,fs',g1,g2,g3,P,M⟩:=l.setF (y:=.int (x+y)) hC b J (.fz (.int _)) Fresh.nil I;have:a=j:=by rw[h1] at g1;cases g1;rfl
      subst this;exact{g,fs',g2,g3,E.nx _ _ _ _ _ q M p p2}
     .exact p2.elim
    .exact p2.elim
   .exact p2.elim
  .exact h.elim
 .exact h.elim}
end
section
variable {K:Frag}     
def km{l:↥α}{x:α}(h:l[k]?=!x):l.set k x=l:=by
 apply List.ext_getElem?;intro j;by_cases a:k=j
 .subst a;rw[h,List.getElem?_set_self (List.getElem?_eq_some_iff.mp h).1]
 .rw[List.getElem?_set_ne a]
def Rel.fldL{b:Addr}(R:Rel K F Z H σ ρ A)(hC:ClsF K c C)(I:(cm c)[k]?=!f)(e:unO ρ i c=!(a,ps))(w:ps[k]?=!(.fl b ds)) :
  ∃dx fs xs,σ[i]?=!!(.ref a)/\H a=!(.ins C dx fs)/\fs.lookup f=!(.ref b)/\H b=!(.lst xs)/\Dens K F xs ds/\∀d g,Dens K F d g->∃A',Rel K F Z (upd H b (.lst d)) σ (ρ.set i !(.ob {a,c,ps.set k (.fl b g)})) A':=by
 obtain⟨dx,fs,B,h1,h2,r,M,L,nd,mA,mk⟩:=R.obj hC e;obtain⟨n,m⟩:=abV.mp nd;obtain⟨x,P,Q,g1,g2,pm,N⟩:=L.at_ w;have G:k<ps.length:=(List.getElem?_eq_some_iff.mp w).1
 cases g2 with
 | @fl _ xs _ J dn=>
  have o:b∈B:=pm.mem_iff.mpr (by simp);have p:a≠b:=λz=>n (z ▸ o);obtain⟨_,O,E⟩:=aQ pm m;refine{dx,fs,xs,h1,h2,tR (k:=k) (by rw[r];exact(aa1 ..).nodup (dA c)) (by rw[r];exact ge I G) g1,J,dn,λd g s=>?_};obtain⟨D,t,l⟩:=N F (upd H b (.lst d)) (.ref b) (.fl b g) [b] (Same.refl _) (λy u j q=>by rw[aj (show y≠b from λz=>E b (by simp) (z ▸ j))];exact q) (.fl ag s);rw[km g1] at t;have v:∀y∈D,y∈B:=λy j=>pm.mem_iff.mpr (l.mem_iff.mp j);exact mk _ fs _ D (λy u j q=>by rw[aj (show y≠b from λz=>j (z ▸ aad _ o))];exact q) (by rw[aj p];exact h2) (by rw[aaF];exact r) (by rw[aaF];exact M) t (abV.mpr {λz=>n (v a z),(l.trans pm.symm).nodup_iff.mpr m}) λy j=>.inl (v y j)
def xV(c i k:Nat)(fe:FE):FE:=λρ Q=>match unO ρ i c with
 | some (_,g)=>(match g[k]? with
  | some (.fl b _)=>fe ρ fun r f=>(match fzR r f with
   | some (d,e)=>(match unO e i c with
    | some (a,ps)=>(match ps[k]? with
     |some (.fl j ds)=>j=b/\ds.length<sizeLine/\Q (.ov (.fz .non)) (e.set i !(.ob {a,c,ps.set k (.fl j (ds++[d]))}))
     |_=>False)
    |none=>False)
   |none=>False)
  |_=>False)
 |none=>False
def Eg(hC:ClsF K c C)(z:μ[j]?=!i)(l:(cm c)[k]?=!f)(B:EF K μ te fe):EF K μ (tBM K "list" dY (wj K (cV j) f) (cQ te ja)) (xV c i k fe):=-{by
 intro F Z H W σ ρ A Q P n R h q;unfold xV at h;split at h
 .rename_i p x M;split at h
  .rename_i b S m;obtain⟨dx,fs,xs,h1,h2,E,D,_⟩:=R.fldL hC l M m;refine{.ref p,(n j i z).1.trans h1,p,C,dx,fs,.ref b,rfl,h2,hC.cl,hC.na f (List.mem_of_getElem? l),E,.inl {rfl,xs,SqL.of D},?_};refine B.h n R h λr t v F1 H1 A1 Y e w V v1 f1=>?_;split at e
   .rename_i d s L;obtain⟨X,A2,u,R2,N,_,_⟩:=V.frz v1 f1 L;split at e
    .rename_i a ps J;split at e
     .rename_i T ds I;obtain⟨rfl,p2,y⟩:=e;obtain⟨O,fs',g,g1,g2,g3,G,o,mt⟩:=R2.fldL hC l J I;obtain⟨A3,U⟩:=mt (g++[v]) (ds++[d]) (o.snoc N);exact{T,g,v,rfl,rfl,G,by rw[o.length];exact p2,q _ _ _ _ _ _ _ y (w.trans u) U (.fz .non) Fresh.nil}
     .exact e.elim
    .exact e.elim
   .exact e.elim
  .exact h.elim
 .exact h.elim}
def dW(_:Str)(c i:Nat)(cc:Ct)(fa:FA):FE:=λρ Q=>match unO ρ i c with
 |some _=>ar cc (aa (ab i) fa) ρ Q
 |none=>False
def Eh(hC:ClsF K c C)(g:μ[j]?=!i)(f:(cm c).contains mn=false)(l:AF K μ t fa):EF K μ (pQ C mn (spM K cc) [] E0 (cV j) t) (dW mn c i cc fa):=-{by
 intro F Z H n σ ρ A Q P b R h q;unfold dW at h;split at h
 .rename_i ap e;obtain⟨a,ps⟩:=ap;obtain⟨dx,fs,B,h1,h2,m,p,o,_⟩:=R.obj hC e;obtain⟨v,d,k⟩:=(sQ (E:=E0) (sP (sN g) l)).h b R h q
  have:v=.ref a:=by
   have:=d.symm.trans ((b j i g).1.trans h1);cases this;rfl
  subst this;refine{.ref a,d,a,dx,fs,rfl,h2,Ec λz=>?_,k};rw[m] at z;rw[List.contains_eq_mem,decide_eq_false_iff_not] at f;exact f (abm z)
 .exact h.elim}
end
section
variable {K:Frag}     
def Rel.call{c:Ct}{C:↥Addr}{P:Pk}{Q:VK}{E:XK}(R:Rel K F Z H σ ρ A)(G:Ows K F H vs os C)(f2:Fresh F Z A C)(h:c os P)
  (q:∀o f v i j l B,P o f->Same F i->Rel K i Z j σ ρ A->Ows K i j vs f l->Ow K i j v o B->Fresh i Z A (l++B)->Q v j):spM K c vs H Q E:=by
 obtain⟨r,g,d⟩:=mix A H Z;have I:∀a,a∈A->Z a=none:=λa e=>(R.fr a e).2;have sz:Same Z r:=λa o z=>by rw[d a λy=>by rw[I a y] at z;cases z];exact z
 refine{F,r,os,C,P,R.fh,{λa o z=>?_,λa xs z=>?_},λa o z=>?_,G,f2.nd,λa e=>{(f2.fr a e).1,by rw[d a (f2.fr a e).2.2];exact(f2.fr a e).2.1},h,λo f v i j l B p s fh zh dj D x nd fr=>?_}
 .by_cases y:a∈A
  .rw[g a y] at z;exact z
  .rw[d a y] at z;exact R.zh.s a o z
 .by_cases y:a∈A
  .rw[g a y] at z;exact R.sl.nt a y xs z
  .rw[d a y] at z;exact R.zh.n a xs z
 .rw[d a λy=>by rw[(R.fr a y).1] at z;cases z];exact R.dj a o z
 .have t:∀a∈A,∃u,r a=!u:=λa e=>by
   obtain⟨u,m⟩:=R.sl.live a e;exact{u,by rw[g a e];exact m}
  have J:Rel K i Z j σ ρ A:={R.sl.keep s λa u e m=>zh a u (by rw[g a e];exact m),R.nd,λa e=>{(by
   cases z:i a with
   |none=>rfl
   | some u=>
    have:=dj a u z;obtain⟨w,k⟩:=t a e;rw[k] at this;exact nomatch this),(R.fr a e).2},fh,{sz.trans zh,R.zh.n},λa o z=>sz.free (dj a o z)}
  exact q o f v i j l B p s J D x {nd,λb n=>{(fr b n).1,sz.free (fr b n).2,λy=>by
   obtain⟨w,k⟩:=t b y;rw[(fr b n).2] at k;cases k}}
def IV(c:Nat)(cc:Ct)(fa:FA):FE:=λρ Q=>fa ρ λg d=>match takeL g d with
 | some (os,b)=>∀a:Addr,cc (.ob {a,c,[]}::os) λo f=>(match o,f with
  |.fz .non,i::e=>Q (.ov i) (putL g e b)
  |_,_=>False)
 |none=>False
def Ei(hC:ClsF K c C)(Y:AF K μ t fa):EF K μ (BD C (spM K cc) [] E0 t) (IV c cc fa):=-{by
 intro F Z H τ σ ρ A Q P J R h q;refine Y.h J R h λrs s vs F1 H1 A1 B1 h1 M R1 v1 f1=>?_;rw[aaw];intro x dx f l k;split at h1
 .rename_i os r e;obtain⟨C1,A2,R2,m,f2,m2,c2⟩:=R1.takeL v1 f1 e;have j:upd H1 dx (.own x) x=none:=by rw[aj (abz k)];exact f
  have hh:Same H1 (upd (upd H1 dx (.own x)) x (.ins C dx [])):=(bt l).trans (bt j);have R3:=R2.step (F':=F1) (H':=upd (upd H1 dx (.own x)) x (.ins C dx [])) {Same.refl _,hh,R2.fh.trans hh,λa o h n=>by rw[n] at h;cases h};have S:=m.keep (Same.refl F1) λa u _ h=>hh a u h;have fx:F1 x=none:=R2.fh.free f;have w:Z x=none:=R2.zh.free f;have nx:x∉A2:=λz=>by obtain⟨u,g⟩:=R2.sl.live x z;rw[f] at g;cases g
  have T:x∉C1:=λz=>by obtain⟨u,g⟩:=m.live x z;rw[f] at g;cases g
  refine R3.call (.cons (.ob (.mk ag hC.ns rfl (aan _) .nil)) S) {abV.mpr {(T),f2.nd},λb d=>?_} (h1 x) λo O v F4 H4 C4 B p L R4 I G i=>?_
  .rcases abS.mp d with z|z
   .rw[z];exact{(fx),w,nx}
   .exact f2.fr b z
  .split at p
   .rename_i o1 N
    cases G with
    | fz dn=>
     cases I with
     | @cons _ _ _ _ D1 D2 E D=>
      rw[aaw] at i;obtain⟨W,V,U⟩:=aQ (aaB (D1++D2)) i.nd;obtain⟨A5,R5,X⟩:=R4.putL v1 D {V,λb d=>i.fr b (abQ.mpr (.inr d))};refine{dn.non_eq,q _ _ _ _ _ _ _ p (M.trans L) R5 E {W,λb d=>?_}};have:=i.fr b (abQ.mpr (.inl d));exact{this.1,this.2.1,λz=>(X b z).elim this.2.2 λy=>U b d y}
   .exact p.elim
 .exact h1.elim}
def xW(c i k:Nat):FE:=λρ Q=>match unO ρ i c with
 | some (a,ps)=>(match ps[k]? with
  |some g=>Q (.ov (.fz (iq g))) (ρ.set i !(.ob {a,c,ps.set k (.fz (iq g))}))
  |none=>False)
 |none=>False
def Ej(hC:ClsF K c C)(hj:μ[j]?=!i)(L:(cm c)[k]?=!f):EF K μ (wj K (cV j) f) (xW c i k):=-{by
 intro F Z H τ σ ρ A Q P V R h q;unfold xW at h;split at h
 .rename_i a ps e;split at h
  .rename_i g O;obtain⟨v,B,A',h1,h2,R',t,pm⟩:=R.takeI (tQ e);have hk:k<ps.length:=(List.getElem?_eq_some_iff.mp O).1
   cases h2 with
   | ob h2=>
    cases h2 with
    | @mk _ T dx _ fs _ B N r n hl hp=>
     have:T=C:=by have:=r.symm.trans hC.ns;cases this;rfl
     subst this;obtain⟨p,D⟩:=abV.mp t.nd;obtain⟨x,C1,B1,g1,g2,l,g4⟩:=hp.at_ O;have Y:∀b∈C1,b∈a::B:=λb m=>aad _ (l.mem_iff.mpr (abQ.mpr (.inl m)));have J:∀b∈B1,b∈B:=λb m=>l.mem_iff.mpr (abQ.mpr (.inr m));obtain⟨n1,X,W⟩:=aQ l D;obtain⟨G,w,R2,k2,U⟩:=R'.grow g2.live λb m=>t.fr b (Y b m);have dn:=g2.freeze w k2;obtain⟨B2,I,d⟩:=g4 G H x (.fz (iq g)) [] w (λ_ _ _ h=>h) (.fz dn);rw[km g1] at I
     have E:∀b∈a::B2,G b=none/\Z b=none/\b∉A':=λb m=>by
      have s:b∈a::B:=by
       rcases abS.mp m with z|z
       .exact z ▸ aab ..
       .exact aad _ (J b (d.mem_iff.mp z))
      refine{?_,(t.fr b s).2}
      cases z:G b with
      |none=>rfl
      | some u=>
       have M:=U b u z (t.fr b s).1;rcases abS.mp m with y|y
       .exact absurd (l.mem_iff.mpr (abQ.mpr (.inl (y ▸ M)))) p
       .exact absurd (d.mem_iff.mp y) (W b M)
     obtain⟨A3,S,_⟩:=R2.putI (o:=.ob {a,c,ps.set k (.fz (iq g))}) (cT (tQ e)) h1 (.ob (.mk N r (by rw[aaF];exact n) (by rw[aaF];exact hl) I)) {abV.mpr {λz=>p (J a (d.mem_iff.mp z)),d.nodup_iff.mpr X},E};rw[aa5] at S;exact{.ref a,(V j i hj).1.trans h1,a,T,dx,fs,x,rfl,N,hC.cl,hC.na f (List.mem_of_getElem? L),tR (k:=k) (by rw[n];exact(aa1 ..).nodup (dA c)) (by rw[n];exact ge L hk) g1,q _ _ _ _ _ _ _ h w S (.fz dn) Fresh.nil}
  .exact h.elim
 .exact h.elim}
end
section
variable {K:Frag}     
def Obs.length{xs:↥V}{os:↥Oo}{B:↥Addr}(h:Obs K F H xs os B):xs.length=os.length:=by
 induction h with
 |nil=>rfl
 |cons _ _ a=>exact congrArg (·+1) a
def Ob.at_{o:Oo}(h:Ob K F H v o B):v=.ref o.a:=by cases h;rfl
def IW(fe:FE):FE:=λρ Q=>fe ρ λr a=>match r with
 |.ov (.ob o)=>Q (.ov (.obs [o])) a
 |_=>False
def Ek(m:EF K μ te fe):EF K μ (KC (cQ te ja)) (IW fe):=-{by
 intro F Z H s σ ρ A Q P j R h q;refine m.h j R h λr i v F1 H1 t g f k e v1 f1=>{by rw[sizeLine_eq];exact(by decide:(1:Nat)<=16777216),λp c=>?_};split at f
 .rename_i o
  cases v1 with
  | ob v1=>
   have l:F1 p=none:=e.fh.free c;have R2:=e.step (Pure.new (o:=.lst [v]) e.fh c);have w:Obs K F1 (upd H1 p (.lst [v])) [v] [o] (g++[]):=.cons (v1.keep (Same.refl _) λa u _ h=>bt c a u h) .nil;rw[aaw] at w;have np:p∉g:=λz=>by obtain⟨u,d⟩:=v1.live p z;rw[c] at d;cases d
   refine q _ _ _ _ _ _ _ f k R2 (.obs ag w) {abV.mpr {(np),f1.nd},λb n=>?_};rcases abS.mp n with z|z
   .rw[z];exact{l,e.zh.free c,λy=>by obtain⟨u,d⟩:=e.sl.live p y;rw[c] at d;cases d}
   .exact f1.fr b z
 .exact f.elim}
def xX(i:Nat):FE:=λρ Q=>match ρ[i]? with
 |some ↑(.obs os)=>Q (.ov (.fz (.int os.length))) ρ
 |some ↑(.obh os _)=>Q (.ov (.fz (.int (os.length+1:Nat)))) ρ
 |_=>False
def El(g:μ[j]?=!i):EF K μ (tCB (FY K) (cQ (cV j) ja)) (xX i):=-{by
 intro F Z H k σ ρ A Q P f R h q;unfold xX at h;split at h
 .rename_i os e;obtain⟨v,B,h1,h2,_⟩:=R.chg e
  cases h2 with
  | @obs a xs _ _ d c=>
   refine{.ref a,(f j i g).1.trans h1,.inr (.inl {a,_,rfl,.inl (SqL.of d),?_})};rw[aa3,c.length];exact q _ _ _ _ _ _ _ h (Same.refl _) R (.fz (.int _)) Fresh.nil
 .rename_i os b e;obtain⟨v,B,h1,h2,_⟩:=R.chg e
  cases h2 with
  | @obh a _ xs _ _ d c=>
   refine{.ref a,(f j i g).1.trans h1,.inr (.inl {a,_,rfl,.inl (SqL.of d),?_})};rw[aa3,abX,c.length];exact q _ _ _ _ _ _ _ h (Same.refl _) R (.fz (.int _)) Fresh.nil
 .exact h.elim}
def oy(i:Nat):FE:=λρ Q=>match ρ[i]? with
 |some ↑(.obs (o::os))=>Q (.ov (.ob o)) (ρ.set i !(.obh os o.a))
 |_=>False
def xY(C:μ[j]?=!i):EF K μ (tOp (Dw K) (cV j) (tUn (rU λi=>.int (-i)) (tC (.int 1)))) (oy i):=-{by
 intro F Z H I σ ρ A Q P p R h q;unfold oy at h;split at h
 .rename_i o os e;obtain⟨v,B,A',h1,h2,E,k,pm⟩:=R.takeI e
  cases h2 with
  | @obs a xs _ _ l w=>
   cases w with
   | @cons x _ xs _ G B2 m D=>
    have ex:=m.at_;subst ex;obtain⟨d,g⟩:=abV.mp k.nd;obtain⟨u,t,s⟩:=aQ (aaB (G++B2)) g
    obtain⟨J,n,r⟩:=E.putI (o:=.obh os o.a) (cT e) h1 (.obh l D) {abV.mpr {λz=>d (abQ.mpr (.inr z)),t},λb f=>k.fr b (by
     rcases abS.mp f with z|z
     .exact z ▸ aab ..
     .exact aad _ (abQ.mpr (.inr z)))}
    rw[aa5] at n;refine{.ref a,(p j i C).1.trans h1,1,rfl,.inl (.inl {a,_,-1,.ref o.a,rfl,rfl,SqL.of l,(by rw[abG];exact wq _ _),q _ _ _ _ _ _ _ h (Same.refl _) n (.ob m) {u,λb f=>?_}})};have c:=k.fr b (aad _ (abQ.mpr (.inl f)));refine{c.1,c.2.1,λz=>?_};rcases abQ.mp (r.mem_iff.mp z) with y|y
    .rcases abS.mp y with y|y
     .exact d (y ▸ abQ.mpr (.inl f))
     .exact s b f y
    .exact c.2.2 y
 .exact h.elim}
def Em(i:Nat):FE:=λρ Q=>match ρ[i]? with
 |some ↑(.obh os _)=>Q (.ov (.fz .non)) (ρ.set i !(.obs os))
 |_=>False
def En :SF K n m (v6 (KD K "list" Lq (cV i))) (bA (Em i)):=-{by
 intro F Z H σ0 σ ρ A D j R p E h;unfold bA Em at h;split at h
 .rename_i os b e;obtain⟨v,B,h1,h2,nd,mA,mk⟩:=R.chg e
  cases h2 with
  | @obh a _ xs _ B d f=>
   obtain⟨k,g⟩:=mk (upd H a (.lst xs.reverse)) (.obs os) (a::B) (λy u c q=>by rw[aj (show y≠a from λz=>c (z ▸ aab ..))];exact q) (.obs ag (f.keep (Same.refl _) λy u c q=>by rw[aj (show y≠a from λz=>(abV.mp nd).1 (z ▸ c))];exact q)) nd λy c=>.inl c;refine{.ref a,h1,.inl {rfl,_,SqL.of d},a,_,.ref b,rfl,rfl,d,?_,?_}
   .rw[aa3,abX,abG,List.getElem?_append_right (by rw[aa3];nofun)];simp
   .have:((V.ref b::xs).reverse).dropLast=xs.reverse:=by rw[abG,List.dropLast_concat]
    rw[this];exact E.nx _ _ _ _ _ (Same.refl _) g p h
 .exact h.elim}
def xZ(i:Nat)(fe:FE):FE:=λρ Q=>(match ρ[i]? with
 | some ↑(.obs _)=>fe ρ λr a=>(match r,a[i]? with
  |.ov (.ob o),↑↑(.obs os)=>os.length<sizeLine/\Q (.ov (.fz .non)) (a.set i !(.obs (o::os)))
  |_,_=>False)
 |_=>False)
def Eo(x:μ[j]?=!i)(C:EF K μ te fe):EF K μ (tBM K "list" dY (cV j) (cQ te ja)) (xZ i fe):=-{by
 intro F Z H M σ ρ A Q P k R h q;unfold xZ at h;split at h
 .rename_i t I;obtain⟨v0,S,h1,h2,_⟩:=R.chg I
  cases h2 with
  | @obs a p _ _ g w=>
   refine{.ref a,(k j i x).1.trans h1,.inl {rfl,_,SqL.of g},?_};refine C.h k R h λr n v F1 H1 U m d s L v1 f1=>?_;split at d
   .rename_i o os G;obtain⟨O,B,g1,g2,nd,mA,mk⟩:=L.chg G;rw[h1] at g1;cases g1
    cases v1 with
    | ob v1=>
     cases g2 with
     | @obs _ xs _ B E l=>
      have na:∀b∈m,b≠a:=λb D z=>(f1.fr b D).2.2 (mA b (z ▸ aab ..));have f:∀(y:Addr) (u:HO),y≠a->H1 y=!u->upd H1 a (.lst (v::xs).reverse) y=!u:=λy u c q=>by rw[aj c];exact q
      obtain⟨T,J⟩:=mk (upd H1 a (.lst (v::xs).reverse)) (.obs (o::os)) (a::(m++B)) (λy u c q=>f y u (λz=>c (z ▸ aab ..)) q) (.obs ag (.cons (v1.keep (Same.refl _) λy u c q=>f y u (na y c) q) (l.keep (Same.refl _) λy u c q=>f y u (λz=>(abV.mp nd).1 (z ▸ c)) q)))
       (abV.mpr {λz=>(abQ.mp z).elim (λy=>na a y rfl) (abV.mp nd).1,ab0.mpr {f1.nd,(abV.mp nd).2,λy c N e z=>(f1.fr y c).2.2 (mA y (aad _ (z ▸ e)))}})
       (λy c=>by
        rcases abS.mp c with z|z
        .exact .inl (z ▸ aab ..)
        .exact(abQ.mp z).elim (λz=>.inr (f1.fr y z)) λz=>.inl (aad _ z))
      refine{a,_,v,rfl,rfl,E,by rw[aa3,l.length];exact d.1,?_};rw[← abG];exact q _ _ _ _ _ _ _ d.2 s J (.fz .non) Fresh.nil
   .exact d.elim
 .exact h.elim}
def bk(i ix:Nat)(ρ:FSt)(k:FSt->Prop):Prop:=match ρ[i]? with
 | some ↑(.obh os b)=>(match ρ[ix]? with
  |some ↑(.ob o)=>o.a=b/\k ((ρ.set ix none).set i !(.obs (o::os)))
  |_=>False)
 |_=>k ρ
def Rel.bk{k:FSt->Prop}(R:Rel K F Z H σ ρ A)(h:L2.bk i ix ρ k):∃c A',Rel K F Z H σ c A'/\k c:=by
 unfold L2.bk at h;split at h
 .rename_i os b e;split at h
  .rename_i o l;obtain⟨rfl,h⟩:=h;obtain⟨v,B,A',h1,h2,s,d,pm⟩:=R.takeI l;have j:ix≠i:=λz=>by rw[z,e] at l;cases l
   have p:(ρ.set ix none)[i]?=!!(.obh os o.a):=by rw[List.getElem?_set_ne j];exact e
   obtain⟨w,B2,g1,g2,nd,mA,mk⟩:=s.chg p
   cases h2 with
   | ob h2=>
    cases g2 with
    | @obh a _ xs _ B2 n m=>
     have ex:=h2.at_;subst ex;have na:a∉B:=λz=>(d.fr a z).2.2 (mA a (aab ..))
     obtain⟨t,r⟩:=mk H (.obs (o::os)) (a::(B++B2)) (λ_ _ _ q=>q) (.obs n (.cons h2 m)) (abV.mpr {λz=>(abQ.mp z).elim na (abV.mp nd).1,ab0.mpr {d.nd,(abV.mp nd).2,λy g u f z=>(d.fr y g).2.2 (mA y (aad _ (z ▸ f)))}})
      (λy g=>by
       rcases abS.mp g with z|z
       .exact .inl (z ▸ aab ..)
       .exact(abQ.mp z).elim (λz=>.inr (d.fr y z)) λz=>.inl (aad _ z))
     exact{_,t,r,h}
  .exact h.elim
 .exact{(ρ),A,R,h}
def tT(i ix:Nat)(f:FS):FS:=λE ρ=>bk i ix ρ λa=>f E a
def x2{t:TS}{f:FS}(h:SF K n m t f):SF K n m t (tT i ix f):=-{λR p E q=>by
 obtain⟨a,A',c,b⟩:=R.bk q;exact h.h c p E b}
def IX(i ix:Nat)(f:FS):FS:=λE ρ=>f { E with nx:=λρ=>bk i ix ρ E.nx,ct:=λρ=>bk i ix ρ E.ct } ρ
def Ep{t:TS}{f:FS}(h:SF K n m t f):SF K n m t (IX i ix f):=-{fun {F Z H σ0 σ ρ A D g} R p E q=>h.h (fD:={ g with nx:=λρ=>bk i ix ρ g.nx,ct:=λρ=>bk i ix ρ g.ct }) R p {λF' H' a c A' s j e h'=>by
  obtain⟨b,k,R2,d⟩:=j.bk h';exact E.nx _ _ _ _ _ s R2 e d,E.rt,E.bk,λF' H' a c A' s j e h'=>by
  obtain⟨b,k,R2,d⟩:=j.bk h';exact E.ct _ _ _ _ _ s R2 e d} q}
end
section
variable {K:Frag}     
def Er(fa:FA):FE:=λρ Q=>fa ρ λc b=>match takeL c b with
 | some (os,a)=>∀as:Nat->Addr,(match tP as 0 os with
  |some ps=>ps.length<=sizeLine/\Q (.ov (.ot ps)) a
  |none=>False)
 |none=>False
def Es(x:AF K μ t fa):EF K μ (KB t) (Er fa):=-{by
 intro F Z H D σ ρ A Q P n R h q;refine x.h n R h λE m vs F1 H1 M J h1 r B v1 f1=>?_;split at h1
 .rename_i os l e;obtain⟨C,L,R2,f,f2,G,I⟩:=B.takeL v1 f1 e;have h2:=h1 λj=>adr (vs.getD j .non);split at h2
  .rename_i ps ep;have w:=f.parts (i:=0) (λj v s=>by rw[Nat.zero_add,List.getD_eq_getElem?_getD,s];rfl) ep;refine{by rw[w.length];exact h2.1,λp c=>?_};have y:=R2.step (Pure.frz (o:=.tup vs) R2.fh c);have np:p∉C:=λz=>by obtain⟨u,g⟩:=f.live p z;rw[c] at g;cases g
   have k:F1 p=none:=R2.fh.free c;refine q _ _ _ _ _ _ _ h2.2 (r.trans (bt k)) y (.ot ag (w.keep (bt k) λa u _ h=>bt c a u h)) {f2.nd,λb d=>{?_,(f2.fr b d).2}};rw[aj (show b≠p from λz=>np (z ▸ d))];exact(f2.fr b d).1
  .exact h2.elim
 .exact h1.elim}
def kn{l:↥α}{x:α}(h:l[k]?=!x):atI l (k:Int)=!x:=by
 have:=(List.getElem?_eq_some_iff.mp h).1;unfold atI ixN;rw[if_pos (Int.natCast_nonneg k),if_pos ()];exact h
def IY(c k:Nat)(fe:FE):FE:=λρ Q=>fe ρ λr a=>match r with
 | .ov (.ob ⟨_,b,ps⟩)=>(match Nat.beq b c with
  | true=>(match ps[k]? with
   |some g=>Q (.ov (.fz (iq g))) a
   |none=>False)
  |false=>False)
 |_=>False
def Et(hC:ClsF K c C)(m:(cm c)[k]?=!f)(D:EF K μ te fe):EF K μ (wj K te f) (IY c k fe):=-{by
 intro F Z H L σ ρ A Q P t R h q;refine D.h t R h λr s v F1 H1 U T d u J v1 f1=>?_;split at d
 .rename_i a o ps;split at d
  .rename_i I;obtain rfl:o=c:=Nat.eq_of_beq_eq_true I;split at d
   .rename_i g n
    cases v1 with
    | ob v1=>
     cases v1 with
     | @mk _ p dx _ fs _ B G j e M y=>
      have:p=C:=by have:=j.symm.trans hC.ns;cases this;rfl
      subst this;have z:k<ps.length:=(List.getElem?_eq_some_iff.mp n).1;obtain⟨x,O,S,g1,g2,i,_⟩:=y.at_ n;obtain⟨N,l,R2,w,_⟩:=J.grow g2.live λb E=>f1.fr b (aad _ (i.mem_iff.mpr (abQ.mpr (.inl E))));exact{a,p,dx,fs,x,rfl,G,hC.cl,hC.na f (List.mem_of_getElem? m),tR (k:=k) (by rw[e];exact(aa1 ..).nodup (dA o)) (by rw[e];exact ge m z) g1,q _ _ _ _ _ _ _ d (u.trans l) R2 (.fz (g2.freeze l w)) Fresh.nil}
   .exact d.elim
  .exact d.elim
 .exact d.elim}
end
section
variable  {o value:Expr}   {pos' tpos apos:Pos} {ta:TE}    {ps:↥Str} {sp:Sp}
def IZ(K:Frag)(a:BE X e ta)(b:attributeBase e f X.env (eval e X.env)=eval e X.env)(c:X.K=K):BE X (.Attribute e f pos) (wj K ta f):=by subst c;exact{GH a.h b}
def I0(K:Frag)(b:BE X o ta)(a:BE X value tv)(hs:swapsWith value ↑(.Attribute o f pos') pos.line X.env=pure false)(c:X.K=K):BS X (.Assign [.Attribute o f pos'] value pos) (KA K ta tv f):=by subst c;exact{GI b.h a.h hs}
def I8(K:Frag)(b:BE X o ta)(a:BE X value tv)(c:X.K=K):BS X (.AugAssign (.Attribute o f tpos) .Add value pos) (mD K ta tv Lm f):=by subst c;exact{rn b.h a.h GJ}
structure OwnM(P:Program)(w:World)(K:Frag)(mg:Str->Option Value)(base:Heap)(C:Addr)(x:Str)(k:Nat)(ps:↥Str)(sp:Sp):Prop where
 ex:∃(f:Addr) (fd:FuncData),FnOk P w K mg base CX0 k f fd ps sp/\Meth K C x f/\Binds K fd ps []
def I9{m:Str}(O:OwnM X.prog X.w X.K X.mg X.base C m k ps sp)(c:Cls X.K C)(hr:Room k X.A)(g:BE X o ta)(j:BA X (e::es) t)(b:(e::es).all a9=true)
  (a:∃pl:Sem Bool,eval (.Call (.Attribute o m apos) (e::es) [] pos) X.env=(do
   let ov ← eval o X.env
   standAt apos.atName
   let (f,first) ← holding [ov] (getMethod ov m pl)
   callWith pos f first (backTo pos (starEach (e::es) X.env)) (backToKw pos (keywordEach [] X.env)))):BE X (.Call (.Attribute o m apos) (e::es) [] pos) (pQ C m sp [] E0 ta t):=by
 obtain⟨f,fd,F,d,i⟩:=O.ex;obtain⟨pl,a⟩:=a;have h:=b;rw[aaT,ab2] at h;exact{BH (pl:=pl) g.h c d F hr i .nil wD j.h (aP h.1) (cX h.2) a}
def Eu{m:Str}(O:OwnM X.prog X.w X.K X.mg X.base C m k ps sp)(c:Cls X.K C)(hr:Room k X.A)(d:BE X o ta)
  (a:∃pl:Sem Bool,eval (.Call (.Attribute o m apos) [] [] pos) X.env=(do
   let ov ← eval o X.env
   standAt apos.atName
   let (f,first) ← holding [ov] (getMethod ov m pl)
   callWith pos f first (backTo pos (starEach [] X.env)) (backToKw pos (keywordEach [] X.env)))):BE X (.Call (.Attribute o m apos) [] [] pos) (pQ C m sp [] E0 ta ja):=by
 obtain⟨f,fd,F,b,e⟩:=O.ex;obtain⟨pl,a⟩:=a;exact{wl (pl:=pl) d.h c b F hr e .nil wD a}
structure OwnI(P:Program)(w:World)(K:Frag)(mg:Str->Option Value)(base:Heap)(x:Str)(C:Addr)(k:Nat)(ps:↥Str)(sp:Sp):Prop where
 ex:∃(f:Addr) (fd:FuncData),FnOk P w K mg base CX0 k f fd ps sp/\Mk K C f/\mg x=!(.ref C)/\Binds K fd ps []
def Mi(O:OwnI X.prog X.w X.K X.mg X.base x C k ps sp)(hr:Room (k+1) X.A)(j:BA X (e::es) t)(g:X.env.kindOf x=!.globalImplicit)(c:(e::es).all a9=true)(a:(x==("__debug__" : Str))=false):BE X (.Call (.Name x p) (e::es) [] pos) (BD C sp [] E0 t):=by
 obtain⟨f,fd,F,d,b,i⟩:=O.ex;have h:=c;rw[aaT,ab2] at h;exact{BJ d F hr g b i .nil wD j.h a (aP h.1) (cX h.2)}
def Ja{t:TE}(K:Frag)(h:BE X (.Attribute o f pos) t)(a:X.K=K):BT X (.Attribute o f pos) (LJ K t):=by subst a;exact{nE h.h (λ_=>rfl)}
def Jb(K:Frag)(h:X.K=K):BMt X "list.pop" Lq:=-{(GU)}
def ya:BE X (.Dict [] [] pos) rK:=-{(wx)}
def Ew(c:X.A.units+64<cLine)(a:BE X o td)(b:BE X e ty)(m:M1 X o "get" apos e pos):BE X (.Call (.Attribute o "get" apos) [e] [] pos) (rN td ty):=-{wz () a.h b.h m}
end
def tU:typeLookup (.type "list") "keys" = pure none:=-am_miss_of_fast ∅
section
variable   {A:Around}  
def Ex{xs:Array Value}{Q:Option Value->Shared->Prop}(hx:s.heap.get? a=!o)(l:o.cls=.type "list")(f:o.data=.seq xs k)(hd:o.dict=none)(p:A.handled=none)
  (h:∀h' tk,(∀b u,s.heap.get? b=!u->h'.get? b=!u)->Q none { s with heap:=h',toks:=tk }):wpAny (model prog w) A (getAttr? (.ref a) "keys") Q E s:=by
 obtain⟨c,dct,q,sl⟩:=o;simp only at l f hd;subst l f hd;obtain⟨n,g,d,tk,os⟩:=s;have m:∀i,({(n),g,d,i,os}:Shared).TypeIs (.ref a) "list" := λ_=>{_,hx,rfl};have f1:=sub_AttributeError;have y:=F.slot_list_getattribute.lookup;have x:=F.slot_list_getattribute.bind (.ref a);have v:=am_list_getattr_none;unfold getAttr? getAttrBy? getAttrBy
 repeat (any_goals (first|assumption|exact m _|((with_reducible show wpAny _ _ (call (Value.builtin "list.__getattribute__") _ _) _ _ _);refine call_meets F.slot_list_getattribute (m _) am_entry_list_getattribute (F.args_list_getattribute_2 _ _) (meets_getattribute_miss_list a xs k sl "keys" _ tU ∅ ∅) ⟨hx,p,λh' i e j=>?_⟩)|wp_step))
 obtain⟨t',r,t⟩:=j.there;show wpAny _ _ (getattributeRaised _ _ _ _ _ _ _) _ _ _;unfold getattributeRaised
 repeat (any_goals (first|assumption|wp_step))
 exact h _ _ j.keeps
def oz:entryFor table "dict.update.loop" = ↑Builtin.«dict.update.loop»:=-entryFor_of_tree (by kernel_rfl)
def gO:plainId "dict.update.loop" = true:=-∅
variable  [DecidableEq K] {knd:KeyKind prog w K}
def yb(kv:Nat->K×Value)(i:Nat):↥(K×Value):=((List.range i).map kv).foldl (λm p=>stored m p.1 p.2) []
def iL(kv:Nat->K×Value)(i:Nat):yb kv (i+1)=stored (yb kv i) (kv i).1 (kv i).2:=by
 unfold yb;rw[List.range_succ,aae,abl];rfl
def qw{t:Addr}{k v:Value}{m:Nat}{Q:↥Value->Shared->Prop}(h1:s.heap.get? t=!o)(h2:o.cls=.type "tuple")(a:o.data=.seq #[k,v] m)(h:Q [k,v] s):wpAny (model prog w) A (Builtin.Dict.pairItems (.ref t)) Q E s:=by
 obtain⟨c,dct,e,sl⟩:=o;simp only at h2 a;subst h2 a;obtain⟨b,g,d,tk,os⟩:=s;have f:({(b),g,d,tk,os}:Shared).TypeIs (.ref t) "tuple" := {_,h1,rfl};unfold Builtin.Dict.pairItems
 repeat (any_goals (first|assumption|wp_step))
theorem oA(kv:Nat->K×Value):∀i,(yb kv i).length<=i
 |0=>aac _
 |i+1=>by rw[iL];exact aar (stored_length_le ..) (abJ (oA kv i))
def tV{R:Result->Shared->Prop}{I:Addr}{fp c:↥Addr}{G:Array GenState->Array GenState->Prop}{P:Nat->Value->Prop}{St:Nat->Shared->Prop}(W:WalksS prog w A.in1 I fp c G n P St)(d:Addr)(D:d∉fp)
  (kv:Nat->K×Value) (hn:n<=sizeLine):∀(k i:Nat) (s:Shared),n - i=k->i<=n->St i s ->
   (∀i v,P i v->∃t o key m,v=.ref t/\s.heap.get? t=!o/\o.cls=.type "tuple" /\ o.data=.seq #[key,(kv i).2] m/\knd.is (kv i).1 key=true/\t∉d::c)->s.heap.DictOf knd d (yb kv i) ->
   (∀s',Moved (d::c) G s s'->s'.heap.DictOf knd d (yb kv n)->R (.ok (.ret .none)) s') ->
   codeAny (model prog w) A (.builtin "dict.update.loop" {[.ref d,.ref I,rawInt i,.none],[]}) R s:=by
 have F:d∉c:=λh=>D (W.sub _ h);have a:∀b∈c,b∈d::c:=λb l=>aad _ l;intro k
 induction k with
 | zero=>
  intro i s V hi f M O Q;obtain rfl:i=n:=()
  refine codeAny_builtin oz ?_;rw[aaG gO _];show wpAny _ A.in1 (pyNext (.ref I) >>= _) _ _ s;refine aaa (W.done s _ _ f λs' B=>?_);show wpAny _ A.in1 (Builtin.Dict.addKeywords d [] >>= λ_=>ret Value.none) _ _ s';obtain⟨o,es,ep,L,r⟩:=O;exact aaa (aaf (aaf (Q s' (B.mono a) {o,es,ep,B.heap d o F L,r})))
 | succ k U=>
  intro i s V hi f M O Q;have C:i<n:=()
  refine codeAny_builtin oz ?_;rw[aaG gO _];show wpAny _ A.in1 (pyNext (.ref I) >>= _) _ _ s;refine aaa (W.item i s _ _ C f λv s' Y x B=>?_);obtain⟨t,o,key,m,rfl,h1,h2,h3,h4,Z⟩:=M i v Y;have keep:∀b u,b∉c->s.heap.get? b=!u->s'.heap.get? b=!u:=λb u l q=>B.heap b u l q
  have N:s'.heap.DictOf knd d (yb kv i):=by
   obtain⟨o,es,ep,L,r⟩:=O;exact{o,es,ep,keep d o F L,r}
  show wpAny _ A.in1 (holding [Value.ref t] _ >>= _) _ _ s';refine aaa (aaS ?_);refine aaa (wpAny_tryCatch ?_);refine qw (keep t o (λz=>Z (a t z)) h1) h2 h3 ?_;show wpAny _ A.in1 (holding [key,(kv i).2] (dictSet d key (kv i).2)) _ _ s';refine aaS (wpAny_dictSet_pairs h4 N (λh' E g=>?_) (aar (oA kv i) ()));rw[← iL] at E;refine aaf {plainId_quiet gO _,U (i+1) _ () C (W.frame _ s' _ _ x (aa7 _) λb l o e=>?_) (λj v X=>?_) E λJ y H=>?_}
  .rw[g.2 b (λh:b=d=>D (by rw[← h];exact l))];exact e
  .obtain⟨t',o',p,T,e1,e2,e3,e4,e5,S⟩:=M j v X;exact{t',o',p,T,e1,(g.2 t' λz=>S (z ▸ aab ..)).trans (keep t' o' (λz=>S (a t' z)) e2),e3,e4,e5,S}
  .refine Q J (Moved.trans W.gtrans ((B.mono a).then_heap (aa7 _) λb o l e=>?_) y) H;rw[g.2 b (λh:b=d=>l (by rw[h];exact aab))];exact e
def lD{l:Addr}{ol:Obj}{items:Array Value}{nl:Nat}(G:s.heap.get? l=!ol)(n:ol.cls=.type "list")(c:ol.data=.seq items nl)(C:ol.dict=none)(hh:A.handled=none)(kv:Nat->K×Value)
  (N:∀(i:Nat) v,items[i]?=!v->∃t o key m,v=.ref t/\s.heap.get? t=!o/\o.cls=.type "tuple" /\ o.data=.seq #[key,(kv i).2] m/\knd.is (kv i).1 key=true) (M:items.size<=sizeLine)
  (h:∀h' tk,h'.DictOf knd s.heap.objs.size (yb kv items.size)->(∀b o,s.heap.get? b=!o->h'.get? b=!o)->Q (.ref s.heap.objs.size) { s with heap:=h',toks:=tk }) :
  wpAny (model prog w) A (call (.type "dict") [.ref l]) Q E s:=by
 refine callType_codes (Q₁:=λobj d=>obj=.ref s.heap.objs.size/\d={ s with heap:=s.heap.push { cls:=.type "dict", data:=.dict #[] } }) F.kt_called_dict (F.kt_typeCall_dict_1 _) F.entry_dict_init (kt_code_dict_new _ {(rfl),rfl}) ?_;rintro obj d ⟨rfl,rfl⟩;have a:(s.heap.push { cls:=.type "dict", data:=.dict #[] }).DictOf knd s.heap.objs.size []:=Heap.DictOf.new s.heap;have g:(s.heap.push { cls:=.type "dict", data:=.dict #[] }).get? l=!ol:=Heap.get?_push_of_some _ G;refine{a.typeIs,F.args_dict_init_2 _ _,?_};unfold Builtin.«dict.__init__»;refine aaa ?_;unfold Builtin.Dict.selfAndRest;refine aaa (wpAny_notOrdered_dict a.typeIs ?_);show wpAny _ _ (pure (s.heap.objs.size,[Value.ref l])) _ _ _;refine aaf ?_;show wpAny _ _ (Builtin.Dict.updateFrom "dict.__init__" s.heap.objs.size (.ref l) [] .none) _ _ _;unfold Builtin.Dict.updateFrom;refine aaa (wpAny_typeOf (T := "list") {(ol),g,n} ?_);rw[if_pos (by decide)];refine aaa (Ex g n c C (by simp[hh]) λh1 J y=>?_);rw[if_pos (show (none:Option Value).isNone=true from rfl)];refine aaa (abE ?_);have f:h1.get? l=!ol:=y l ol g;refine aaa (wpAny_pyIter_list (items:=items) {(ol),f,n,nl,c} ?_)
 have j:h1.DictOf knd s.heap.objs.size []:=by
  obtain⟨o,es,ep,z,r⟩:=a;exact{o,es,ep,y _ _ z,r}
 have e:s.heap.objs.size<h1.objs.size:=by
  obtain⟨o,es,ep,z,r⟩:=j;exact aah z
 have B:l<s.heap.objs.size:=aah G;have up:∀b u,s.heap.get? b=!u->h1.get? b=!u:=λb u q=>y b u (Heap.get?_push_of_some _ q);refine aaf {plainId_quiet gO _,tV (knd:=knd) (A:=A.in1) ((Walks.list (by simp[hh]) _ l (aam (aah f)) items).toS) s.heap.objs.size ?_ kv M (items.size - 0) 0 _ rfl (aan _) ?_ ?_ ?_ ?_}
 .simp only[List.mem_cons,List.not_mem_nil,or_false,not_or];exact{aam e,Nat.ne_of_gt B}
 .exact{{_,Heap.get?_push_size _ rfl,rfl,rfl},{ol,Heap.get?_push_of_some _ f,n,nl,c}}
 .intro i v L;obtain⟨t,o,key,m,W,I,V,U,S⟩:=N i v L;refine{t,o,key,m,W,Heap.get?_push_of_some _ (up t o I),V,U,S,?_};simp only[List.mem_cons,List.not_mem_nil,or_false,not_or];have:=aah I;exact{aam this,aam (acf this e)}
 .exact j.push _
 .intro s' k D;obtain⟨h',g',X,p,x⟩:=s';have P:g'=s.gens:=k.gens;have R:X=s.drawn:=k.drawn;have O:x=s.os:=k.os;subst P R O;refine{rfl,h h' p D λb o q=>?_};have H:=aah q;refine k.heap b o ?_ (Heap.get?_push_of_some _ (up b o q));simp only[List.mem_cons,List.not_mem_nil,or_false,not_or];exact{aam H,aam (acf H e)}
end
def qx[DecidableEq K]{L:↥(K×Value)}{d:K×Value}(l:(L.map (·.1)).Nodup):∀i,i<=L.length->yb (λi=>L.getD i d) i=L.take i:=by
 intro i
 induction i with
 |zero=>intro _;rfl
 | succ i g=>
  intro hi;rw[iL,g ()];have e:L[i]?=!(L.getD i d):=by rw[List.getD_eq_getElem?_getD,List.getElem?_eq_getElem ()];rfl
  have a:(L.take i).any (λf=>decide (f.1=(L.getD i d).1))=false:=by
   rw[List.any_eq_false];intro p k;rw[decide_eq_true_eq];intro z;obtain⟨j,c⟩:=List.mem_iff_getElem?.mp k;have b:j<i:=by have:=(List.getElem?_eq_some_iff.mp c).1;rw[aao] at this;nofun
   rw[List.getElem?_take_of_lt b] at c;have n:(L.map (·.1))[j]?=!p.1:=by rw[List.getElem?_map,c];rfl
   have m:(L.map (·.1))[i]?=!p.1:=by rw[List.getElem?_map,e,z];rfl
   have:=(List.getElem?_inj (by rw[abP];nofun) l).mp (n.trans m.symm);nofun
  unfold stored;rw[a,if_neg (by decide),List.take_add_one,e];rfl
def tW(K:Frag):↥V->Hp->VK->Prop:=λxs H Q=>∃(l:Addr) (rows:↥(Addr×Str×V)),xs=[.ref l]/\SqL K H l (rows.map λr=>.ref r.1)/\(∀r∈rows,SqT K H r.1 [.str r.2.1,r.2.2])/\(rows.map (·.2.1)).Nodup /\
 ∀p,H p=none->Q (.ref p) (upd H p (.dK (rows.map λr=>(.inr r.2.1,r.2.2))))
def Ey(I:Inv X pins σ H s):∀{rows:↥(Addr×Str×V)},(∀r∈rows,SqT X.K H r.1 [.str r.2.1,r.2.2]) ->
  ∃L:↥(Key×Value),KV (rows.map λr=>((.inr r.2.1:Key),r.2.2)) L/\∀(i:Nat) r,rows[i]?=!r->∃o key val m,s.heap.get? r.1=!o/\o.cls=.type "tuple" /\ o.data=.seq #[key,val] m/\L[i]?=!(.inr r.2.1,val)/\(aw X.prog X.w).is (.inr r.2.1) key=true:=by
 intro rows
 induction rows with
 |nil=>exact λ_=>{[],.nil,λi r h=>nomatch h}
 | cons r rows e=>
  intro h;obtain⟨L,h1,h2⟩:=e λx a=>h x (aad _ a);obtain⟨its,b,⟨o,j,g,n,f⟩,_⟩:=I.tuple (h r (aab ..));obtain⟨key,val,rfl,d,c⟩:=we b;refine{(.inr r.2.1,val)::L,.cons {(rfl),c} h1,λi x a=>?_}
  cases i with
  |zero=>cases a;exact {o,key,val,n,j,g,f,rfl,jc (k:=.inr r.2.1) d}
  |succ i=>exact h2 i x a
def qy(G:X.calm=true):CallR X (.type "dict") (tW X.K):=by
 intro pins s σ H xs us Q I r h;obtain⟨l,rows,rfl,h1,h2,J,q⟩:=h;obtain⟨u,rfl,B⟩:=dS r;cases B;obtain⟨its,j,⟨ol,nl,R,P,O,N⟩,p⟩:=I.list h1;obtain⟨L,n,k⟩:=Ey I h2;have S:L.length=rows.length:=by have:=n.length;rw[abP] at this;exact this.symm
 have hi:its.length=rows.length:=by have:=j.length;rw[abP] at this;exact this.symm
 rw[abP] at p
 have F:L.map (·.1)=rows.map λr=>(.inr r.2.1:Key):=by
  apply List.ext_getElem?;intro i;rw[List.getElem?_map,List.getElem?_map]
  cases e:rows[i]? with
  | none=>
   have:L[i]?=none:=by rw[List.getElem?_eq_none_iff] at e ⊢;nofun
   rw[this];rfl
  | some r=>
   obtain⟨_,_,val,_,_,_,_,M,_⟩:=k i r e;rw[M];rfl
 have E:(L.map (·.1)).Nodup:=by
  rw[F];have:(rows.map λr=>(.inr r.2.1:Key))=(rows.map (·.2.1)).map Sum.inr:=by rw[aav];rfl
  rw[this];exact List.Pairwise.map _ (λa b (z:a≠b) y=>z (abh y)) J
 refine lD (knd:=aw X.prog X.w) R P N O (I.ok.hd G) (λi=>L.getD i (.inl 0,.none)) (λi v t=>?_) (by rw[abY];nofun) λh' tk A g=>?_
 .have c:its[i]?=!v:=by rw[← Array.getElem?_toList] at t;exact t
  have d:i<rows.length:=by have:=(List.getElem?_eq_some_iff.mp c).1;nofun
  obtain⟨o,key,val,m,g1,g2,g3,x,K⟩:=k i _ (List.getElem?_eq_getElem d);have D:(rows.map λr=>V.ref r.1)[i]?=!(.ref (rows[i]).1):=by rw[List.getElem?_map,List.getElem?_eq_getElem d];rfl
  obtain⟨u,w,C⟩:=j.get D;rw[c] at w;cases w;refine{_,o,key,m,C,g1,g2,?_,?_}
  .rw[List.getD_eq_getElem?_getD,x];exact g3
  .rw[List.getD_eq_getElem?_getD,x];exact K
 .have f:its.toArray.size=L.length:=by rw[abY];nofun
  rw[f,qx E L.length (aac _),List.take_length] at A;refine{.ref s.heap.objs.size,_,I.laid (a:=s.heap.objs.size) (o:=.dK (rows.map λr=>(.inr r.2.1,r.2.2))) (t':=tk) g (aac _) (ib (by rw[abP];exact p) (beq_eq_false_iff_ne.mpr (abz (aam I.big))) n A),rfl,q _ (I.hok.fresh (aac _))}
def yc(K:Frag)(a:X.calm=true)(h:X.K=K):BCall X (.type "dict") (tW K):=by subst h;exact{qy a}
section
variable {K:Frag}
def mR:↥D->Option ↥(Str×D)
 |[]=>![]
 | .tup [.str z,d]::ds=>(match mR ds with
  |some r=>!((z,d)::r)
  |none=>none)
 |_=>none
def oB:↥D->(OV->Prop)->Prop
 | [.lst ds],P=>(match mR ds with
  |some a=>(a.map (·.1)).Nodup/\P (.fd (a.map fun r=>.inr r.1) (a.map (·.2)))
  |none=>False)
 |_,_=>False
def tX(s:Same F H):∀{ds:↥D} {xs:↥V} {b:↥(Str×D)},Dens K F xs ds->mR ds=!b->∃rows:↥(Addr×Str×V),xs=rows.map (λr=>.ref r.1)/\(∀r∈rows,SqT K H r.1 [.str r.2.1,r.2.2])/\rows.map (·.2.1)=b.map (·.1)/\Dens K F (rows.map (·.2.2)) (b.map (·.2)):=by
 intro ds
 induction ds with
 |nil=>intro xs b h e;cases h;cases e;exact{[],rfl,(λ_ z=>nomatch z),rfl,.nil}
 | cons d ds j=>
  intro xs b h e
  cases h with
  | @cons x _ xs _ h t=>
   unfold mR at e;split at e
   .rename_i heq;cases heq
   .rename_i z o n heq;cases heq;split at e
    .rename_i r m;cases e;obtain⟨rows,rfl,h2,l,k⟩:=j t m
     cases h with
     | @tup a ys _ f hd=>
      cases hd with
      | cons i c=>
       cases c with
       | @cons v _ _ _ c g=>
        cases g;rw[i.str_eq] at f;refine{(a,z,v)::rows,rfl,λr hr=>?_,by rw[abT,abT,l],.cons c k};rcases abS.mp hr with y|y
        .rw[y];exact SqT.of (s _ _ f)
        .exact h2 r y
    .cases e
   .cases e
def yd:CallF K (tW K) oB:=-{by
 intro F H xs ds Q P s e f n;unfold oB at f;split at f
 .rename_i j;split at f
  .rename_i c i;obtain⟨x,rfl,d⟩:=bH e;obtain⟨a,ys,rfl,h1,h2⟩:=d.asL s;obtain⟨rows,rfl,g2,g3,g⟩:=tX s h2 i;refine{a,rows,rfl,h1,g2,by rw[g3];exact f.1,λq b=>n _ (.ref q) F _ [q] f.2 (Pure.new s b) (.fd ag ?_ ?_) (New.one b (s.free b))}
   .rw[aav];have:(rows.map (·.2.1)).map (Sum.inr (α:=Int))=(c.map (·.1)).map Sum.inr:=by rw[g3]
    rw[aav,aav] at this;exact this
   .rw[aav];exact g
  .exact f.elim
 .exact f.elim}
end
section
variable {K:Frag}     
def oC:FE:=λρ Q=>Q (.ov (.ft [] [])) ρ
def ye:EF K μ rK oC:=-{by
 intro F Z H f σ ρ A Q P g R h q p a;have d:F p=none:=R.fh.free a;exact R.after (P:=λo=>P (.ov o) ρ) (λo v j i B p b e c fr=>q _ _ _ _ _ _ _ p b e c fr) _ _ F _ [p] h (Pure.new R.fh a) (.ft ag rfl .nil) (New.one a d)}
def ko(ks:↥↥Key)(ds:↥D)(k:↥Key)(d:D):↥↥Key×↥D:=
 if qq ks k=true then (ks,(ks.zip ds).map λa=>if a.1=k then d else a.2) else (ks++[k],ds++[d])
def tY{ys:↥(↥Key×V)}{k:↥Key}(e:ys.map (·.1)=ks)(dn:Dens K F (ys.map (·.2)) ds)(g:Den K F v d):(ia ys k v).map (·.1)=(ko ks ds k d).1/\Dens K F ((ia ys k v).map (·.2)) (ko ks ds k d).2:=by
 unfold ko ia;have f:qq ks k=(ys.any λb=>decide (b.1=k)):=by rw[← e,qq,abw];rfl
 by_cases c:qq ks k=true
 .have a:(ys.any λb=>decide (b.1=k))=true:=f ▸ c;rw[if_pos a,if_pos c];constructor
  .rw[aav,← e];refine abr λb _=>?_;show (if b.1=k then (b.1,v) else b).1=b.1;split <;> rfl
  .subst e;clear c a f
   induction ys generalizing ds with
   |nil=>cases dn;exact .nil
   | cons y ys i=>
    cases dn with
    | cons l j=>
     refine .cons ?_ (i j);show Den K F (if y.1=k then (y.1,v) else y).2 (if y.1=k then d else _);split
     .exact g
     .exact l
 .have a:¬(ys.any λb=>decide (b.1=k))=true:=f ▸ c;rw[if_neg a,if_neg c];refine{by rw[aae,e];rfl,?_};rw[aae];exact dn.snoc g
def unT(ρ:FSt)(i:Nat):Option (↥↥Key×↥D):=match ρ[i]? with
 |some ↑(.ft ks ds)=>!(ks,ds)
 |_=>none
def Rel.mutT(R:Rel K F Z H σ ρ A)(h:unT ρ i=!(ks,ds)):∃a ys,σ[i]?=!!(.ref a)/\H a=!(.dT ys)/\ys.map (·.1)=ks/\Dens K F (ys.map (·.2)) ds /\
  ∀b c d,b.map (·.1)=c->Dens K F (b.map (·.2)) d->∃A',Rel K F Z (upd H a (.dT b)) σ (ρ.set i !(.ft c d)) A':=by
 have e:ρ[i]?=!!(.ft ks ds):=by
  unfold unT at h;split at h
  .rename_i e;cases h;exact e
  .cases h
 obtain⟨v,B,h1,h2,nd,mA,mk⟩:=R.chg e
 cases h2 with
 | @ft a ys _ _ l k dn=>
  refine{a,ys,h1,l,k,dn,λb c d g j=>mk _ _ [a] (λy u f q=>by rw[aj (show y≠a from λz=>f (z ▸ aab ..))];exact q) (.ft ag g j) nd λy f=>.inl f}
def lE(i:Nat)(fe fk:FE):FS:=λE ρ=>fe ρ λr c=>match fzR r c with
 | some (d,b)=>(unT b i).isSome=true/\fk b λs a=>on1 a s λf=>(match f with
  | .tup e=>(match jj e,unT a i with
   |some k,↑(ks,ds)=>ks.length<sizeLine/\E.nx (a.set i !(.ft (ko ks ds k d).1 (ko ks ds k d).2))
   |_,_=>False)
  |_=>False)
 |none=>False
def yf(N:EF K (List.range n) tv fe)(M:EF K (List.range n) ty fk):SF K n m (wu (cV i) ty tv) (lE i fe fk):=-{by
 intro F Z H σ0 σ ρ A D fD R p E h;refine N.h (View.id p.1) R h λr x v F1 H1 A1 B1 e B R1 v1 f1=>?_;split at e
 .rename_i d u U;obtain⟨F2,A2,z,R2,W,_,_⟩:=R1.frz v1 f1 U;obtain⟨P,e⟩:=e;obtain⟨⟨J,X⟩,V⟩:=ab4.mp P;obtain⟨a,xs,h1,h2,h3,_⟩:=R2.mutT V;refine{.ref a,h1,?_};refine M.h (View.id p.1) R2 e λs t w F3 H3 A3 B3 I q o y f3=>?_;obtain⟨dk,Q,c⟩:=b4 I;split at c
  .rename_i kd;split at c
   .rename_i k ks ds S T;obtain⟨a',ys,g,l,f,j,mt⟩:=o.mutT T;rw[h1] at g;cases g;obtain⟨b,rfl,O⟩:=j5 o.fh (o.acc y Q) S;obtain⟨G,C⟩:=tY (k:=k) f j (W.mono q);obtain⟨A4,Y⟩:=mt (ia ys k v) _ _ G C;have L:ys.length=ks.length:=by rw[← f,abP]
    exact{a,_,rfl,.inr {ys,k,b,l,rfl,O,by rw[L];exact c.1,rfl},E.nx _ _ _ _ _ ((B.trans z).trans q) Y p c.2}
   .exact c.elim
  .exact c.elim
 .exact e.elim}
def Jc(c fk:FE):FE:=λρ Q=>c ρ λr b=>on1 b r λf=>(match f with
 | .dct _ _=>fk b λs a=>on2 a r s λd e=>(match d,ml e with
  |.dct ks ds,↑k=>Q (.ov (.fz ((iD ks ds k).getD .non))) a
  |_,_=>False)
 |_=>False)
def Ez{ys:↥(Key×V)}{ks:↥Key}{k:Key}{z:V}{g:D}(c:ys.map (·.1)=ks)(h:Dens K F (ys.map (·.2)) ds)(j:Den K F z g):Den K F ((gC ys k).getD z) ((iD ks ds k).getD g):=by
 cases e:iD ks ds k with
 | some d=>
  obtain⟨v,h1,h2⟩:=j6 c h e;rw[h1];exact h2
 | none=>
  have:gC ys k=none:=by
   have h1:=oe (k:=k) c
   cases q:gC ys k with
   |none=>rfl
   | some v=>
    rw[q] at h1;have b:qp ks k=true:=h1.symm;unfold qp at b;rw[aaK] at b;obtain⟨x,l,a⟩:=b;rw[decide_eq_true_eq] at a;subst a;unfold iD at e;rw[Option.map_eq_none_iff,List.find?_eq_none] at e;have m:ks.length=ds.length:=by rw[← c,abP];simpa using h.length
    obtain⟨i,hi⟩:=List.mem_iff_getElem?.mp l;have f:i<ds.length:=by have:=(List.getElem?_eq_some_iff.mp hi).1;nofun
    have:=e (x,ds[i]) (List.mem_iff_getElem?.mpr {i,by rw[List.getElem?_zip_eq_some];exact{hi,List.getElem?_eq_getElem f}});simp at this
  rw[this];exact j
def EA{l:FE}(t:EF K μ td l)(u:EF K μ ty fk):EF K μ (rN td ty) (Jc l fk):=-{by
 intro F Z H G σ ρ A Q P j R h q;refine t.h j R h λL n x F1 H1 W U h1 r i v1 f1=>?_;obtain⟨M,E,h1⟩:=b4 h1;split at h1
 .obtain⟨a,o,rfl,g1,_⟩:=(i.acc v1 E).asD i.fh;refine{a,rfl,.inl {_,g1},?_};obtain⟨O,sz,g,I,back⟩:=i.hold v1.live v1.nt f1;refine u.h j g h1 λJ m y S H2 V T h2 c R2 p f2=>?_;obtain⟨b,w,s⟩:=back _ _ _ _ c R2;obtain⟨d,e,D,C,f⟩:=nS h2;split at f
  .rename_i ks ds k z;obtain⟨N,ys,B,g2,g3,v⟩:=(b.acc (v1.keep c s) D).asD b.fh;cases B;refine{gC ys k,by rw[eW (b.acc p C) z];exact DGet.kR g2,q _ _ _ _ _ _ _ f (r.trans c) b (.fz (Ez g3 v .non)) Fresh.nil}
  .exact f.elim
 .exact h1.elim}
def fGet2(i fk g:FE):FE:=λρ Q=>i ρ λr c=>on1 c r λl=>(match l with
 | .dct _ _=>fk c λs b=>on1 b s λe=>(match ml e with
  | some k=>g b fun t f=>(match fzR t f with
   | some (j,a)=>on1 a r λd=>(match d with
    |.dct ks ds=>Q (.ov (.fz ((iD ks ds k).getD j))) a
    |_=>False)
   |none=>False)
  |none=>False)
 |_=>False)
def tZ(fk e:FE):FE:=λρ Q=>fk ρ λr a=>on1 a r λd=>(match ml d with
 | some k=>e a λs c=>(match fzR s c with
  |some (f,b)=>Q (.ov (.fd [k] [f])) b
  |none=>False)
 |none=>False)
def yg{j:FE}(v:EF K μ tk fk)(u:EF K μ tv j):EF K μ (BZ [(tk,tv)]) (tZ fk j):=-{by
 intro F Z H S σ ρ A Q P e R h q p a;have O:=R.step (Pure.new (o:=.dK []) R.fh a);have fp:Fresh F Z A [p]:=R.fresh (New.one a (R.fh.free a));obtain⟨X,sz,N,T,back⟩:=O.hold (B:=[p]) (λb w=>{.dK [],by rw[abR.mp w];exact ag}) (.one ag (λ_ z=>nomatch z) .nil) fp;refine v.h e N h λV r x F1 H1 A1 B1 h1 i R2 v1 f1=>?_;obtain⟨d,G,h2⟩:=b4 h1;split at h2
 .rename_i k E;have D:=eW (R2.acc v1 G) E;refine u.h e R2 h2 λU n y F2 H2 A2 B2 c g M s f2=>?_;split at c
  .rename_i W m C;obtain⟨Y,A3,f,L,dn,_,_⟩:=M.frz s f2 C;obtain⟨J,l,t⟩:=back _ _ _ _ ((i.trans g).trans f) L;have fb:=l.fr p (aab ..);have I:=J.write (o:=.dK [(k,y)]) fb.2.2 fb.1 fb.2.1;exact{t p _ (aab ..) ag,[(k,y)],by rw[D];rfl,(by decide:(1:Nat)<=15),q _ _ _ _ _ _ _ c ((i.trans g).trans f) I (.fd ag rfl (.cons dn .nil)) l}
  .exact c.elim
 .exact h2.elim}
end
section
variable {K:Frag}        
def rg(h:i<n):(List.range n)[i]?=!i:=by simp[h]
def EB(hC:ClsF K c C)(h:i<n)(a:(cm c)[k]?=!f):EF K (List.range n) (wj K (cV i) f) (gF c i k):=-IU hC (rg h) a
def yh(hC:ClsF K c C)(h:i<n)(a:(cm c)[k]?=!f):EF K (List.range n) (wj K (cV i) f) (xW c i k):=-Ej hC (rg h) a
def yi(hC:ClsF K c C)(h:i<n)(a:(cm c)[k]?=!f)(b:EF K (List.range n) te fe):EF K (List.range n) (tBM K "list" dY (wj K (cV i) f) (cQ te ja)) (xV c i k fe):=-Eg hC (rg h) a b
def yj(hC:ClsF K c C)(h:i<n)(a:(cm c).contains mn=false)(b:AF K (List.range n) t fa):EF K (List.range n) (pQ C mn (spM K cc) [] E0 (cV i) t) (dW mn c i cc fa):=-Eh hC (rg h) a b
def yk(h:i<n):EF K (List.range n) (tCB (FY K) (cQ (cV i) ja)) (xX i):=-El (rg h)
def t0(h:i<n):EF K (List.range n) (tOp (Dw K) (cV i) (tUn (rU λi=>.int (-i)) (tC (.int 1)))) (oy i):=-xY (rg h)
def yl(h:i<n)(a:EF K (List.range n) te fe):EF K (List.range n) (tBM K "list" dY (cV i) (cQ te ja)) (xZ i fe):=-Eo (rg h) a
end
structure DfM(K:Frag)(C:Addr)(x q:Str)(st:Stmt)(f:Addr)(fd:FuncData):Prop where
 me:Meth K C x f
 fn:Fun K x q st f fd
def dfm_mk{K:Frag}{f:Addr}{kV:Value}(a:PySem.W.findIn K (.ref C) x=!!(.ref f))(i:PySem.W.isFn K (.ref f)=true)
  (l:K.lookup f=!{oc,od,.func (PySem.W.fnOf x q (cF st) (bu st) (av st) .none kV doc pm an cdv ct),osl}) (c:PySem.W.codeIn K cdv q=true) (k:PySem.W.keepIn K (.ref f)=true):DfM K C x q st f (PySem.W.fnOf x q (cF st) (bu st) (av st) .none kV doc pm an cdv ct):=-{{(a),i,k},zV l c k}
def Jd{K:Frag}(a:PySem.W.nsIn K mainGlobals (C6 c)=!!(.ref C))(pg:PySem.W.plainGet K C Str.empty=true)(hd:PySem.W.hasDictIn K C=true)(po:PySem.W.plainOver K C=true)(sa:PySem.W.findIn K (.ref C) "__setattr__" = !!(.builtin "object.__setattr__"))(na:∀f∈cm c,NoAttr K C f):ClsF K c C:=-{a,{(pg),hd,po,sa},na}
abbrev mS(Z:Zz)(C:Addr)(x:Str)(k:Nat)(ps:↥Str)(c:Ct):Prop:=OwnM Z.P Z.w Z.K Z.mg Z.base C x k ps (spM Z.K c)
abbrev Je(Z:Zz)(C:Addr)(x:Str)(k:Nat)(ps:↥Str)(c:Ct):Prop:=OwnI Z.P Z.w Z.K Z.mg Z.base x C k ps (spM Z.K c)
section
variable {Z:Zz} {T:Prop} {y:Str}  {f:Addr}  {ps:↥Str} {c:Ct}  {h:Heap}
def gf(D:DfM Z.K C x q st f fd)(ok:FnOk Z.P Z.w Z.K Z.mg Z.base CX0 k f fd ps (spM Z.K c))
  (a:∀(kV doc pm:Value) (an:Option Addr) (cdv ct:Value) (us:↥Value),us.length=ps.length->bindArgs (PySem.W.fnOf x q (cF st) (bu st) (av st) .none kV doc pm an cdv ct) {us,[]}=pure (ps.zip us)):mS Z C x k ps c:=-{f,fd,ok,D.me,D.fn.binds a}
def EC(t:TopZ Z T)(D:DfM Z.K C "__init__" q st f fd)(a:PySem.W.nsIn Z.K mainGlobals y=!!(.ref C))(mk:PySem.W.makesIn Z.K C=true)(b:PySem.W.keepIn Z.K (.ref C)=true)(ok:FnOk Z.P Z.w Z.K Z.mg Z.base CX0 k f fd ps (spM Z.K c))
  (d:∀(kV doc pm:Value) (an:Option Addr) (cdv ct:Value) (us:↥Value),us.length=ps.length->bindArgs (PySem.W.fnOf "__init__" q (cF st) (bu st) (av st) .none kV doc pm an cdv ct) {us,[]}=pure (ps.zip us)):Je Z C y k ps c:=-{f,fd,ok,{(mk),D.me.at_,D.me.fn,b},aaW t.X t.G a,D.fn.binds d}
end
section
variable  {P:↥α->Prop}
theorem us_1(h:∀a,P [a]):∀us:↥α,us.length=1->P us
 |[_],_=>h _
theorem us_2(h:∀a b,P [a,b]):∀us:↥α,us.length=2->P us
 |[_,_],_=>h _ _
theorem us_3(h:∀a b c,P [a,b,c]):∀us:↥α,us.length=3->P us
 |[_,_,_],_=>h _ _ _
theorem us_4(h:∀a b c d,P [a,b,c,d]):∀us:↥α,us.length=4->P us
 |[_,_,_,_],_=>h _ _ _ _
theorem us_5(h:∀a b c d e,P [a,b,c,d,e]):∀us:↥α,us.length=5->P us
 |[_,_,_,_,_],_=>h _ _ _ _ _
end
def qz(i j:Int):Prop:=i.natAbs<2 ^ 1000/\j.natAbs<2 ^ 1000
def ED:OpR X (binaryOp .Mult) (rI qz λi j=>.int (i*j)):=-opI λi j _ _ _ _ _ a q=>mul_int q (.of_le (intBits_le a.1) (intBits_le a.2) (by decide))
def ym:BOp X (binaryOp .Mult) (rI qz λi j=>.int (i*j)):=-{(ED)}
def t4(i j:Int):Prop:=0<=j/\j<=8/\i.natAbs<2 ^ 1000
def EE:OpR X (binaryOp .Pow) (rI t4 λi j=>.int (i ^ j.toNat)):=-opI λi j _ _ _ _ _ a q=>by
 refine pow_int a.1 ?_ q;have b:Builtin.Int.intBits i<=1000:=intBits_le a.2.2;have h2:=a.2.1;have h1:(Builtin.Int.intBits i:Int)*j<=1000*j:=Int.mul_le_mul_of_nonneg_right () a.1;nofun
def yn:BOp X (binaryOp .Pow) (rI t4 λi j=>.int (i ^ j.toNat)):=-{(EE)}
section
variable {K:Frag}
def yo:OpF K (rI qz λi j=>.int (i*j)) (aIC qz λi j=>.int (i*j)):=-jB λ_ _ _=>.int _
def yp:OpF K (rI t4 λi j=>.int (i ^ j.toNat)) (aIC t4 λi j=>.int (i ^ j.toNat)):=-jB λ_ _ _=>.int _
end
def mT:V->↥V->Hp->VK->Prop:=λx vs H Q=>∃l b xs ys,x=.ref l/\vs=[.ref b]/\H l=!(.dK xs)/\Rd H b (.dK ys)/\l≠b/\xs.length+ys.length<=sizeLine/\Q .non (upd H l (.dK (fA xs ys)))
def t5:MtM X "dict.update" mT:=by
 intro pins s σ H x vs v us Q I m n h;obtain⟨l,b,xs,ys,rfl,rfl,g,t,a,f,q⟩:=h;cases m;obtain⟨u,rfl,o⟩:=n.one;cases o;obtain⟨z,hd,v1,e,j⟩:=rF I.hok g;obtain⟨y,c,k,d,w⟩:=jd I.hok t;refine call_meetsIn PySem.F.slot_dict_update j.typeIs PySem.F.entry_dict_update (PySem.F.args_dict_update_2 _ _) (meets_dict_update (aw X.prog X.w) l b a c) {v1,k,j,w,by rw[← e.length,← d.length];exact f,λh' i _ hs=>?_};have r:∃q,h'.get? l=!q:=let ⟨q,_,_,p,_⟩:=i;{(q),p};exact{.non,_,fP I (by rw[g];exact True.intro) hs r (ib (aar (de ys xs) f) hd (d.merge e) i),rfl,q}
def t6:BMt X "dict.update" mT:=-{(t5)}
section
variable {K:Frag}     
def EG:↥Key->↥D->↥Key->↥D->↥Key×↥D
 |ks,ds,k::es,d::fs=>EG (iA ks ds k d).1 (iA ks ds k d).2 es fs
 |ks,ds,_,_=>(ks,ds)
def yq:∀{ys xs:↥(Key×V)} {ks es:↥Key} {ds fs:↥D},xs.map (·.1)=ks->Dens K F (xs.map (·.2)) ds->ys.map (·.1)=es->Dens K F (ys.map (·.2)) fs->(fA xs ys).map (·.1)=(EG ks ds es fs).1/\Dens K F ((fA xs ys).map (·.2)) (EG ks ds es fs).2:=by
 intro ys
 induction ys with
 |nil=>intro xs ks es ds fs h1 h2 b a;subst b;cases a;exact{(h1),h2}
 | cons y ys e=>
  intro xs ks es ds fs h1 h2 b a;subst b
  cases a with
  | cons g f=>
   obtain⟨d,c⟩:=n9 (k:=y.1) h1 h2 g;have r:=e (xs:=ia xs y.1 y.2) d c rfl f;exact r
def Rel.mutDF{ks:↥Key}(R:Rel K F Z H σ ρ A)(h:unD ρ i=!(ks,ds)):∀a,σ[i]?=!!(.ref a)->F a=none:=by
 obtain⟨v,B,A',h1,h2,g,d,pm⟩:=R.takeI (lq h);intro a c
 cases h2 with
 | @fd b ys ks os e f dn=>
  rw[h1] at c;cases c;exact(d.fr a (aab ..)).1
def M5(i:Nat)(fe:FE):FE:=λρ Q=>(unD ρ i).isSome=true/\fe ρ λr b=>match fzR r b with
 | some (.dct es fs,a)=>(match unD a i with
  |some (ks,ds)=>ks.length+es.length<=sizeLine/\Q (.ov (.fz .non)) (a.set i !(.fd (EG ks ds es fs).1 (EG ks ds es fs).2))
  |none=>False)
 |_=>False
def EH(h:j<n)(E:EF K (List.range n) te fe):EF K (List.range n) (tBM K "dict" mT (cV j) (cQ te ja)) (M5 j fe):=-{by
 intro F Z H U σ ρ A Q P p R h' q;obtain⟨G,h'⟩:=h';obtain⟨⟨D,N⟩,L⟩:=ab4.mp G;obtain⟨a,f,h1,h2,_,_,_⟩:=R.mutD L;refine{.ref a,(p j j (rg h)).1.trans h1,.inr (.inr (.inl {rfl,.inl {(f),h2}})),?_};refine E.h p R h' λr w v F1 H1 A1 W d y T v1 f1=>?_;split at d
 .rename_i es fs u m;obtain⟨V,Y,x,R2,M,_,_⟩:=T.frz v1 f1 m;split at d
  .rename_i ks ds t;obtain⟨O,xs,c,l,e,k,mt⟩:=R2.mutD t;have s:=R2.mutDF t O c;rw[h1] at c;cases c
   cases M with
   | @dct b ys _ _ g2 g3 I=>
    have i:a≠b:=λz=>by
     rw[← z] at g2;rcases g2 with g|⟨o,g⟩
     .rw[s] at g;cases g
     .rw[s] at g;cases g
    obtain⟨C,B⟩:=yq e k g3 I;obtain⟨X,S⟩:=mt (fA xs ys) _ _ C B;refine{a,b,xs,ys,rfl,rfl,l,R2.fh.rd g2,i,?_,q _ _ _ _ _ _ _ d.2 (y.trans x) S (.fz .non) Fresh.nil};have J:xs.length=ks.length:=by rw[← e,abP]
    have m:ys.length=es.length:=by rw[← g3,abP]
    rw[J,m];exact d.1
  .exact d.elim
 .exact d.elim}
end
section
variable   {A:Around}   {it d:Addr} {ep:Nat}  {es:Array DictEntry} {e:DictEntry} {Q:Option Value->Shared->Prop}
def yr(k:s.heap.IsKeyIter it d i es.size ep)(hd:s.heap.get? d=!o)(a:o.data=.dict es ep)(p:es[i]?=!e)(q:∀h',h'.IsKeyIter it d (i+1) es.size ep->Heap.SameBut it s.heap h'->Q ↑e.key { s with heap:=h' }):wpAny (model prog w) A (pyNext (.ref it)) Q E s:=by
 have j:=k.typeIs;obtain⟨m,hi,f,c⟩:=k;obtain⟨B,dct,u,sl⟩:=m;simp only at f c;subst f c;obtain⟨z,y,t,l⟩:=o;simp only at a;subst a;obtain⟨v,g,x,tk,os⟩:=s;unfold pyNext;refine aaa (abO (wpAny_callSpecial?_slot j abf (aaC abf j F.entry_dict_keyiterator_next ?_ (F.args_dict_keyiterator_next_1 _))));unfold Builtin.«dict_keyiterator.__next__»
 repeat (any_goals (first|assumption|wp_step))
 have n:(if (i:Int)<0 then none else es[(i:Int).toNat]?)=!e:=by rw[if_neg ()];simpa using p
 rw[n]
 repeat (any_goals (first|assumption|(with_reducible refine wpAny_isOneOf_keyiter (by assumption) ?_)|wp_step))
 refine{_,rfl,aaf (q _ {_,Heap.get?_update_self _ hi rfl,rfl,?_} {?_,λb r=>Heap.get?_update_other _ _ (abz r)})}
 .kernel_rfl
 .exact Heap.size_update ..
def yt(t:A.handled=none)(k:s.heap.IsKeyIter it d i es.size ep)(hd:s.heap.get? d=!o)(a:o.data=.dict es ep)(p:es[i]?=none)(q:∀h',Heap.ExtBut it s.heap h'->Q none { s with heap:=h' }):wpAny (model prog w) A (pyNext (.ref it)) Q E s:=by
 have j:=k.typeIs;obtain⟨m,hi,f,c⟩:=k;obtain⟨C,dct,v,sl⟩:=m;simp only at f c;subst f c;obtain⟨B,z,u,l⟩:=o;simp only at a;subst a;obtain⟨x,g,y,tk,os⟩:=s;unfold pyNext;refine aaa (abO (wpAny_callSpecial?_slot j abf (aaC abf j F.entry_dict_keyiterator_next ?_ (F.args_dict_keyiterator_next_1 _))));unfold Builtin.«dict_keyiterator.__next__»
 repeat (any_goals (first|assumption|wp_step))
 have n:(if (i:Int)<0 then none else es[(i:Int).toNat]?)=none:=by rw[if_neg ()];simpa using p
 rw[n]
 repeat (any_goals (first|assumption|wp_step))
 refine wpAny_raiseNew_none (by simp[t]) ?_;have f1:=isSubtype_stop
 repeat (any_goals (first|assumption|wp_step))
 exact q _ λb o r e=>Heap.get?_push_of_some _ (Heap.get?_push_of_some _ ((Heap.get?_update_other _ _ (abz r)).trans e))
def yu{Q:Value->Shared->Prop}(hd:s.heap.get? d=!o)(b:o.cls=.type "dict")(a:o.data=.dict es ep)(j:(d==sysModules)=false)(q:Q (.ref s.heap.objs.size) { s with heap:=s.heap.push { cls:=.type "dict_keyiterator", data:=.fields #[.ref d,.int 0 0,.int es.size 0,.int ep 0] } }):wpAny (model prog w) A (pyIter (.ref d)) Q E s:=by
 have c:s.TypeIs (.ref d) "dict" := {_,hd,b};obtain⟨m,l,f,e⟩:=o;simp only at a b;subst a b;obtain⟨i,g,k,tk,os⟩:=s;refine wpAny_pyIter_slot c F.slot_dict_iter (aaC F.slot_dict_iter c F.entry_dict_iter ?_ (F.args_dict_iter_1 _));unfold Builtin.«dict.__iter__» Builtin.Dict.dictSlotNone;refine aaa (aaa (wpAny_notOrdered_dict c ?_));unfold Builtin.Dict.showsAll
 repeat (any_goals (first|assumption|wp_step))
 refine{_,rfl, "dict_keyiterator", _,{_,Heap.get?_push_size _ rfl,rfl},F.slot_dict_keyiterator_next.lookup,q}
theorem EI(hE:o.ExactDict)(hdat:o.data=.dict es ep)(hm:(d==sysModules)=false):PySem.W.KdlSrc prog w "dict" d d es.size (λi v=>∃e,es[i]?=!e/\v=e.key) (λh=>h.get? d=!o) where
 type:=λs h=>{_,h,hE.1}
 there:=λh e=>{aah e,aah e}
 keep:=λh h' e k=>k d (.inl rfl) o e
 notList:=by decide
 notTuple:=by decide
 hint:=λA E s Q h q=>PySem.W.kdl_hint_dict {_,h,hE.1} q
 iter:=λA s hA h=>by
  refine{_,λi h'=>h'.IsKeyIter s.heap.objs.size d i es.size ep/\h'.get? d=!o,λE Q q=>yu h hE.1 hdat hm q,?_,{_,Heap.get?_push_size _ rfl,rfl,rfl},Heap.get?_push_of_some _ h};have hne:d≠s.heap.objs.size:=aam (aah h);refine{λb hb=>by simp at hb;simp[hb],λi h1 h2 hs k=>{?_,k d (by simp) o hs.2},λi s1 Q E hi hs q=>?_,λs1 Q E hs q=>?_,λi s1 Q E hs q=>wpAny_pyIter_keyiter hs.1 q}
  .obtain⟨oi,e1,e2⟩:=hs.1;exact{oi,k _ (by simp) oi e1,e2}
  .refine yr hs.1 hs.2 hdat (Array.getElem?_eq_getElem hi) λh' g1 g2=>q _ h' _ {_,Array.getElem?_eq_getElem hi,rfl} {g1,(g2.2 d hne).trans hs.2} λb u hb e=>?_;rw[g2.2 b (by exists hb)];exact e
  .refine yt hA hs.1 hs.2 hdat (Array.getElem?_eq_none (aac _)) λh' g=>q h' _ λb u hb e=>g b u (by exists hb) e
end
def EJ{β:Type}{F:α->β->Prop}{l:↥α}{m:↥β}(h:Paired F l m):∀{i:Nat} {a:α} {b:β},l[i]?=!a->m[i]?=!b->F a b:=by
 induction h with
 |nil=>intro i a b e;cases e
 | cons r t f=>
  intro i a b d c
  cases i with
  |zero=>cases d;cases c;exact r
  |succ i=>exact f d c
def t7:↥V->Hp->VK->Prop:=λxs H Q=>∃(p:Addr) (kvs:↥(↥Key×V)),xs=[.ref p]/\Rd H p (.dT kvs)/\∀(l:Addr) (bs:↥Addr),H l=none->bs.length=kvs.length->(∀(i:Nat) (b:Addr) (a:↥Key×V),bs[i]?=!b->kvs[i]?=!a->H b=!(.tup (a.1.map kV)))->Q (.ref l) (upd H l (.lst (bs.map .ref)))
def qA(D:X.calm=true):CallR X (.type "list") t7:=by
 intro pins s σ H xs us Q I r h;obtain⟨p,kvs,rfl,B,q⟩:=h;obtain⟨u,rfl,y⟩:=dS r;cases y;obtain⟨n,E,xs,rel,o,es,ep,h1,h2,G,m,F⟩:=(show ObjOk X.prog X.w H s.heap p (.dT kvs) from B.ok I.hok);have k:kvs.length=xs.length:=aa4 rel;have f:es.size=xs.length:=by rw[← abZ,m,abP]
 refine PySem.W.kdl_call (EI h2 G E) (I.ok.hd D) h1 (by rw[f,← k];exact n) λh' tk a K C v c=>?_
 have d:a.toList=xs.map λx=>Value.ref x.2.1:=by
  apply List.ext_getElem?;intro j;rw[List.getElem?_map]
  cases e:xs[j]? with
  | none=>
   rw[List.getElem?_eq_none_iff] at e;refine List.getElem?_eq_none ?_;rw[abZ,c.1,f];exact e
  | some x=>
   have t:j<a.size:=by have:=(List.getElem?_eq_some_iff.mp e).1;rw[c.1,f];exact this
   obtain⟨en,w,J⟩:=c.2 j a[j] (Array.getElem?_eq_getElem t);rw[← Array.getElem?_toList,m,List.getElem?_map,e] at w;cases w;rw[Array.getElem?_toList,Array.getElem?_eq_getElem t,J];rfl
 have A:Vals ((xs.map λx=>x.2.1).map V.ref) a.toList:=by
  rw[d,aav];clear c d v f k m F rel
  induction xs with
  |nil=>exact .nil
  |cons x xs z=>exact .cons rfl z
 refine{.ref s.heap.objs.size,_,I.laid (t':=tk) (o:=.lst ((xs.map λx=>x.2.1).map V.ref)) C (aac _) {by rw[abP,abP,← k];exact n,a.toList,K,A,by rw[abn];exact v},rfl,q _ _ (I.hok.fresh (aac _)) (by rw[abP,k]) λi b L g l=>?_};rw[List.getElem?_map] at g
 cases e:xs[i]? with
 |none=>rw[e] at g;cases g
 | some x=>
  rw[e] at g;cases g;exact(EJ rel l e).2.1
def yv(a:X.calm=true):BCall X (.type "list") t7:=-{qA a}
section
variable {K:Frag}     
def Rel.tups{bs:↥Addr}(R:Rel K F Z H σ ρ A)(h:∀b∈bs,∃xs,H b=!(.tup xs)):∃F',Same F F'/\Rel K F' Z H σ ρ A/\∀b∈bs,F' b=H b:=by
 classical
 obtain⟨F',s,c,k,_⟩:=R.grow (B:=bs.filter λb=>decide (F b=none)) (λb a=>by
  obtain⟨xs,e⟩:=h b (ab3.mp a).1;exact{_,e}) (λb a=>by
  obtain⟨xs,e⟩:=h b (ab3.mp a).1;refine{of_decide_eq_true (ab3.mp a).2,?_,λz=>R.sl.nt b z xs e}
  cases z:Z b with
  |none=>rfl
  | some o=>
   have:=R.zh.s b o z;rw[e] at this;cases this;exact absurd z (R.zh.n b xs))
 refine{F',s,c,λb a=>?_};obtain⟨xs,e⟩:=h b a
 cases z:F b with
 |none=>rw[e];exact k b _ (ab3.mpr {a,decide_eq_true z}) e
 |some o=>rw[s b o z];exact(R.fh b o z).symm
def M6(k:↥Key):D:=.tup (k.map xC)
theorem lF{F:Hp}:∀{ks:↥↥Key} {bs:↥Addr},bs.length=ks.length->(∀(i:Nat) b k,bs[i]?=!b->ks[i]?=!k->F b=!(.tup (k.map kV)))->Dens K F (bs.map .ref) (ks.map M6)
 |[],[],_,_=>.nil
 |k::ks,b::bs,a,h=>.cons (.tup (h 0 b k rfl rfl) (fE k)) (lF (Nat.succ.inj a) λi b k d c=>h (i+1) b k d c)
def Al(fe:FE):FE:=λρ Q=>fe ρ λr a=>on1 a r λd=>match d with
 |.dt ks _=>Q (.ov (.fl (ks.map M6))) a
 |_=>False
def yw(y:EF K μ te fe):EF K μ (tCB t7 (cQ te ja)) (Al fe):=-{by
 intro F Z H D σ ρ A Q P t R h q;refine y.h t R h λr s x F1 H1 I G h1 v p v1 f1=>?_;obtain⟨d,j,h2⟩:=b4 h1;split at h2
 .rename_i ks ds;obtain⟨a,ys,rfl,g1,g2,g3⟩:=(p.acc v1 j).asDT p.fh;refine{a,ys,rfl,g1,λl bs m c n=>?_}
  have at_:∀(i:Nat) b,bs[i]?=!b->∃f,ys[i]?=!f/\H1 b=!(.tup (f.1.map kV)):=λi b e=>by
   have hi:i<ys.length:=by have:=(List.getElem?_eq_some_iff.mp e).1;nofun
   exact{_,List.getElem?_eq_getElem hi,n i b _ e (List.getElem?_eq_getElem hi)}
  obtain⟨E,u,R2,w⟩:=p.tups (bs:=bs) λb n=>by
   obtain⟨i,e⟩:=List.mem_iff_getElem?.mp n;obtain⟨f,_,g⟩:=at_ i b e;exact{_,g}
  have C:=R2.step (Pure.new (o:=.lst (bs.map .ref)) R2.fh m);refine q _ _ _ _ _ _ _ h2 (v.trans u) C (.fl ag (lF (by rw[c,← g2,abP]) λi b k j g=>?_)) (R2.fresh (New.one m (R2.fh.free m)));obtain⟨f,B,z⟩:=at_ i b j;rw[← g2,List.getElem?_map,B] at g;cases g;rw[w b (List.mem_iff_getElem?.mpr {(i),j})];exact z
 .exact h2.elim}
def ofF:FV->OV
 |.fz d=>.fz d
 |.fl _ ds=>.fl ds
 |.fd _ ks ds=>.fd ks ds
 |.ft _ ks ds=>.ft ks ds
def Fw.own{p:FV}(h:Fw K F H v p B):Ow K F H v (ofF p) B:=by
 cases h with
 |fz h=>exact .fz h
 |fl h t=>exact .fl h t
 |fd h q t=>exact .fd h q t
 |ft h q t=>exact .ft h q t
end
section
variable {K:Frag}  
end
section
variable  {K:Frag}
end
section
variable {K:Frag}     
def t9(i:Nat)(fk:FE)(ρ:FSt)(P:Addr->↥D->FSt->Prop):Prop:=match ρ[i]? with
 | some ↑(.ol _)=>fk ρ λs a=>on1 a s λc=>(match c with
  | .int k=>(match a[i]? with
   | some ↑(.ol ps)=>0<=k/\(match ps[k.toNat]? with
    |some (.fl b ds)=>P b ds (a.set i !(.olh ps k.toNat b))
    |_=>False)
   |_=>False)
  |_=>False)
 |_=>False
def yx{L:St}{Q:V->Hp->Prop}{P:Addr->↥D->FSt->Prop}(hj:μ[j]?=!i)(hk:EF K μ tk fk)(M:View μ L σ)(R:Rel K F Z H σ ρ A)(h:t9 i fk ρ P)
  (q:∀b ds d F1 H1 J,P b ds d->Same F F1->Rel K F1 Z H1 σ d J->Ow K F1 H1 (.ref b) (.fl ds) [b]->Fresh F1 Z J [b]->Q (.ref b) H1):tOp (Dw K) (cV j) tk L H Q:=by
 unfold t9 at h;split at h
 .rename_i ps0 e0;obtain⟨v0,B0,h1,h2,_⟩:=R.chg e0
  cases h2 with
  | @ol a X _ A0 hH0 hp0=>
  refine{.ref a,(M j i hj).1.trans h1,?_};refine hk.h M R h λr d v F1 H1 J B1 c s1 U v1 f1=>?_;obtain⟨dk,ek,c⟩:=b4 c;split at c
  .rename_i k;split at c
   .rename_i ps S;obtain⟨p0,c⟩:=c;split at c
    .rename_i b ds ed;obtain⟨v',B',A',p,E,R',G,pm⟩:=U.takeI S;rw[h1] at p;cases p
     cases E with
     | @ol _ xs _ W O hp=>
     obtain⟨x,C,I,g1,g2,f,mk⟩:=hp.at_ ed
     cases g2 with
     | @fl _ ys _ hb dn=>
     obtain⟨B3,Y,e⟩:=mk F1 H1 .non (.fz .non) [] (Same.refl _) (λa u _ h=>h) (.fz .non);obtain⟨l,t⟩:=abV.mp G.nd;have s:=f.nodup_iff.mp t;have g:=abV.mp (show (b::I).Nodup from s);have N:∀y∈B3,y∈W:=λy m=>f.mem_iff.mpr (aad _ (e.mem_iff.mp m))
     obtain⟨A3,T,p3⟩:=R'.putI (o:=.olh ps k.toNat b) (cT S) h1 (.olh O g1 Y) {abV.mpr {λz=>l (N _ z),e.nodup_iff.mpr g.2},λy m=>G.fr y (by
      rcases abS.mp m with z|z
      .exact z ▸ aab ..
      .exact aad _ (N _ z))}
     rw[aa5] at T;have ey:v=.int k:=(U.acc v1 ek).int_eq;subst ey
     have B:atI xs k=!(.ref b):=by
      have:=kn g1
      rwa [Int.toNat_of_nonneg p0] at this
     have n:b∈W:=f.mem_iff.mpr (aab ..);refine .inl (.inl {a,xs,k,.ref b,rfl,rfl,SqL.of O,B,q _ _ _ _ _ _ c s1 T (.fl hb dn) {by simp,λy m=>?_}});have:y=b:=(by exists m);subst this;have fb:=G.fr y (aad _ n);refine{fb.1,fb.2.1,λz=>?_};rcases abQ.mp (p3.mem_iff.mp z) with w|w
     .rcases abS.mp w with w|w
      .exact l (w ▸ n)
      .exact g.1 (e.mem_iff.mp w)
     .exact fb.2.2 w
    .exact c.elim
   .exact c.elim
  .exact c.elim
 .exact h.elim
def lG(c:Ct)(i:Nat)(fk:FE)(fa:FA):FE:=λρ Q=>t9 i fk ρ λb ds f=>fa f λg e=>match takeL g e with
 | some (os,d)=>c (.fl ds::os) λo j=>(match j with
  | .fl l::a=>(match (putL g a d)[i]? with
   |some ↑(.olh ps k m)=>m=b/\Q (.ov o) ((putL g a d).set i !(.ol (ps.set k (.fl b l))))
   |_=>False)
  |_=>False)
 |none=>False
def yy{c:Ct}(hj:μ[j]?=!i)(hk:EF K μ tk fk)(g:AF K μ t fa):EF K μ (kS (spM K c) [] E0 (cQ (tOp (Dw K) (cV j) tk) t)) (lG c i fk fa):=-{by
 intro F Z H τ σ ρ A Q P vw R h q;refine yx hj hk vw R h λb ds ρ0 F0 H0 A0 h0 s0 R0 w0 f0=>?_;obtain⟨Z',sz,R0',zl,back⟩:=R0.hold w0.live w0.nt f0;refine g.h vw R0' h0 λrs ρ1 vs F1 H1 A1 B1 h1 s1 R1 v1 f1=>?_;obtain⟨R1',f0',k1⟩:=back _ _ _ _ s1 R1;have w1:=w0.keep s1 k1
 have hbB:b∉B1:=λT=>by
  obtain⟨u,I⟩:=zl b (by simp);rw[(f1.fr b T).2.1] at I;cases I
 have f1':Fresh F1 Z A1 B1:={f1.nd,λy d=>{(f1.fr y d).1,sz.free (f1.fr y d).2.1,(f1.fr y d).2.2}};rw[aaw];split at h1
 .rename_i os Y e;obtain⟨C,r,R2,o2,f2,m2,c2⟩:=R1'.takeL v1 f1' e;have fb:=f0'.fr b (by simp);have hbC:b∉C:=λT=>(c2 b T).elim fb.2.2 hbB;have S:b∉r:=λT=>fb.2.2 (m2 b T);have w2:Ows K F1 H1 (.ref b::vs) (.fl ds::os) ([b]++C):=.cons w1 o2
  have W:Fresh F1 Z r ([b]++C):={abV.mpr {(hbC),f2.nd},λy d=>by
   rcases abQ.mp d with z|z
   .have:y=b:=(by exists z);subst this;exact{(fb.1),fb.2.1,S}
   .exact f2.fr y z}
  obtain⟨Z2,s,f⟩:=mix r H1 Z;have hz:∀a,a∈r->Z a=none:=λa g=>(R2.fr a g).2;have m:Same Z Z2:=λa o z=>by rw[f a λy=>by rw[hz a y] at z;cases z];exact z
  refine{F1,Z2,.fl ds::os,[b]++C,_,R2.fh,{λa o z=>?_,λa xs z=>?_},λa o z=>?_,w2,W.nd,λa g=>{(W.fr a g).1,by rw[f a (W.fr a g).2.2];exact(W.fr a g).2.1},h1,λo os' v J H3 C3 B p s3 fh zh dj w3 w4 nd fr=>?_}
  .by_cases y:a∈r
   .rw[s a y] at z;exact z
   .rw[f a y] at z;exact R2.zh.s a o z
  .by_cases y:a∈r
   .rw[s a y] at z;exact R2.sl.nt a y xs z
   .rw[f a y] at z;exact R2.zh.n a xs z
  .rw[f a λy=>by rw[(R2.fr a y).1] at z;cases z];exact R2.dj a o z
  .have nA:∀a∈r,∃u,Z2 a=!u:=λa g=>by
    obtain⟨u,I⟩:=R2.sl.live a g;exact{u,by rw[s a g];exact I}
   have R3:Rel K J Z H3 σ Y r:={R2.sl.keep s3 λa u g I=>zh a u (by rw[s a g];exact I),R2.nd,λa g=>{(by
    cases z:J a with
    |none=>rfl
    | some u=>
     have:=dj a u z;obtain⟨w,V⟩:=nA a g;rw[V] at this;exact nomatch this),(R2.fr a g).2},fh,{m.trans zh,R2.zh.n},λa o z=>m.free (dj a o z)}
   have nC:∀a∈C3++B,a∉r:=λa g y=>by
    obtain⟨w,V⟩:=nA a y;rw[(fr a g).2] at V;cases V
   split at p
   .rename_i U os'';split at p
    .rename_i ps k l e4;obtain⟨rfl,p⟩:=p
     cases w3 with
     | @cons _ _ _ _ Cb Cr wb wr=>
     cases wb with
     | @fl _ ys _ hb' dn'=>
     obtain⟨n1,n2,n3⟩:=aQ (aaB (([l]++Cr)++B)) nd;obtain⟨n4,n5⟩:=abV.mp (show (l::Cr).Nodup from n1)
     have fC:Fresh J Z r Cr:={n5,λy d=>by
      have:=fr y (abQ.mpr (.inl (aad _ d)));exact{this.1,m.free this.2,nC y (abQ.mpr (.inl (aad _ d)))}}
     obtain⟨A4,R4,m4⟩:=R3.putL v1 wr fC
     have n:J l=none/\Z l=none/\l∉A4:=by
      have:=fr l (abQ.mpr (.inl (aab ..)));exact{this.1,m.free this.2,λz=>(m4 l z).elim (nC l (abQ.mpr (.inl (aab ..)))) n4}
     obtain⟨v5,B5,A5,h5,o5,R5,f5,G⟩:=R4.takeI e4
     cases o5 with
     | @olh a _ _ xs _ A6 hH hx hp=>
     have hk':k<xs.length:=(List.getElem?_eq_some_iff.mp hx).1;have N:k<(ps.set k (.fz .non)).length:=by rw[← hp.length,aaF];exact hk'
     have M:(ps.set k (.fz .non))[k]?=!(.fz .non):=by
      rw[aaF] at N;exact List.getElem?_set_self N
     obtain⟨x,C7,B7,g1,g2,E,mk⟩:=hp.at_ M;cases g2;obtain⟨X,w8,L⟩:=mk J H3 (.ref l) (.fl l U) [l] (Same.refl _) (λa u _ h=>h) (.fl hb' dn');rw[aa5,aa5,km hx] at w8;have D:∀y∈a::A6,y∈A4:=λy d=>G.mem_iff.mpr (abQ.mpr (.inl d));obtain⟨nd5,nd6⟩:=abV.mp f5.nd
     have m8:∀y∈X,y=l∨y∈A6:=λy d=>by
      rcases abQ.mp (L.mem_iff.mp d) with z|z
      .exact .inl (by exists z)
      .exact .inr (E.mem_iff.mpr (abQ.mpr (.inr z)))
     have haB:a∉X:=λz=>(m8 a z).elim (λw=>n.2.2 (w ▸ D a (aab ..))) nd5;have O:l∉B7:=λz=>n.2.2 (D l (aad _ (E.mem_iff.mpr (abQ.mpr (.inr z)))));have nd8:X.Nodup:=L.nodup_iff.mpr (abV.mpr {O,(ab0.mp (E.nodup_iff.mp nd6)).2.1})
     have f9:Fresh J Z A5 (a::X):={abV.mpr {(haB),nd8},λy d=>by
      rcases abS.mp d with w|w
      .exact w ▸ f5.fr a (aab ..)
      .rcases m8 y w with w|w
       .exact w ▸ {n.1,n.2.1,λz=>n.2.2 (G.mem_iff.mpr (abQ.mpr (.inr z)))}
       .exact f5.fr y (aad _ w)}
     obtain⟨A9,R9,p9⟩:=R5.putI (o:=.ol (ps.set k (.fl l U))) (cT e4) h5 (.ol hH w8) f9;rw[aa5] at R9;refine q _ _ _ _ _ _ _ p ((s0.trans s1).trans s3) R9 w4 {n2,λy d=>?_};have:=fr y (abQ.mpr (.inr d));refine{this.1,m.free this.2,λz=>?_};have hn:y∉A4:=λz=>(m4 y z).elim (nC y (abQ.mpr (.inr d))) λw=>n3 y (aad _ w) d;rcases abQ.mp (p9.mem_iff.mp z) with w|w
     .rcases abS.mp w with w|w
      .exact hn (w ▸ D a (aab ..))
      .rcases m8 y w with w|w
       .exact n3 y (w ▸ aab ..) d
       .exact hn (D y (aad _ w))
     .exact hn (G.mem_iff.mpr (abQ.mpr (.inr w)))
    .exact p.elim
   .exact p.elim
 .exact h1.elim}
def iM(fg:FG)(fe:FE)(P:↥FV->FSt->Prop):↥D->↥FV->FSt->Prop
 |[],ps,ρ=>P ps ρ
 | d::ds,ps,ρ=>fg d ρ λc=>fe c λr a=>match r with
  |.ov (.fl es)=>ps.length<sizeLine/\∀b,iM fg fe P ds (ps++[.fl b es]) a
  |_=>False
@[irreducible] def oE(fg:FG)(fe:FE)(P:↥FV->FSt->Prop)(ds:↥D)(ps:↥FV)(ρ:FSt):Prop:=iM fg fe P ds ps ρ
def lH(fg:FG)(fe:FE)(P:↥FV->FSt->Prop)(ds:↥D):oE fg fe P ds=iM fg fe P ds:=by funext as ρ;unfold oE;rfl
def ua{P:↥FV->FSt->Prop}{f:↥FV}(I:Nat->↥FV->FSt->Prop)(n:I 0 f ρ)
  (hs:∀(i:Nat) (d:D) (ps:↥FV) (ρ:FSt) (R:↥FV->FSt->Prop),ds[i]?=!d->I i ps ρ->(∀c a,I (i+1) c a->R c a) ->
   fg d ρ λl=>fe l λr j=>match r with
    |.ov (.fl es)=>ps.length<sizeLine/\∀b,R (ps++[.fl b es]) j
    |_=>False)
  (hd:∀ps ρ,I ds.length ps ρ->P ps ρ):oE fg fe P ds f ρ:=by
 rw[lH]
 have g:∀(k i:Nat) (ps:↥FV) (ρ:FSt),i+k=ds.length->I i ps ρ->iM fg fe P (ds.drop i) ps ρ:=by
  intro k
  induction k with
  | zero=>
   intro i ps ρ e h;have:i=ds.length:=()
   subst this;rw[aaO];exact hd ps ρ h
  | succ k m=>
   intro i ps ρ e h;have hi:i<ds.length:=()
   rw[aat hi];exact hs i ds[i] ps ρ _ (List.getElem?_eq_getElem hi) h λc a h'=>m (i+1) c a () h'
 have:=g ds.length 0 f ρ () n
 rwa [aaR] at this
def Am(_:↥Nat)(no:Nat)(fi:FI)(fg:FG)(fe:FE):FE:=λρ Q=>fi ρ λds ρ1=>ji (List.replicate no none++ρ1) (oE fg fe (λps a=>Q (.ov (.ol ps)) (a.drop no)) ds [])
abbrev Jf(K:Frag)(fg:FG)(fe:FE)(P:RV->FSt->Prop)(no:Nat)(m:↥Nat)(F1 Z:Hp)(σ:St)(a:Addr)(rest:↥D)(acc:↥V)(d:St)(H':Hp):Prop:=
 ∃F' b A' c ps B,Same F1 F'/\Rel K F' Z H' c b A'/\View m d c/\(∀i,no<=i->c[i]?=(List.replicate no none++σ)[i]?)/\H' a=!(.lst acc)/\Fws K F' H' acc ps B/\Fresh F' Z A' (a::B) /\
   iM fg fe (λps b=>P (.ov (.ol ps)) (b.drop no)) rest ps b
def yz(hi:ITF K μ wi fi)(hg:GF K (muC no ixs μ) T g fg)(hT:∀i∈T,i<no)(hix:∀j∈ixs,j<μ.length)
  (hc:TF K (muC no ixs μ) tc jh) (he:EF K (muC no ixs μ) te fe):EF K μ (dZ no ixs wi g tc te) (Am ixs no fi fg fe):=-{by
 intro F Z H τ σ ρ A Q P vw R h q;refine hi.h vw R h λds ρ1 J F1 H1 A1 h1 s1 Y wk=>?_;rw[di,lH] at h1;intro a ha;have O:F1 a=none:=Y.fh.free ha;have C:Z a=none:=Y.zh.free ha
 have S:a∉A1:=λz=>by
  obtain⟨u,t⟩:=Y.sl.live a z;rw[ha] at t;cases t
 have R1':Rel K F1 Z (upd H1 a (.lst [])) (List.replicate no none++σ) (List.replicate no none++ρ1) A1:=by
  have:=Y.write (o:=.lst []) S O C;exact{this.sl.none_app no,this.nd,this.fr,this.fh,this.zh,this.dj}
 refine{λi k acc m H'=>k=ds.length - i/\i<=ds.length/\Jf K fg fe P no (muC no ixs μ) F1 Z σ a (ds.drop i) acc m H',
  {_,rfl,aan _,F1,_,A1,_,[],[],Same.refl _,R1',fB vw hix,λ_ _=>rfl,ag,.nil,{by simp,λb c=>by
   have:b=a:=(by exists c);subst this;exact{(O),C,S}},by rw[aaR];exact h1},?_}
 rintro i k acc m H' ⟨rfl,hle,F',ρ',A',σ',ps,B,s',l,vw',kp,X,N,fr,h'⟩;by_cases f:i<ds.length
 .rw[aat f] at h';refine .inr {wk.go H' i (s'.trans l.fh) f,λacc m H'=>Jf K fg fe P no (muC no ixs μ) F1 Z σ a (ds.drop (i+1)) acc m H',λacc' n H2 z=>{_,(),rfl,f,z},λx H2 y=>?_};obtain⟨rfl,d,hd,dx⟩:=wk.yld H' i x H2 (s'.trans l.fh) f y;rw[List.getElem?_eq_getElem f] at hd;cases hd;refine hg.h vw' l (dx.mono s') h' fun τ2 n E A2 p2 p R2 k2 kl2 _ V=>?_
  have kp2:∀i,no<=i->n[i]?=(List.replicate no none++σ)[i]?:=λi hi=>by
   rw[k2 i λz=>by have:=hT i z;nofun];exact kp i hi
  have fD:Fresh F' Z A2 (a::B):={fr.nd,λb c=>{(fr.fr b c).1,(fr.fr b c).2.1,λz=>(fr.fr b c).2.2 (V _ z)}}
  obtain⟨Z',sz,R2',zl,back⟩:=R2.hold (B:=a::B) (λb c=>by
   rcases abS.mp c with z|z
   .exact z ▸ {_,X}
   .exact N.live b z) (.one X (λ_ z=>nomatch z) N.nt) fD
  refine hc.h p R2' (show jh E (λb D=>b=true/\D=E) from {(rfl),rfl}) λb D F3 H3 A3 p3 s3 R3=>?_;obtain⟨rfl,rfl⟩:=p3;rw[if_pos rfl];refine he.h p R3 p2 λr ρ4 v F4 H4 A4 B4 U s4 R4 v4 f4=>?_;split at U
  .rename_i es
   cases v4 with
   | @fl b ys _ c dn=>
   obtain⟨R5,f5,k5⟩:=back _ _ _ _ (s3.trans s4) R4;have fa:=f5.fr a (aab ..);obtain⟨na,nB⟩:=abV.mp f5.nd;have fb:=f4.fr b (by simp)
   have L:b∉a::B:=λz=>by
    obtain⟨u,t⟩:=zl b z;rw[fb.2.1] at t;cases t
   have M:b≠a:=λz=>L (z ▸ aab ..);have I:=N.length
   have W4:Fws K F4 (upd H4 a (.lst (acc++[.ref b]))) acc ps B:=N.keep (s3.trans s4) λy u W t=>by
    rw[aj (show y≠a from λz=>na (z ▸ W))];exact k5 y u (aad _ W) t
   have wb:Fw K F4 (upd H4 a (.lst (acc++[.ref b]))) (.ref b) (.fl b es) [b]:=.fl (by rw[aj M];exact c) dn;obtain⟨B6,W6,s⟩:=W4.snoc wb;refine{k5 a _ (aab ..) X,by rw[I];exact U.1,F4,ρ4,A4,n,_,B6,(s'.trans s3).trans s4,R5.write fa.2.2 fa.1 C,p,kp2,ag,W6,{abV.mpr {λz=>?_,s.nodup_iff.mpr (abV.mpr {λz=>L (aad _ z),nB})},λy W=>?_},U.2 b}
   .rcases abQ.mp (s.mem_iff.mp z) with w|w
    .exact M (abR.mp w).symm
    .exact na w
   .rcases abS.mp W with w|w
    .exact w ▸ fa
    .rcases abQ.mp (s.mem_iff.mp w) with w|w
     .have:y=b:=(by exists w);subst this;exact{fb.1,sz.free fb.2.1,fb.2.2}
     .exact f5.fr y (aad _ w)
  .exact U.elim
 .have e:i=ds.length:=()
  subst e;rw[aaO] at h';refine .inl {wk.stop H' (s'.trans l.fh),?_};obtain⟨A2,B2,e2,G⟩:=l.sl.dropN no
  have es:σ'.drop no=σ:=by
   apply List.ext_getElem?;intro i;rw[List.getElem?_drop,kp (no+i) (),List.getElem?_append_right (by simp),aaE,aba]
  rw[es] at G;have V:∀b∈A2,b∈A':=λb c=>by rw[e2];exact abQ.mpr (.inr c)
  have R2:Rel K F' Z H' σ (ρ'.drop no) A2:={G,by have:=l.nd;rw[e2,abH] at this;exact this.2.1,λb c=>l.fr b (V b c),l.fh,l.zh,l.dj};exact q _ _ _ _ _ _ _ h' (s1.trans s') R2 (.ol X N) {fr.nd,λb c=>{(fr.fr b c).1,(fr.fr b c).2.1,λz=>(fr.fr b c).2.2 (V _ z)}}}
def ub{c:Ct}(h:i<n)(a:EF K (List.range n) tk fk)(b:AF K (List.range n) t fa):EF K (List.range n) (kS (spM K c) [] E0 (cQ (tOp (Dw K) (cV i) tk) t)) (lG c i fk fa):=-yy (rg h) a b
end
def Itb(hi:Int)(n:Nat):It:={λi _=>i<n,λi H x H'=>H'=H/\x=.int (hi - 1 - i),λi _=>n<=i}
theorem mU{P:Program}{K:Frag}(it:Addr)(hi:Int)(n:Nat):Turn P w K tg (Itb hi n) [it] it (λi h=>IsRangeIter h it (hi - 1+(i:Nat)*(-1)) ((n:Int) - (i:Nat)) (-1)) where
 mem:=by simp
 obj:=λi h st b hb=>by
  have e:b=it:=(by exists hb);subst e
  exact{_,st,λv z=>by
   have z':Data.fields _=Data.cell v:=z;cases z'}
 keep:=λi h h' st k=>k it (by simp) _ st
 item:=by
  intro X hP hw hK hc i pins s σ H E I hf st hg;subst hP hw hK;obtain⟨f0,f1,f2,f3,f4,f5⟩:=hf it (by simp);have W:=Walks.range (prog:=X.prog) (w:=X.w) (I.ok.hd hc) it (hi - 1) (-1) n;refine W.item i s _ _ hg st λv h' tk hv st' kk=>?_;obtain⟨t,rfl⟩:=hv;have I1:Inv X pins σ H { s with heap:=h',toks:=tk }:=I.turned (λb o hb e=>kk b o (by exists hb) e) f0 f1 f3 f4 f5;refine{_,rfl,i9 (s:={ s with heap:=h',toks:=tk }) (n := "range_iterator") st' rfl rfl (by decide) {.int (hi - 1 - i),H,I1,{t,?_},{(rfl),rfl},st',λb hb=>(hf b hb).1}};rw[Int.mul_neg,Int.mul_one];rfl
 done:=by
  intro X hP hw hK hc i pins s σ H E I hf st hg;subst hP hw hK;obtain⟨f0,f1,f2,f3,f4,f5⟩:=hf it (by simp);exact wpAny_pyNext_range_end (I.ok.hd hc) st (by have:n<=i:=hg;nofun) λh' eb=>{rfl,I.turned (t':=s.toks) (λb o hb e=>eb b o hb e) f0 f1 f3 f4 f5}
 self:=λ_ _ _ _ _ st h=>wpAny_pyIter_rangeiter st h
def iN:isSubtype (.type "range_iterator") (.type "reversed")=pure false:=by rw[isSubtype_type];kernel_rfl
section
variable   {A:Around}  
def eY{n:Int}{t v:Tok}(hr:IsRange s.heap r 0 n 1 t u v)(h1:-(2 ^ 62)<=n)(h2:n<2 ^ 62)
  (h:Q (.ref s.heap.objs.size) { s with heap:=s.heap.push { cls:=.type "range_iterator", data:=.fields #[rawInt (0+(Builtin.Range.rangeSize 0 n 1 - 1)*1),rawInt (Builtin.Range.rangeSize 0 n 1),rawInt (-1)] } }) :
  wpAny (model prog w) A (call (.builtin "range.__reversed__") [.ref r]) Q E s:=by
 have c:s.TypeIs (.ref r) "range" := {_,hr,rfl};refine aaC F.slot_range_reversed c F.entry_range_reversed ?_ (F.args_range_reversed_1 _);unfold Builtin.«range.__reversed__»;refine aaa (aa9 (a:=Value.ref r) rfl ?_);refine aaa ?_;unfold Builtin.Range.rangeFields;refine aaa (wpAny_field hr rfl (x:=.int 0 t) rfl ?_);refine aaa (aa9 (a:=!0) rfl ?_);refine aaa (wpAny_field hr rfl (x:=.int n u) rfl ?_);refine aaa (aa9 (a:=!n) rfl ?_);refine aaa (wpAny_field hr rfl (x:=.int 1 v) rfl ?_);refine aaa (aa9 (a:=!1) rfl ?_);refine aaf ?_
 have hs:(Builtin.Range.rangeFitsLong 0&&Builtin.Range.rangeFitsLong n&&Builtin.Range.rangeFitsLong 1&&Builtin.Range.rangeFitsLong (-1)&&Builtin.Range.rangeFitsLong (0 - 1)&&Builtin.Range.rangeFitsLong (Builtin.Range.rangeSize 0 n 1))=true:=by
  have e:=rangeSize_one 0 n
  have f:∀i:Int,-(2 ^ 62)<=i->i<2 ^ 62->Builtin.Range.rangeFitsLong i=true:=λi a b=>by
   unfold Builtin.Range.rangeFitsLong;simp only[Bool.and_eq_true,decide_eq_true_eq];nofun
  rw[f 0 (by decide) (by decide),f n h1 h2,f 1 (by decide) (by decide),f (-1) (by decide) (by decide),f (0 - 1) (by decide) (by decide),f _ (by rw[e];split <;> nofun) (by rw[e];split <;> nofun)];rfl
 dsimp only;rw[hs];refine aaa (aaM (aaf {_,rfl,h}))
def eZ{n:Int}{t v:Tok}{Q₁:Value->Shared->Prop}(hr:IsRange s.heap r 0 n 1 t u v)(h1:-(2 ^ 62)<=n)(h2:n<2 ^ 62)
  (h:Q₁ (.ref s.heap.objs.size) { s with heap:=s.heap.push { cls:=.type "range_iterator", data:=.fields #[rawInt (0+(Builtin.Range.rangeSize 0 n 1 - 1)*1),rawInt (Builtin.Range.rangeSize 0 n 1),rawInt (-1)] } }) :
  codeAny (model prog w) A (.call (.builtin "reversed.__new__") {[.type "reversed", .ref r],[]}) (wants Q₁ E) s:=by
 have b:s.TypeIs (.ref r) "range" := {_,hr,rfl};refine codeAny_of_tree ?_;show wpAny _ A.in1 (do checkBuiltinCall "reversed.__new__" {[.type "reversed", .ref r],[]};again (.builtin "reversed.__new__" {[.type "reversed", .ref r],[]})) _ _ s;refine aaa (aa9 (PySem.F.newCall_reversed_1 _) (aaf {plainId_quiet PySem.F.plain_reversed_new _,codeAny_builtin PySem.F.entry_reversed_new ?_}));rw[aaG PySem.F.plain_reversed_new _];unfold Builtin.«reversed.__new__»;refine aaa (aa9 (newClass_reversed _) ?_)
 try dsimp only
 refine aaa (aa9 (a:=PUnit.unit) (by first|rfl|kernel_rfl) ?_);refine aaa (aa9 (a:=PUnit.unit) (by first|rfl|kernel_rfl) ?_)
 try dsimp only
 refine aaa (wpAny_specialOf b PySem.F.slot_range_reversed.lookup ?_)
 try dsimp only
 refine aaa (aa9 (PySem.F.slot_range_reversed.bind _) ?_)
 try dsimp only
 first
 |rw[if_neg (show ¬((Value.builtin "range.__reversed__" == Value.none)=true) from abU)]
 |(show wpAny _ _ (if (Value.builtin "range.__reversed__" == Value.none)=true then _ else _) _ _ _;rw[if_neg (show ¬((Value.builtin "range.__reversed__" == Value.none)=true) from abU)])
 refine aaa (abE ?_);refine aaa (m:=runValue (.call (.builtin "range.__reversed__") {[.ref r],[]})) (show wpAny _ _ (call (.builtin "range.__reversed__") [.ref r]) _ _ _ from eY hr h1 h2 ?_)
 first
 |exact aaf h
 |exact aaa (aaf (aaf h))
def e7{n:Int}{t v:Tok}(hr:IsRange s.heap r 0 n 1 t u v)(h1:-(2 ^ 62)<=n)(h2:n<2 ^ 62)
  (h:Q (.ref s.heap.objs.size) { s with heap:=s.heap.push { cls:=.type "range_iterator", data:=.fields #[rawInt (0+(Builtin.Range.rangeSize 0 n 1 - 1)*1),rawInt (Builtin.Range.rangeSize 0 n 1),rawInt (-1)] } }) :
  wpAny (model prog w) A (call (.type "reversed") [.ref r]) Q E s:=by
 refine callType_other (U := "range_iterator") (Q₁:=λobj a=>obj=.ref s.heap.objs.size/\a={ s with heap:=s.heap.push { cls:=.type "range_iterator", data:=.fields #[rawInt (0+(Builtin.Range.rangeSize 0 n 1 - 1)*1),rawInt (Builtin.Range.rangeSize 0 n 1),rawInt (-1)] } }) ∅ PySem.F.create_reversed {_,_,PySem.F.mro_reversed} PySem.F.made_reversed iN (PySem.F.typeCall_reversed_1 _) (eZ hr h1 h2 {(rfl),rfl}) ?_;rintro obj a ⟨rfl,rfl⟩;exact{{_,Heap.get?_push_size _ rfl,rfl},h}
end
def EK(ta:TA):TI:=λσ H R=>ta σ H λvs H1=>∃j:Int,vs=[.int j]/\-(2 ^ 62)<=j/\j<2 ^ 62/\R (Itb (j.toNat:Int) j.toNat) H1
def uc{a:Expr}{q:Pos}(w:Gl X "range")(v:X.mg "range" = none)(i:Gl X "reversed")(g:X.mg "reversed" = none)(y:PA X [a] ta)(u:a9 a=true):PI X tg (.Call (.Name "reversed" q) [.Call (.Name "range" p) [a] [] pos] [] pos2) (EK ta):=by
 intro pins s σ H R I h;have d:a9 (.Call (.Name "range" p) [a] [] pos)=true:=rfl;refine Call_ (gW I i g boot_reversed (aa2 ?_ (aP d) rfl));rw[aP d];show wpAny _ _ (spliced ((false,eval (.Call (.Name "range" p) [a] [] pos) X.env)::backTo pos2 (starEach [] X.env))) _ _ s;refine Calls.spliced_cons ?_;refine Call_ (gW I w v boot_range (aa2 (thn (y pos pins s σ H _ I h) λus c B=>?_) (aP u) rfl));obtain⟨vs,H1,A,m,f⟩:=B;obtain⟨j,e,f,n,q⟩:=f;subst e
 cases m with
 | cons r l=>
  cases l;obtain⟨t,rfl⟩:=r;refine call_range_1 ?_;refine Calls.spliced_nil ?_;refine e7 (IsRange.new ..) f n ?_;have hs:Builtin.Range.rangeSize 0 j 1=(j.toNat:Int):=by rw[rangeSize_one];split <;> nofun
  rw[hs];have z:(0:Int)+((j.toNat:Int) - 1)*1=(j.toNat:Int) - 1+((0:Nat):Int)*(-1):=()
  rw[z];have k:Inv X pins σ H1 { c with heap:=c.heap.push { cls:=.type "range", data:=.fields #[.int 0 c.toks,.int j t,.int 1 (c.toks+1)] },toks:=c.toks+1+1 }:=A.kept λb o e=>Heap.get?_push_of_some _ e
  have st:IsRangeIter ((c.heap.push { cls:=.type "range", data:=.fields #[.int 0 c.toks,.int j t,.int 1 (c.toks+1)] }).push { cls:=.type "range_iterator", data:=.fields #[rawInt ((j.toNat:Int) - 1+((0:Nat):Int)*(-1)),rawInt (j.toNat:Int),rawInt (-1)] }) (c.heap.push { cls:=.type "range", data:=.fields #[.int 0 c.toks,.int j t,.int 1 (c.toks+1)] }).objs.size ((j.toNat:Int) - 1+((0:Nat):Int)*(-1)) ((j.toNat:Int) - ((0:Nat):Int)) (-1):=by
   rw[Int.natCast_zero,Int.sub_zero];exact Heap.get?_push_size _ rfl
  refine wpAny_pyIter_rangeiter st ?_;refine{_,[_],_,_,H1,rfl,k.kept (t':=c.toks+1+1) λb o e=>Heap.get?_push_of_some _ e,mU _ (j.toNat:Int) j.toNat,st,λb x=>?_,q};have e:b=(c.heap.push { cls:=.type "range", data:=.fields #[.int 0 c.toks,.int j t,.int 1 (c.toks+1)] }).objs.size:=(by exists x);subst e;exact k.fpOk (aac _) (k.hok.fresh (aac _))
def ud{a:Expr}{q:Pos}(f:X.env.kindOf "range" = !.globalImplicit)(e:X.mg "range" = none)(c:X.env.kindOf "reversed" = !.globalImplicit)(b:X.mg "reversed" = none)(g:BA X [a] ta)(d:a9 a=true):BI X tg (.Call (.Name "reversed" q) [.Call (.Name "range" p) [a] [] pos] [] pos2) (EK ta):=-{uc f e c b g.h d}
section
variable {K:Frag}  
def dO(n:Nat):↥D:=(List.range n).map λ(k:Nat)=>.int ((n:Int) - 1 - (k:Int))
def An(fa:FA):FI:=λρ Q=>fa ρ λb a=>onL a b λds=>match ds with
 |[.int j]=>(-(2 ^ 62)<=j/\j<2 ^ 62)/\Q (dO j.toNat) a
 |_=>False
def ue :Walk K F (Itb n n) (dO n):=-
 {λH i s hi=>by (have hi:i<n:=by simpa [dO] using hi);exact hi,λH i x H' s hi y=>by
  obtain⟨rfl,rfl⟩:=y;have hi:i<n:=by simpa [dO] using hi
  exact{rfl,.int ((n:Int) - 1 - i),by simp[dO,hi],.int _},λH s=>by
  show n<=(dO n).length;simp[dO]}
def yB(g:AF K μ t fa):ITF K μ (EK t) (An fa):=-{by
 intro F Z H k σ ρ A Q P e R h q;refine g.h e R h λl c xs F1 H1 n m h1 f b v1 f1=>?_;obtain⟨ds,i,h2⟩:=nT h1;obtain _|⟨d,r⟩:=ds
 .exact False.elim h2
 cases d
 case int j=>
  cases r with
  |cons=>exact False.elim h2
  | nil=>
   obtain⟨x,rfl,a⟩:=bH (b.accs v1 i);exact{j,by rw[a.int_eq],h2.1.1,h2.1.2,q _ _ _ _ _ _ h2.2 f b ue}
 all_goals exact False.elim h2}
def uf(h:(dO n)[i]?=!d):i<n/\d=.int ((n:Int) - 1 - (i:Int)):=by
 have hi:i<n:=by
  have:=(List.getElem?_eq_some_iff.mp h).1;simpa [dO] using this
 refine{hi,?_};simp[dO,hi] at h;exact h.symm
def qB :(dO n).length=n:=by simp[dO]
end
def Mj(K:Frag)(neg:Bool):R2:=λx y H Q=>∃p ys dx ds,y=.ref p/\SqL K H p ys/\Deep K H x dx/\Deeps K H ys ds/\deps ds<=30/\Q (.bl (if neg then ⇑(ds.any λd=>deq d dx) else ds.any λd=>deq d dx)) H
theorem ug:∀{ds:↥DV} {i:Nat} {d:DV},ds[i]?=!d->dep d<=deps ds
 |d::ds,0,_,e=>by cases e;exact Nat.le_max_left _ _
 |d::ds,i+1,_,e=>aar (ug (ds:=ds) e) (Nat.le_max_right _ _)
def Deeps.at_{K:Frag}:∀{ys:↥V} {ds:↥DV},Deeps K H ys ds->∀{i:Nat} {y:V},ys[i]?=!y->∃d,ds[i]?=!d/\Deep K H y d:=by
 intro ys
 induction ys with
 |nil=>intro ds _ i y e;cases e
 | cons a ys b=>
  intro ds h i y e
  cases h with
  | cons h t=>
   cases i with
   |zero=>cases e;exact{_,rfl,h}
   |succ i=>exact b t e
def EL{x:V}{u:Value}{ys:↥V}{its:↥Value}{dx:DV}{ds:↥DV}(n:X.A.units+64<cLine)(I:Inv X pins σ H s)(l:RelV x u)(hx:Deep X.K H x dx)(g:Vals ys its)(hs:Deeps X.K H ys ds)(hd:deps ds<=30) :
  ∃e:Value->Bool,(∀w∈its.toArray,SeqAt.EqAt X.A.in1 s w u (e w))/\its.toArray.any e=ds.any λd=>deq d dx:=by
 classical
 have one:∀(i:Nat) (w:Value),its[i]?=!w->∃d,ds[i]?=!d/\SeqAt.EqAt X.A.in1 s w u (deq d dx):=λi w e=>by
  have hi:i<ys.length:=by have:=(List.getElem?_eq_some_iff.mp e).1;rw[g.length];exact this
  obtain⟨m,k,r⟩:=g.get (List.getElem?_eq_getElem hi);rw[e] at k;cases k;obtain⟨d,a,h2⟩:=hs.at_ (List.getElem?_eq_getElem hi);refine{d,a,(ii I 40 d dx _ x w u X.A.in1 ?_ ?_ h2 hx r l).2.2}
  .have:=ug a;nofun
  .simp only[Around.in1_units];nofun
 refine{λw=>decide (∃(i:Nat) (d:DV),its[i]?=!w/\ds[i]?=!d/\deq d dx=true),λw j=>?_,?_}
 .show SeqAt.EqAt X.A.in1 s w u (decide _);by_cases h:∃(i:Nat) (d:DV),its[i]?=!w/\ds[i]?=!d/\deq d dx=true
  .rw[decide_eq_true h];obtain⟨i,d,f,a,b⟩:=h;obtain⟨p,c,q⟩:=one i w f;rw[a] at c;cases c;rw[b] at q;exact q
  .rw[decide_eq_false h];obtain⟨i,f⟩:=List.mem_iff_getElem?.mp (show w∈its from (by exists j));obtain⟨d,a,q⟩:=one i w f
   cases b:deq d dx with
   |true=>exact absurd {(i),d,f,a,b} h
   |false=>rw[b] at q;exact q
 .rw[abj,Array.any_eq_true',aaK];constructor
  .rintro⟨w,j,h⟩;obtain⟨i,d,_,a,b⟩:=of_decide_eq_true h;exact{d,List.mem_of_getElem? a,b}
  .rintro⟨d,hd,h⟩;obtain⟨i,a⟩:=List.mem_iff_getElem?.mp hd
   have hi:i<its.length:=by
    have h1:=(List.getElem?_eq_some_iff.mp a).1;have h2:=g.length;have o:=hs.length;nofun
   exact{its[i],by simp,decide_eq_true {i,d,List.getElem?_eq_getElem hi,a,h}}
def uh(d:X.A.units+64<cLine):OpR X (compareOp .NotIn) (Mj X.K true):=by
 intro pins s σ H x y v u Q I b a h;obtain⟨p,ys,dx,ds,rfl,f,c,hs,hd,q⟩:=h;cases a;obtain⟨its,r,pl,g⟩:=I.list f;obtain⟨e,h1,h2⟩:=EL d I b c r hs hd;refine SeqAt.notIn_listAt e pl.isList h1 {.bl _,H,I,rfl,?_};rw[h2];exact q
def qC(K:Frag)(a:X.A.units+64<cLine)(h:X.K=K):BOp X (compareOp .NotIn) (Mj K true):=by subst h;exact{uh a}
section
variable {K:Frag}
def M7(d e:D)(R:Bool->Prop):Prop:=match e with
 |.lst ds=>(okD d=true/\okDs ds=true/\deps (toDVs ds)<=30)/\R (ds.any λx=>dEq x d)
 |_=>False
def mV(d e:D)(P:OV->Prop):Prop:=M7 d e λb=>P (.fz (.bl (⇑b)))
theorem lI(d:D):∀ds:↥D,((toDVs ds).any λx=>deq x (nR d))=ds.any λx=>dEq x d
 |[]=>rfl
 | x::ds=>by
  show (deq (nR x) (nR d) || (toDVs ds).any λx=>deq x (nR d))=_;rw[lI d ds];rfl
def qD:OpF K (Mj K true) mV:=-{fun {F H x y d e Q P} s b a f n=>by
 unfold mV M7 at f;split at f
 .rename_i ds;obtain⟨p,ys,rfl,h1,h2⟩:=a.asL s;refine{p,ys,_,_,rfl,h1,(b.den s).deep f.1.1,(h2.mono s).deep f.1.2.1,f.1.2.2,?_};rw[lI];exact ax s n (.bl _) f.2
 .exact f.elim}
end
def Jg:↥V->Hp->VK->Prop:=λxs H Q=>(∃i,xs=[.int i]/\Q (.int i) H)∨∃k,xs=[.bl k]/\Q (.int (if k then 1 else 0)) H
def Jh :BCall X (.type "int") Jg:=-{(rj)}
def KQ:↥D->(OV->Prop)->Prop
 |[.int i],P=>P (.fz (.int i))
 |[.bl b],P=>P (.fz (.int (if b then 1 else 0)))
 |_,_=>False
def Ji{K:Frag}:CallF K Jg KQ:=-{by
 intro F H xs ds Q P s b f n;unfold KQ at f;split at f
 .obtain⟨x,rfl,a⟩:=bH b;rw[a.int_eq];exact .inl {_,rfl,ax s n (.int _) f}
 .obtain⟨x,rfl,a⟩:=bH b;rw[a.bl_eq];exact .inr {_,rfl,ax s n (.int _) f}
 .exact f.elim}
section
variable {K:Frag}
def Jj(i j k:Nat)(fe:FE):FS:=λD ρ=>fe ρ λr a=>match r with
 |.ov (.ot [p,q,s])=>D.nx (((a.set i !(ofF p)).set j !(ofF q)).set k !(ofF s))
 |_=>False
def EM(T:EF K (List.range n) te fe)(hi:i∉m)(S:j∉m)(Q:k∉m):SF K n m (pJ te (Gq K 3 (pH (eQ i) (pH (eQ j) (pH (eQ k) Kw))))) (Jj i j k fe):=-{by
 intro F Z H σ0 σ ρ A D fD R p E h;refine T.h (View.id p.1) R h λr C v F1 H1 A1 B1 h1 I B v1 f1=>?_;split at h1
 .rename_i x y z
  cases (show Ow K F1 H1 v (.ot [x,y,z]) B1 from v1) with
  | @ot a xs _ _ U P=>
   cases P with
   | @cons u _ us _ Y B3 g1 t=>
    cases t with
    | @cons w _ ws _ l B5 g2 t=>
     cases t with
     | @cons w' _ G _ d B7 g3 t=>
      cases t;obtain⟨N,M,q⟩:=aQ (aaB (Y++(l++(d++[])))) f1.nd;obtain⟨L,o,J⟩:=aQ (aaB (l++(d++[]))) M;obtain⟨A2,R2,s⟩:=B.assign (i:=i) g1.own {N,λb g=>f1.fr b (aau _ g)}
      have f2:Fresh F1 Z A2 l:={L,λb g=>by
       have c:b∈l++(d++[]):=aau _ g;have f:=f1.fr b (aal _ c);refine{f.1,f.2.1,λz=>?_};rcases s b z with y|y
       .exact f.2.2 y
       .exact q b y c}
      obtain⟨A3,X,O⟩:=R2.assign (i:=j) g2.own f2
      have V:Fresh F1 Z A3 d:={by rw[aaw] at o;exact o,λb g=>by
       have e:b∈d++[]:=by rw[aaw];exact g
       have c:b∈l++(d++[]):=aal _ e;have f:=f1.fr b (aal _ c);refine{f.1,f.2.1,λz=>?_};rcases O b z with y|y
       .rcases s b y with y|y
        .exact f.2.2 y
        .exact q b y c
       .exact J b y e}
      obtain⟨A4,W,_⟩:=X.assign (i:=k) g3.own V;exact{_,_,rfl,SqT.of (B.fh _ _ U),rfl,_,_,rfl,_,_,rfl,_,_,rfl,rfl,E.nx _ _ _ _ _ I W (((p.set hi).set S).set Q) h1}
 .exact h1.elim}
end
section
variable {K:Frag}     
end
end L2
namespace L2
open PySem PySem.Spec PyProof.Rows
open PySem.Builtin PySem.Builtin.Str PySem.StrLaws
section
variable {X:Cx}
end
section
variable {K:Frag} {μ:↥Nat}
end
end L2
local macro_rules|`(tactic|delta $c:ident) => `(tactic|(intro os P h;first|(cases h;exact L2.lo_of rfl rfl)|(unfold $c at h;(repeat (obtain ⟨x,h⟩ := h));all_goals (subst_vars;exact L2.lo_of rfl rfl))))
namespace KR
open PySem L2
variable{z w t n x word y:Str}{k c f far g m i G g' N j:Nat}{a b:Addr}{P:Pk}{d:D}{zs ls p zs0 ps E ns pool later every nn:↥Str}{ks:↥Key}{ds:↥D}{Q:D->Prop}{α β:Type}{mg:Str->Option Value}{base:Heap}{b1 b2 b0:Int}{sol:Str->Prop}
def top(i:Nat):Stmt:=PySem.Challenge.pw_keptreading_k14_whole_each_by_what_it_as.main.body.getD i (.Pass {(0),0,0,0})
def EN:Stmt->↥Stmt
 |.ClassDef _ _ _ b _ _ _ _ _ _ _=>b
 |_=>[]
def mth(i j:Nat):Stmt:=(EN (top i)).getD j (.Pass {(0),0,0,0})
structure Txt(K:Frag)(mg:Str->Option Value):Prop where
 n_len:mg "len" = none
 n_max:mg "max" = none
 n_min:mg "min" = none
 n_isinstance:mg "isinstance" = none
 n_all:mg "all" = none
 n_any:mg "any" = none
 n_sorted:mg "sorted" = none
 n_range:mg "range" = none
 n_str:mg "str" = none
 n_bool:mg "bool" = none
 n_int:mg "int" = none
 n_list:mg "list" = none
 n_tuple:mg "tuple" = none
 n_dict:mg "dict" = none
 n_set:mg "set" = none
 n_ord:mg "ord" = none
 n_ValueError:mg "ValueError" = none
 n_reversed:mg "reversed" = none
 g_LETTERS:Glo mg "LETTERS" (.str "abcdefghijklmnopqrstuvwxyz")
 g_MOST_LETTERS:Glo mg "MOST_LETTERS" (.int 8)
 g_MOST_SIGNS:Glo mg "MOST_SIGNS" (.int 40)
 g_MOST_PARTS:Glo mg "MOST_PARTS" (.int 8)
 g_BARRED_SIGN:Glo mg "BARRED_SIGN" (.int 37)
 g_WORDS_ALONE:HJ K mg "WORDS_ALONE" [.str "none", .str "any"]
 g_WORDS_WITH_ONE:HJ K mg "WORDS_WITH_ONE" [.str "again", .str "ahead", .str "not"]
 g_WORDS_WITH_SOME:HJ K mg "WORDS_WITH_SOME" [.str "row", .str "first"]
 g_WORDS_EVER_EMPTY:HJ K mg "WORDS_EVER_EMPTY" [.str "none", .str "again", .str "ahead", .str "not"]
abbrev Ml(a b:Addr)(c name:D)(place:Int):OV:=.ob {a,0,[.fz c,.fz name,.fz (.int place),.fz (.int place),.fz (.int 0),.fl b [],.fz (.bl false),.fz .non]}
@[irreducible] def aO:Ct:=λos P=>∃(a:Addr) (c name:D) (place:Int),os=[.ob {a,0,[]},.fz c,.fz name,.fz (.int place)]/\∀b:Addr,P (.fz .non) [Ml a b c name place,.fz c,.fz name,.fz (.int place)]
@[irreducible] def aE:Ct:=λos P=>∃(a:Addr) (g f p2 e c b j i:FV) (d:D),os=[.ob {a,0,[g,f,p2,e,c,b,j,i]},.fz d]/\P (.fz .non) [.ob {a,0,[g,f,p2,e,c,b,.fz (.bl true),.fz d]},.fz d]
abbrev uk:Stmt:=mth 37 0
abbrev EO:FS:=
  (am (jk 0 0 0 (ab 1))
  (am (jk 0 0 1 (ab 2))
  (am (jk 0 0 2 (ab 3))
  (am (jk 0 0 3 (ab 3))
  (am (jk 0 0 4 (fC (.int 0)))
  (am (Ak 0 0 5 (gv af))
  (am (jk 0 0 6 (fC (.bl false)))
  (jk 0 0 7 (fC .non)))))))))
abbrev Ao:Stmt:=mth 37 1
abbrev Jk:FS:=
  (am (jk 0 0 6 (fC (.bl true)))
  (jk 0 0 7 (ab 1)))
def EQ:Hh aO EO [0] 4:=by
 intro os P h;unfold aO at h;obtain⟨a,c,name,place,rfl,q⟩:=h;revert{aan _,?_};ext;intro b;revert(q b)
def Jl:Hh aE Jk [0] 2:=by
 intro os P h;unfold aE at h;obtain⟨a,j,i,p2,g,f,e,c,b,d,rfl,q⟩:=h;revert(q)
def Ap(l:↥Nat):Prop:=∀c∈l,97<=c/\c<=122
def dX(z:Str):Prop:=1<=z.cps.toList.length/\z.cps.toList.length<=8/\Ap z.cps.toList
def kr{a b:↥Nat}(e:Ap a)(d:Ap b):Ap (a++b):=-λc h=>(abQ.mp h).elim (e c) (d c)
abbrev abc:Str := "abcdefghijklmnopqrstuvwxyz"
def ER:Ap abc.cps.toList:=by
 have h:(abc.cps.toList.all λc=>decide (97<=c/\c<=122))=true:=∅
 intro c a;exact of_decide_eq_true (List.all_eq_true.mp h c a)
def mW:abc.cps.toList.length=26:=-∅
def ku(z:Str)(lo hi:Option Int):(j7 z lo hi).cps.toList=fR z.cps.toList lo hi:=by simp[j7]
def dB:sizeLine=16777216:=-sizeLine_eq
def dP(z:Str):Prop:=1<=z.cps.toList.length/\z.cps.toList.length<=40/\z.cps.toList.Pairwise (·<·)/\∀c∈z.cps.toList,32<=c/\c<=126/\c≠37
abbrev ul:Str := " !\"#$&'()*+,-./0123456789:;<=>?\x40ABCDEFGHIJKLMNOPQRSTUVWXYZ[\\]^_`abcdefghijklmnopqrstuvwxyz{|}~"
def um:ul.cps.toList.length=94:=-∅
def oF:∀c∈ul.cps.toList,32<=c/\c<=126/\c≠37:=by
 have h:(ul.cps.toList.all λc=>decide (32<=c/\c<=126/\c≠37))=true:=∅
 intro c a;exact of_decide_eq_true (List.all_eq_true.mp h c a)
def yD(h:z.cps.toList.length=1):∃c,z={#[c]}:=by
 obtain⟨c,a⟩:=List.length_eq_one_iff.mp h;exact{c,ie (by rw[a])}
theorem oG:∀{ss:↥Str},(∀z∈ss,z.cps.toList.length=1)->∃cs:↥Nat,ss=cs.map λc=>({#[c]}:Str)
 |[],_=>{[],rfl}
 | s::ss,h=>by
  obtain⟨c,rfl⟩:=yD (h s (aab ..));obtain⟨cs,rfl⟩:=oG (ss:=ss) λz a=>h z (aad _ a);exact{c::cs,rfl}
theorem jI:∀cs:↥Nat,((cs.map λc=>({#[c]}:Str)).map λz=>z.cps.toList).flatten=cs
 |[]=>rfl
 |c::cs=>by simp only[List.map_cons,List.flatten_cons,jI cs];rfl
def qE{cs:↥Nat}(h:(cs.map λc=>({#[c]}:Str)).Pairwise λa b=>cR a b=true)(e:(cs.map λc=>({#[c]}:Str)).Nodup):cs.Pairwise (·<·):=by
 rw[List.Nodup] at e;have h2:=h.and e;rw[List.pairwise_map] at h2;refine h2.imp fun {a b} d=>?_;have f:¬([b]<[a]):=et.mp d.1;have i:¬(b<a):=λz=>f (List.Lex.rel z);have g:a≠b:=λz=>d.2 (by rw[z]);nofun
def yF(zs:↥Str)(word:Str)(rest:↥Str):Prop:=
 ((word = "none" ∨ word = "any")/\rest=[])∨(word = "signs" /\ ∃z,rest=[z]/\dP z) ∨
 ((word = "again" ∨ word = "ahead" ∨ word = "not")/\rest.length=1/\∀z∈rest,z∈zs)∨((word = "row" ∨ word = "first")/\1<=rest.length/\rest.length<=8/\∀z∈rest,z∈zs)
abbrev aG(word:Str)(rest:↥Str):D:=.tup (.str word::rest.map .str)
abbrev Rw:=Str×Str×↥Str
variable{rows rows':↥Rw}
abbrev fj(r:Rw):D:=.tup [.str r.1,aG r.2.1 r.2.2]
def ES(zs:↥Str)(word:Str)(rest:↥Str):Prop:=(∀z∈zs,dX z)/\yF zs word rest
def iO(word:Str)(rest:↥Str):Prop:=∃zs:↥Str,ES zs word rest
structure BookL(rows:↥Rw):Prop where
 nd:(rows.map (·.1)).Nodup
 ok:∀r∈rows,dX r.1/\iO r.2.1 r.2.2
 few:rows.length<=30
 pool:∃zs:↥Str,zs.length<=45/\∀r∈rows,ES zs r.2.1 r.2.2
def bU(word:Str)(rest:↥Str):↥Str:=if word = "signs" then [] else rest
inductive bB:Ct
 |mk {word:Str} {rest:↥Str} {P:Pk} (h:P (.fl ((bU word rest).map .str)) [.fz (aG word rest)]):bB [.fz (aG word rest)] P
abbrev uo:Stmt:=top 22
abbrev ET:FS:=
  (am (fIf (au (fOp aEq (fOp aIx (ab 0) (fC (.int 0))) (fC (.str "signs"))))
   (bi (gv af))
   aH)
  (bi (fCB DM (aa (fSl aSl (ab 0) (ir (fC (.int 1))) cH) af))))
def EU:Hh bB ET [] 1:=by
 intro os P h;obtain@⟨word,rest,_,q⟩:=h;unfold bU at q
 have nw:cU (D.str word::rest.map D.str).length ↑1 none:=λz=>by
  have c:HT.sIx (D.str word::rest.map D.str).length 0 ↑(1:Int)=1:=by
   rw[show (1:Int)=((1:Nat):Int) from rfl,HT.sIx_nat,abX];nofun
  rw[c] at z;nofun
 have a:fR (D.str word::rest.map D.str) ↑1 none=rest.map D.str:=cG _ 1;revert ay bN{ai,?_}(al (word = "signs") aq (λb=>?_) (λb=>?_))
 .revert{aan _,?_};ext;rw[if_pos b] at q;exact q
 .revert{nw,?_};rw[if_neg b] at q;rw[a];revert(q)
inductive Leaf where
 |lack|none|any|signs (s:Str)
variable{l:Leaf}
def uq:Leaf->D
 |.lack=>.non
 |.none=>aG "none" []
 |.any=>aG "any" []
 |.signs s=>aG "signs" [s]
def Mm:Option Int->D
 |none=>.non
 |some i=>.int i
def lJ(l:Leaf)(z:Str)(k:Nat):Option Int:=match l with
 |.lack=>none
 |.none=>!0
 |.any=>if k<z.length then ↑1 else none
 | .signs s=>match z.cps.toList[k]? with
  |some c=>if c∈s.cps.toList then ↑1 else none
  |none=>none
def kx{s:Str}(h:z.cps.toList[k]?=none):lJ (.signs s) z k=none:=by unfold lJ;simp only[h]
def mX{s:Str}(h:z.cps.toList[k]?=!c):lJ (.signs s) z k=if c∈s.cps.toList then ↑1 else none:=by unfold lJ;simp only[h]
inductive bI:Ct
 |mk {l:Leaf} {z:Str} {k:Nat} {P:Pk} (hk:k<=z.length) (hz:z.length<=sizeLine) (h:P (.fz (Mm (lJ l z k))) [.fz (uq l),.fz (.str z),.fz (.int k)]):bI [.fz (uq l),.fz (.str z),.fz (.int k)] P
abbrev oH:Stmt:=top 38
abbrev yG:FS:=
  (am (fIf (au (fOp xM (ab 0) (fC .non)))
   (bi (fC .non))
   aH)
  (am (fIf (au (fOp aEq (fOp aIx (ab 0) (fC (.int 0))) (fC (.str "none"))))
   (bi (fC (.int 0)))
   aH)
  (am (fIf (au (fOp aEq (ab 2) (fCB eR (aa (ab 1) af))))
   (bi (fC .non))
   aH)
  (bi (KM (fOr (au (fOp aEq (fOp aIx (ab 0) (fC (.int 0))) (fC (.str "any")))) (au (fOp aIn (fOp aIx (ab 1) (ab 2)) (fOp aIx (ab 0) (fC (.int 1)))))) (fC (.int 1)) (fC .non))))))
def yH:Hh bI yG [] 3:=by
 intro os P h;obtain@⟨l,z,k,_,j,e,q⟩:=h;have sz:=dB
 cases l with
 | lack=>
  revert ay cw(q)
 | none=>
  revert ay cP ay{ai,?_}(al _ aq (λ_=>?_) (λa=>absurd rfl a))(q)
 | any=>
  revert ay cP ay{ai,?_}(al _ aq (λa=>absurd a ∅) (λ_=>?_)) ay{e,?_}{aS,?_}(al _ bM (λg=>?_) (λg=>?_))
  .ext;have d:¬k<z.length:=()
   have:lJ .any z k=none:=if_neg d;rw[this] at q;exact q
  .ext;have b:k<z.length:=()
   refine{ai,?_};revert(al _ aq (λ_=>?_) (λa=>absurd rfl a)) cw;ext;have:lJ .any z k=!1:=if_pos b;rw[this] at q;exact q
 | signs s=>
  revert ay cP ay{ai,?_}(al _ aq (λa=>absurd a ∅) (λ_=>?_)) ay{e,?_}{aS,?_}(al _ bM (λg=>?_) (λg=>?_))
  .ext;have d:¬k<z.length:=()
   have:lJ (.signs s) z k=none:=kx (List.getElem?_eq_none_iff.mpr (by rw[← gN];nofun));rw[this] at q;exact q
  .ext;have b:k<z.length:=()
   refine{ai,?_};revert(al _ aq (λa=>absurd a ∅) (λ_=>?_));ext;have i:z.cps.toList[k]?=!(z.cps.toList[k]'(by rw[← gN];exact b)):=List.getElem?_eq_getElem _;generalize z.cps.toList[k]'(by rw[← gN];exact b)=c at i;rw[mX i] at q;refine{e,?_};rw[kn i];revert(al _ decide_eq_true_iff (λf=>?_) (λf=>?_))
   .ext;rw[if_pos f] at q;exact q
   .ext;rw[if_neg f] at q;exact q
def oI{c name:D}{place:Int}(h:∀b:Addr,P (.fz .non) [Ml a b c name place,.fz c,.fz name,.fz (.int place)]):aO [.ob {a,0,[]},.fz c,.fz name,.fz (.int place)] P:=by
 unfold aO;exact{(a),c,name,place,rfl,h}
def b7{g f p2 e c b j i:FV}(h:P (.fz .non) [.ob {a,0,[g,f,p2,e,c,b,.fz (.bl true),.fz d]},.fz d]):aE [.ob {a,0,[g,f,p2,e,c,b,j,i]},.fz d] P:=by
 unfold aE;exact{(a),g,f,p2,e,c,b,j,i,d,rfl,h}
abbrev ask1(a b:Addr)(c name:D)(place:Int)(len:D):OV:=.ob {a,0,[.fz c,.fz name,.fz (.int place),.fz (.int place),.fz (.int 0),.fl b [],.fz (.bl true),.fz len]}
@[irreducible] def dC:Ct:=λos P=>∃(ks:↥Key) (ds:↥D) (z n:Str) (k:Nat),os=[.fz (.dct ks ds),.fz (.str z),.fz (.str n),.fz (.int k)]/\k<=z.length/\z.length<=sizeLine /\
  ((∃l,(iD ks ds (.inr n)).getD .non=uq l/\∀a b,P (ask1 a b (uq l) (.str n) k (Mm (lJ l z k))) os) ∨
   ∃word rest,(iD ks ds (.inr n)).getD .non=aG word rest/\word ≠ "signs" /\ rest≠[]/\rest.length<=8/\∀a b,P (Ml a b (aG word rest) (.str n) k) os)
abbrev ur:Stmt:=top 39
abbrev EV:FS:=
  (am (bX (Jc (ab 0) (ab 2)) (ac 4))
  (am (b9 5 (IV 0 aO (aa (fFz (ab 4)) (aa (fFz (ab 2)) (aa (fFz (ab 3)) af)))))
  (am (fIf (fOr (au (fOp xM (ab 4) (fC .non))) (au (fOp aEq (fCB eR (aa (ar bB (aa (fFz (ab 4)) af)) af)) (fC (.int 0)))))
   (bA (dW "end" 0 5 aE (aa (fFz (ar bI (aa (fFz (ab 4)) (aa (fFz (ab 1)) (aa (fFz (ab 3)) af))))) af)))
   aH)
  (bi (ab 5)))))
def EW:Hh dC EV [] 6:=by
 intro os P h;unfold dC at h;obtain⟨ks,ds,z,n,k,rfl,f,d,h⟩:=h;ext;rcases h with ⟨l,e,q⟩|⟨word,rest,e,i,g,m,q⟩
 .rw[e];ext;intro a;refine oI λb=>?_;revert ay
  cases l with
  | lack=>
   revert cw cw(.mk (l:=.lack) f d ?_) b7(q a b)
  | none=>
   revert cP(.mk ?_){aS,?_}(al _ bM (λ_=>?_) (λc=>absurd ∅ c))(.mk (l:=.none) f d ?_) b7(q a b)
  | any=>
   revert cP(.mk ?_){aS,?_}(al _ bM (λ_=>?_) (λc=>absurd ∅ c))(.mk (l:=.any) f d ?_) b7(q a b)
  | signs s=>
   revert cP(.mk ?_){aS,?_}(al _ bM (λ_=>?_) (λc=>absurd (by rw[show bU "signs" [s]=[] from if_pos rfl];rfl) c))(.mk (l:=.signs s) f d ?_) b7(q a b)
 .rw[e];ext;intro a;refine oI λb=>?_;revert ay cP(.mk ?_){aS,?_};ext;have j:bU word rest=rest:=if_neg i;refine al _ bM (λc=>?_) (λ_=>?_)
  .rw[j,abP] at c;exact absurd (List.length_eq_zero_iff.mp ()) g
  .revert(q a b)
inductive Rl where
 |leaf (l:Leaf)|comp (w:Str) (r:↥Str)
def rlD:Rl->D
 |.leaf l=>uq l
 |.comp w r=>aG w r
def dD(o:Option Nat):D:=match o with
 |none=>.non
 |some k=>.int k
def ky(l:Leaf)(z:Str)(k:Nat):Option Nat:=match lJ l z k with
 |none=>none
 |some i=>!i.toNat
def EX(l:Leaf)(z:Str)(k:Nat):Mm (lJ l z k)=dD (ky l z k):=by
 unfold ky
 cases e:lJ l z k with
 |none=>rfl
 | some i=>
  have:0<=i:=by
   unfold lJ at e;split at e
   .cases e
   .cases e;decide
   .split at e
    .cases e;decide
    .cases e
   .split at e
    .split at e
     .cases e;decide
     .cases e
    .cases e
  show D.int i=D.int ((i.toNat:Nat):Int);rw[Int.toNat_of_nonneg this]
abbrev Sp2:=Str×Nat
variable{root q:Sp2}
def az(s:Sp2):D:=.tup [.str s.1,.int s.2]
structure As where
 fm:Rl
 n:Str
 k:Nat
 t:Nat
 tn:Nat
 st:↥Sp2
 dn:Bool
 ln:Option Nat
variable{s:As}
abbrev asA(a b:Addr)(s:As):Oo:={a,0,[.fz (rlD s.fm),.fz (.str s.n),.fz (.int s.k),.fz (.int s.t),.fz (.int s.tn),.fl b (s.st.map az),.fz (.bl s.dn),.fz (dD s.ln)]}
def gg(s:As)(x:Option Nat):As:={ s with dn:=true,ln:=x }
def mY(r:↥Str)(s:As)(x:Option Nat):As:=match x with
 |none=>gg s none
 |some l=>if s.tn+1=r.length then gg { s with t:=s.t+l,tn:=s.tn+1 } ↑(s.t+l - s.k) else { s with t:=s.t+l,tn:=s.tn+1 }
def cq(r:↥Str)(s:As)(x:Option Nat):As:=if x≠none∨s.tn+1=r.length then gg { s with tn:=s.tn+1 } x else { s with tn:=s.tn+1 }
def cZ(s:As)(x:Option Nat):As:=if x=none∨x=↑0 then gg s ↑(s.t - s.k) else { s with t:=s.t+x.getD 0 }
def ae(r:↥Str)(s:As):Sp2:=(r.getD s.tn "", s.t)
def bJ(w:Str)(r:↥Str)(a:As)(x:Option Nat):As:=
 let s:={ a with st:=a.st++[ae r a] }
 if w = "row" then mY r s x else if w = "first" then cq r s x else if w = "again" then cZ s x else if w = "ahead" then gg s (if x=none then none else !0) else gg s (if x=none then ↑0 else none)
inductive aY:Ct
 |mk {a b:Addr} {s:As} {w:Str} {r:↥Str} {P:Pk} (hf:s.fm=.comp w r) (ht:s.tn<r.length) (hr:r.length<=8) (h:P (.fz (az (ae r s))) [.ob (asA a b s)]):aY [.ob (asA a b s)] P
inductive aV:Ct
 |mk {a b:Addr} {s:As} {w:Str} {r:↥Str} {x:Option Nat} {P:Pk} (hf:s.fm=.comp w r) (hr:r.length<=8) (hk:s.k<=s.t) (h:P (.fz .non) [.ob (asA a b (mY r s x)),.fz (dD x)]):aV [.ob (asA a b s),.fz (dD x)] P
inductive aM:Ct
 |mk {a b:Addr} {s:As} {w:Str} {r:↥Str} {x:Option Nat} {P:Pk} (hf:s.fm=.comp w r) (hr:r.length<=8) (h:P (.fz .non) [.ob (asA a b (cq r s x)),.fz (dD x)]):aM [.ob (asA a b s),.fz (dD x)] P
inductive aN:Ct
 |mk {a b:Addr} {s:As} {x:Option Nat} {P:Pk} (hk:s.k<=s.t) (h:P (.fz .non) [.ob (asA a b (cZ s x)),.fz (dD x)]):aN [.ob (asA a b s),.fz (dD x)] P
inductive bC:Ct
 |mk {a b:Addr} {s:As} {w:Str} {r:↥Str} {x:Option Nat} {P:Pk} (hf:s.fm=.comp w r) (ht:s.tn<r.length) (hr:r.length<=8) (hk:s.k<=s.t) (hs:s.st.length<sizeLine) (h:P (.fz .non) [.ob (asA a b (bJ w r s x)),.fz (dD x)]):bC [.ob (asA a b s),.fz (dD x)] P
abbrev lK:Stmt:=mth 37 2
abbrev ut:FS:=
  (bi (fX (aa (fOp aIx (gF 0 0 0) (fOp eM (fC (.int 1)) (gF 0 0 4))) (aa (gF 0 0 3) af))))
abbrev Aq:Stmt:=mth 37 4
abbrev Jm:FS:=
  (am (fIf (au (fOp xM (ab 1) (fC .non)))
   (am (bA (dW "end" 0 0 aE (aa (fC .non) af)))
  Ie)
   aH)
  (am (qv 0 0 3 (ab 1))
  (am (qv 0 0 4 (fC (.int 1)))
  (fIf (au (fOp aEq (gF 0 0 4) (fOp (aI0 λi j=>.int (i - j)) (fCB eR (aa (gF 0 0 0) af)) (fC (.int 1)))))
   (bA (dW "end" 0 0 aE (aa (fFz (fOp (aI0 λi j=>.int (i - j)) (gF 0 0 3) (gF 0 0 2))) af)))
   aH))))
abbrev oJ:Stmt:=mth 37 5
abbrev yI:FS:=
  (am (qv 0 0 4 (fC (.int 1)))
  (fIf (fOr (au (fOp lA (ab 1) (fC .non))) (au (fOp aEq (gF 0 0 4) (fOp (aI0 λi j=>.int (i - j)) (fCB eR (aa (gF 0 0 0) af)) (fC (.int 1))))))
   (bA (dW "end" 0 0 aE (aa (fFz (ab 1)) af)))
   aH))
abbrev oK:Stmt:=mth 37 6
abbrev yJ:FS:=
  (fIf (fOr (au (fOp xM (ab 1) (fC .non))) (au (fOp aEq (ab 1) (fC (.int 0)))))
   (bA (dW "end" 0 0 aE (aa (fFz (fOp (aI0 λi j=>.int (i - j)) (gF 0 0 3) (gF 0 0 2))) af)))
   (qv 0 0 3 (ab 1)))
abbrev uu:Stmt:=mth 37 3
abbrev EY:FS:=
  (am (bA (xV 0 0 5 (dW "wanted" 0 0 aY af)))
  (am (bX (fOp aIx (gF 0 0 0) (fC (.int 0))) (ac 2))
  (fIf (au (fOp aEq (ab 2) (fC (.str "row"))))
   (bA (dW "take_in_row" 0 0 aV (aa (fFz (ab 1)) af)))
   (fIf (au (fOp aEq (ab 2) (fC (.str "first"))))
   (bA (dW "take_in_first" 0 0 aM (aa (fFz (ab 1)) af)))
   (fIf (au (fOp aEq (ab 2) (fC (.str "again"))))
   (bA (dW "take_in_again" 0 0 aN (aa (fFz (ab 1)) af)))
   (fIf (au (fOp aEq (ab 2) (fC (.str "ahead"))))
   (bA (dW "end" 0 0 aE (aa (fFz (KM (au (fOp xM (ab 1) (fC .non))) (fC .non) (fC (.int 0)))) af)))
   (bA (dW "end" 0 0 aE (aa (fFz (KM (au (fOp xM (ab 1) (fC .non))) (fC (.int 0)) (fC .non))) af)))))))))
def uv:Hh aY ut [0] 1:=by
 intro os P h;obtain@⟨a,b,s,w,r,_,d,c,hr,q⟩:=h;obtain⟨fm,n,k,t,tn,st,dn,ln⟩:=s;simp only at d c;subst d
 have f:atI (D.str w::List.map D.str r) (1+(tn:Int))=!(.str (r.getD tn "")):=by
  rw[show (1+(tn:Int))=((tn+1:Nat):Int) from ()];refine kn ?_;rw[List.getElem?_cons_succ,List.getElem?_map,List.getD_eq_getElem?_getD,List.getElem?_eq_getElem c];rfl
 have e:2<=sizeLine:=by rw[sizeLine_eq];decide
 ext;rw[f];revert{e,?_}(q)
def Jn:Hh aV Jm [0] 2:=by
 intro os P h;obtain@⟨a,b,s,w,r,x,_,c,hr,f,q⟩:=h;obtain⟨fm,n,k,t,tn,st,dn,ln⟩:=s;simp only at c f;subst c;have sz:=dB
 cases x with
 | none=>
  revert ay cw b7(q)
 | some l=>
  revert ay cP ay{aS,?_}(al (tn+1=r.length) (bM.trans (by simp only[List.length_cons,List.length_map];nofun)) (λh=>?_) (λh=>?_))
  .revert b7;ext;rw[show mY r {.comp w r,n,k,t,tn,st,dn,ln} ↑l=gg {.comp w r,n,k,t+l,tn+1,st,dn,ln} ↑(t+l - k) from if_pos h] at q;have e:((t:Int)+(l:Int)) - (k:Int)=((t+l - k:Nat):Int):=()
   have d:P (.fz .non) [.ob {a,0,[.fz (aG w r),.fz (.str n),.fz (.int k),.fz (.int ((t:Int)+l)),.fz (.int ((tn:Int)+1)),.fl b (st.map az),.fz (.bl true),.fz (.int ((t:Int)+l - k))]},.fz (.int l)]:=by rw[e];exact q
   exact d
  .ext;rw[show mY r {.comp w r,n,k,t,tn,st,dn,ln} ↑l={.comp w r,n,k,t+l,tn+1,st,dn,ln} from if_neg h] at q;exact q
def yL:Hh aM yI [0] 2:=by
 intro os P h;obtain@⟨a,b,s,w,r,x,_,c,hr,q⟩:=h;obtain⟨fm,n,k,t,tn,st,dn,ln⟩:=s;simp only at c;subst c;have sz:=dB
 cases x with
 | none=>
  revert ay cP{aS,?_}(al (tn+1=r.length) (bM.trans (by simp only[List.length_cons,List.length_map];nofun)) (λh=>?_) (λh=>?_))
  .revert b7;ext;rw[show cq r {.comp w r,n,k,t,tn,st,dn,ln} none=gg {.comp w r,n,k,t,tn+1,st,dn,ln} none from if_pos (.inr h)] at q;exact q
  .ext;rw[show cq r {.comp w r,n,k,t,tn,st,dn,ln} none={.comp w r,n,k,t,tn+1,st,dn,ln} from if_neg (λz=>z.elim (λy=>y rfl) h)] at q;exact q
 | some l=>
  revert ay cw cw b7;ext;rw[show cq r {.comp w r,n,k,t,tn,st,dn,ln} ↑l=gg {.comp w r,n,k,t,tn+1,st,dn,ln} ↑l from if_pos (.inl (λz=>nomatch z))] at q;exact q
def yM:Hh aN yJ [0] 2:=by
 intro os P h;obtain@⟨a,b,s,x,_,c,q⟩:=h;obtain⟨fm,n,k,t,tn,st,dn,ln⟩:=s;simp only at c;have e:(t:Int) - (k:Int)=((t - k:Nat):Int):=()
 have fi:∀y:D,P (.fz .non) [.ob (asA a b (gg {(fm),n,k,t,tn,st,dn,ln} !(t - k))),.fz y]->P (.fz .non) [.ob {a,0,[.fz (rlD fm),.fz (.str n),.fz (.int k),.fz (.int t),.fz (.int tn),.fl b (st.map az),.fz (.bl true),.fz (.int ((t:Int) - k))]},.fz y]:=λy q=>by rw[e];exact q
 cases x with
 | none=>
  revert ay cw cw b7;ext;rw[show cZ {(fm),n,k,t,tn,st,dn,ln} none=gg {(fm),n,k,t,tn,st,dn,ln} ↑(t - k) from if_pos (.inl rfl)] at q;exact fi _ q
 | some l=>
  revert ay cP{aS,?_}(al (l=0) (bM.trans ()) (λh=>?_) (λh=>?_))
  .revert b7;ext;rw[show cZ {(fm),n,k,t,tn,st,dn,ln} ↑l=gg {(fm),n,k,t,tn,st,dn,ln} ↑(t - k) from if_pos (.inr (by rw[h]))] at q;exact fi _ q
  .ext;rw[show cZ {(fm),n,k,t,tn,st,dn,ln} ↑l={fm,n,k,t+l,tn,st,dn,ln} from if_neg (λz=>z.elim (λy=>nomatch y) λy=>h (aak y))] at q;exact q
def EZ:Hh bC EY [0] 3:=by
 intro os P h;obtain@⟨a,b,s,w,r,x,_,g,f,hr,e,hs,q⟩:=h;obtain⟨fm,n,k,t,tn,st,dn,ln⟩:=s;simp only at g f e hs;subst g;have i:((st++[ae r {.comp w r,n,k,t,tn,st,dn,ln}]).map az)=st.map az++[az (ae r {.comp w r,n,k,t,tn,st,dn,ln})]:=by rw[aae];rfl
 revert(.mk (s:={.comp w r,n,k,t,tn,st,dn,ln}) rfl f hr ?_){rfl,by rw[abP];exact hs,?_};rw[← i];revert bN ay{ai,?_}(al (w = "row") aq (λh=>?_) (λh=>?_))
 .revert(.mk (s:={.comp w r,n,k,t,tn,st++[ae r {.comp w r,n,k,t,tn,st,dn,ln}],dn,ln}) rfl hr e ?_);ext;rw[show bJ w r {.comp w r,n,k,t,tn,st,dn,ln} x=mY r {.comp w r,n,k,t,tn,st++[ae r {.comp w r,n,k,t,tn,st,dn,ln}],dn,ln} x from if_pos h] at q;exact q
 revert ay{ai,?_}(al (w = "first") aq (λh2=>?_) (λh2=>?_))
 .revert(.mk (s:={.comp w r,n,k,t,tn,st++[ae r {.comp w r,n,k,t,tn,st,dn,ln}],dn,ln}) rfl hr ?_);ext;rw[show bJ w r {.comp w r,n,k,t,tn,st,dn,ln} x=cq r {.comp w r,n,k,t,tn,st++[ae r {.comp w r,n,k,t,tn,st,dn,ln}],dn,ln} x from (if_neg h).trans (if_pos h2)] at q;exact q
 revert ay{ai,?_}(al (w = "again") aq (λc=>?_) (λc=>?_))
 .revert(.mk (s:={.comp w r,n,k,t,tn,st++[ae r {.comp w r,n,k,t,tn,st,dn,ln}],dn,ln}) e ?_);ext;rw[show bJ w r {.comp w r,n,k,t,tn,st,dn,ln} x=cZ {.comp w r,n,k,t,tn,st++[ae r {.comp w r,n,k,t,tn,st,dn,ln}],dn,ln} x from (if_neg h).trans ((if_neg h2).trans (if_pos c))] at q;exact q
 revert ay{ai,?_}(al (w = "ahead") aq (λd=>?_) (λd=>?_))
 .cases x with
  | none=>
   revert cw b7;ext;rw[show bJ w r {.comp w r,n,k,t,tn,st,dn,ln} none=gg {.comp w r,n,k,t,tn,st++[ae r {.comp w r,n,k,t,tn,st,dn,ln}],dn,ln} none from (if_neg h).trans ((if_neg h2).trans ((if_neg c).trans (if_pos d)))] at q;exact q
  | some l=>
   revert cP b7;ext;rw[show bJ w r {.comp w r,n,k,t,tn,st,dn,ln} ↑l=gg {.comp w r,n,k,t,tn,st++[ae r {.comp w r,n,k,t,tn,st,dn,ln}],dn,ln} ↑0 from (if_neg h).trans ((if_neg h2).trans ((if_neg c).trans (if_pos d)))] at q;exact q
 .cases x with
  | none=>
   revert cw b7;ext;rw[show bJ w r {.comp w r,n,k,t,tn,st,dn,ln} none=gg {.comp w r,n,k,t,tn,st++[ae r {.comp w r,n,k,t,tn,st,dn,ln}],dn,ln} ↑0 from (if_neg h).trans ((if_neg h2).trans ((if_neg c).trans (if_neg d)))] at q;exact q
  | some l=>
   revert cP b7;ext;rw[show bJ w r {.comp w r,n,k,t,tn,st,dn,ln} ↑l=gg {.comp w r,n,k,t,tn,st++[ae r {.comp w r,n,k,t,tn,st,dn,ln}],dn,ln} none from (if_neg h).trans ((if_neg h2).trans ((if_neg c).trans (if_neg d)))] at q;exact q
def mo:↥Str->↥Str->↥Str
 |ls,[]=>ls
 |ls,m::a=>mo (if m∈ls then ls else ls++[m]) a
structure Res where
 ln:Option Nat
 far:Nat
 ls:↥Str
variable{r r':Res}{e:Sp2×Res}
abbrev Rls:=Str->Rl
variable{R:Rls}
def bO(R:Rls)(z:Str)(n:Str)(k:Nat):As:=match R n with
 |.leaf l=>{.leaf l,n,k,k,0,[],true,ky l z k}
 |.comp w r=>{.comp w r,n,k,k,0,[],false,none}
def goF(R:Rls)(z:Str):Nat->As->Nat->↥Str->Option Res
 |0,_,_,_=>none
 | f+1,s,far,ls=>if s.dn=true then ↑{(s.ln),far,ls} else match s.fm with
  |.leaf _=>none
  | .comp w r=>match goF R z f (bO R z (ae r s).1 (ae r s).2) (ae r s).2 [(ae r s).1] with
   |none=>none
   |some t=>goF R z f (bJ w r s t.ln) (max far t.far) (mo ls t.ls)
abbrev rdF(R:Rls)(z:Str)(f:Nat)(n:Str)(k:Nat):Option Res:=goF R z f (bO R z n k) k [n]
def gG(h:s.dn=true):goF R z (f+1) s far ls=!{(s.ln),far,ls}:=-if_pos h
def jl(h:s.dn=false)(e:goF R z (f+1) s far ls=!r):∃w p t,s.fm=.comp w p/\rdF R z f (ae p s).1 (ae p s).2=!t/\goF R z f (bJ w p s t.ln) (max far t.far) (mo ls t.ls)=!r:=by
 unfold goF at e;rw[if_neg (by rw[h];decide)] at e
 cases b:s.fm with
 |leaf l=>rw[b] at e;cases e
 | comp w p=>
  rw[b] at e;simp only at e
  cases a:rdF R z f (ae p s).1 (ae p s).2 with
  |none=>rw [show goF R z f (bO R z (ae p s).1 (ae p s).2) (ae p s).2 [(ae p s).1]=none from a] at e;cases e
  | some t=>
   rw[show goF R z f (bO R z (ae p s).1 (ae p s).2) (ae p s).2 [(ae p s).1]=↑t from a] at e;exact{(w),p,t,rfl,a,e}
def i9{t:Res}(h:s.dn=false)(b:s.fm=.comp w p)(a:rdF R z f (ae p s).1 (ae p s).2=!t):goF R z (f+1) s far ls=goF R z f (bJ w p s t.ln) (max far t.far) (mo ls t.ls):=by
 rw[goF,if_neg (by rw[h];decide),b];simp only;rw[show goF R z f (bO R z (ae p s).1 (ae p s).2) (ae p s).2 [(ae p s).1]=↑t from a]
theorem kz:∀{f:Nat} {s:As} {far:Nat} {ls:↥Str} {r:Res},goF R z f s far ls=!r->goF R z (f+1) s far ls=!r
 |0,_,_,_,_,e=>nomatch e
 | f+1,s,far,ls,r,e=>by
  cases h:s.dn with
  |true=>rw [gG h] at e ⊢;exact e
  | false=>
   obtain⟨w,p,t,b,a,c⟩:=jl h e;rw[i9 h b (kz a)];exact kz c
def mZ(h:f<=g)(e:goF R z f s far ls=!r):goF R z g s far ls=!r:=by
 induction h with
 |refl=>exact e
 |step _ a=>exact kz a
def gz{t:Res}(b:goF R z f s far ls=!r)(a:goF R z g s far ls=!t):r=t:=-
 aak ((mZ (Nat.le_max_left f g) b).symm.trans (mZ (Nat.le_max_right f g) a))
def gh(R:Rls)(zs:↥Str):Prop:=∀n w p,R n=.comp w p->w ≠ "signs" /\ 1<=p.length/\p.length<=8/\∀x∈p,x∈zs
structure AsOk(R:Rls)(z:Str)(zs:↥Str)(s:As):Prop where
 fm:s.fm=R s.n
 nz:s.n∈zs
 kt:s.k<=s.t
 tz:s.t<=z.length
 tn:s.dn=false->∃w p,s.fm=.comp w p/\s.tn<p.length
 t8:s.tn<=8
 st:s.st.length<=(s.t - s.k)+s.tn+(if s.dn=true then 1 else 0)
 ln:∀l,s.dn=true->s.ln=!l->s.k+l<=z.length
def E1(a:k<=z.length)(e:ky l z k=!m):k+m<=z.length:=by
 unfold ky at e
 cases h:lJ l z k with
 |none=>rw[h] at e;cases e
 | some i=>
  rw[h] at e;cases e;unfold lJ at h;split at h
  .cases h
  .cases h;exact a
  .split at h
   .cases h;show k+1<=_;nofun
   .cases h
  .split at h
   .rename_i c b;have:k<z.length:=by rw[gN];exact(List.getElem?_eq_some_iff.mp b).1
    split at h
    .cases h;show k+1<=_;nofun
    .cases h
   .cases h
def fG(h:gh R zs)(b:n∈zs)(a:k<=z.length):AsOk R z zs (bO R z n k):=by
 unfold bO
 cases e:R n with
 |leaf l=>exact{e.symm,b,aac _,a,(λz=>nomatch z),aan _,aan _,λm _ q=>E1 a q}
 |comp w p=>exact{e.symm,b,aac _,a,λ_=>{w,p,rfl,(h n w p e).2.1},aan _,aan _,λm z=>nomatch z}
def ca :(bO R z n k).n=n/\(bO R z n k).k=k/\(bO R z n k).st=[]:=by
 unfold bO;cases R n <;> exact{(rfl),rfl,rfl}
def dE(w:Str)(p:↥Str)(s:As)(x:Option Nat):∃t tn dn ln,bJ w p s x={s.fm,s.n,s.k,t,tn,s.st++[ae p s],dn,ln} /\
    ((dn=true/\(t=s.t∨∃l,x=!l/\t=s.t+l)/\(tn=s.tn∨tn=s.tn+1)/\(∀m,ln=!m->m=0∨m<=t - s.k∨x=!m)) ∨
     (dn=s.dn/\((∃l,x=!l/\t=s.t+l/\tn=s.tn+1/\tn≠p.length)∨(t=s.t/\tn=s.tn+1/\tn≠p.length)∨∃l,x=!l/\0<l/\t=s.t+l/\tn=s.tn))):=by
  by_cases h1:w = "row"
  · rw[show bJ w p s x=mY p { s with st:=s.st++[ae p s] } x from if_pos h1]
    cases x with
    |none=>exact{_,_,_,_,rfl,.inl {rfl,.inl rfl,.inl rfl,λm z=>nomatch z}}
    | some l=>
      by_cases h:s.tn+1=p.length
      · rw[show mY p { s with st:=s.st++[ae p s] } ↑l={s.fm,s.n,s.k,s.t+l,s.tn+1,s.st++[ae p s],true,!(s.t+l - s.k)} from if_pos h]
        exact{_,_,_,_,rfl,.inl {rfl,.inr {(l),rfl,rfl},.inr rfl,λm z=>.inr (.inl (by cases z;exact aac _))}}
      · rw[show mY p { s with st:=s.st++[ae p s] } ↑l={s.fm,s.n,s.k,s.t+l,s.tn+1,s.st++[ae p s],s.dn,s.ln} from if_neg h]
        exact{_,_,_,_,rfl,.inr {rfl,.inl {(l),rfl,rfl,rfl,h}}}
  by_cases h2:w = "first"
  · rw[show bJ w p s x=cq p { s with st:=s.st++[ae p s] } x from (if_neg h1).trans (if_pos h2)]
    by_cases h:x≠none∨s.tn+1=p.length
    · rw[show cq p { s with st:=s.st++[ae p s] } x={s.fm,s.n,s.k,s.t,s.tn+1,s.st++[ae p s],true,x} from if_pos h]
      exact{_,_,_,_,rfl,.inl {rfl,.inl rfl,.inr rfl,λm z=>.inr (.inr z)}}
    · rw[show cq p { s with st:=s.st++[ae p s] } x={s.fm,s.n,s.k,s.t,s.tn+1,s.st++[ae p s],s.dn,s.ln} from if_neg h]
      exact{_,_,_,_,rfl,.inr {rfl,.inr (.inl {rfl,rfl,λz=>h (.inr z)})}}
  by_cases a:w = "again"
  · rw[show bJ w p s x=cZ { s with st:=s.st++[ae p s] } x from (if_neg h1).trans ((if_neg h2).trans (if_pos a))]
    by_cases h:x=none∨x=!0
    · rw[show cZ { s with st:=s.st++[ae p s] } x={s.fm,s.n,s.k,s.t,s.tn,s.st++[ae p s],true,!(s.t - s.k)} from if_pos h]
      exact{_,_,_,_,rfl,.inl {rfl,.inl rfl,.inl rfl,λm z=>.inr (.inl (by cases z;exact aac _))}}
    · rw[show cZ { s with st:=s.st++[ae p s] } x={s.fm,s.n,s.k,s.t+x.getD 0,s.tn,s.st++[ae p s],s.dn,s.ln} from if_neg h]
      cases x with
      |none=>exact absurd (.inl rfl) h
      |some l=>exact{_,_,_,_,rfl,.inr {rfl,.inr (.inr {l,rfl,Nat.pos_of_ne_zero λz=>h (.inr (by rw[z])),rfl,rfl})}}
  suffices fin:∃y:Option Nat,(∀m,y=!m->m=0)/\bJ w p s x=gg { s with st:=s.st++[ae p s] } y by
    obtain⟨y,c,e⟩:=fin;rw[e];exact{_,_,_,_,rfl,.inl {rfl,.inl rfl,.inl rfl,λm z=>.inl (c m z)}}
  by_cases b:w = "ahead"
  · refine{if x=none then none else !0,λm z=>?_,(if_neg h1).trans ((if_neg h2).trans ((if_neg a).trans (if_pos b)))}
    split at z
    · cases z
    · cases z;rfl
  · refine{if x=none then ↑0 else none,λm z=>?_,(if_neg h1).trans ((if_neg h2).trans ((if_neg a).trans (if_neg b)))}
    split at z
    · cases z;rfl
    · cases z
def iP{x:Option Nat}(k:gh R zs)(O:AsOk R z zs s)(hd:s.dn=false)(f:s.fm=.comp w p)(hx:∀l,x=!l->s.t+l<=z.length):AsOk R z zs (bJ w p s x):=by
 have A:=(k s.n w p (O.fm.symm.trans f)).2.2.1;obtain⟨r,u,b,v⟩:=O.tn hd;rw[f] at b;cases b;have h1:=O.kt;have h2:=O.tz;have m:=O.st;rw[hd,if_neg (by decide)] at m;obtain⟨t,tn,dn,ln,e,c⟩:=dE w p s x;rw[e];have j:(s.st++[ae p s]).length=s.st.length+1:=by rw[aag];rfl
 rcases c with ⟨rfl,a,i,d⟩|⟨rfl,c⟩
 .have g1:s.t<=t/\t<=z.length:=by
   rcases a with a|⟨l,a,g⟩
   .nofun
   .have:=hx l a;nofun
  clear a;refine{O.fm,O.nz,by show s.k<=t;nofun,g1.2,(λz=>nomatch z),by show tn<=8;nofun,?_,λl _ q=>?_}
  .show (s.st++[ae p s]).length<=(t - s.k)+tn+(if true=true then 1 else 0);rw[j,if_pos rfl];nofun
  .show s.k+l<=z.length;rcases d l q with y|y|y
   .nofun
   .nofun
   .have:=hx l y;nofun
 .have mk:s.t<=t->t<=z.length->tn<p.length->s.st.length+1<=(t - s.k)+tn->AsOk R z zs {s.fm,s.n,s.k,t,tn,s.st++[ae p s],s.dn,ln}:=λC o n B=>by
   refine{O.fm,O.nz,by show s.k<=t;nofun,o,λ_=>{(w),p,f,n},by show tn<=8;nofun,?_,λl q=>?_}
   .show (s.st++[ae p s]).length<=(t - s.k)+tn+(if s.dn=true then 1 else 0);rw[j,hd,if_neg (by decide)];nofun
   .exact absurd (hd.symm.trans q) (by decide)
  rcases c with ⟨l,a,i,d,g⟩|⟨i,d,g⟩|⟨l,a,i,d,g⟩
  .have:=hx l a;exact mk () () () ()
  .exact mk () () () ()
  .have:=hx l a;exact mk () () () ()
theorem m6:∀{ms ls:↥Str},ls.Nodup->(mo ls ms).Nodup
 |[],_,h=>h
 | m::ms,ls,h=>by
  refine m6 (ms:=ms) ?_;split
  .exact h
  .rename_i c;exact ab0.mpr {h,by simp,λa e b d z=>c (by rw[← List.mem_singleton.mp d,← z];exact e)}
theorem gP:∀{ms ls:↥Str} {x:Str},x∈mo ls ms↔x∈ls∨x∈ms
 |[],ls,x=>by show x∈ls↔_;simp
 | m::ms,ls,x=>by
  show x∈mo (if m∈ls then ls else ls++[m]) ms↔_;rw[gP (ms:=ms)];split
  .rename_i a;simp only[List.mem_cons];constructor
   .rintro (h|h)
    .exact .inl h
    .exact .inr (.inr h)
   .rintro (h|h|h)
    .exact .inl h
    .exact .inl (h ▸ a)
    .exact .inr h
  .simp only[List.mem_append,List.mem_cons,List.not_mem_nil,or_false,or_assoc]
structure ResOk(z:Str)(zs:↥Str)(k:Nat)(r:Res):Prop where
 ln:∀l,r.ln=!l->k+l<=z.length
 kf:k<=r.far
 fz:r.far<=z.length
 nd:r.ls.Nodup
 sub:∀x∈r.ls,x∈zs
theorem E2(c:gh R zs):∀{f:Nat} {s:As} {far:Nat} {ls:↥Str} {r:Res},AsOk R z zs s->s.k<=far->far<=z.length->ls.Nodup->(∀x∈ls,x∈zs)->goF R z f s far ls=!r->ResOk z zs s.k r
 |0,_,_,_,_,_,_,_,_,_,e=>nomatch e
 | f+1,s,far,ls,r,O,h1,h2,j,i,e=>by
  cases h:s.dn with
  | true=>
   rw[gG h] at e;cases e;exact{λl q=>O.ln l h q,h1,h2,j,i}
  | false=>
   obtain⟨w,p,t,d,n,o⟩:=jl h e;obtain⟨u,v,b,a⟩:=O.tn h;rw[d] at b;cases b
   have g:(ae p s).1∈zs:=by
    refine(c s.n w p (O.fm.symm.trans d)).2.2.2 _ ?_;show p.getD s.tn "" ∈ p;rw[List.getD_eq_getElem?_getD,List.getElem?_eq_getElem a];exact aaJ a
   have T:=E2 c (fG c g O.tz) (by rw[ca.2.1];exact aac _) O.tz (by simp) (by exists g) n;rw[ca.2.1] at T;have q:=dE w p s t.ln
   have k:(bJ w p s t.ln).k=s.k:=by
    obtain⟨_,_,_,_,q,_⟩:=q;rw[q]
   have:=E2 c (iP c O h d λl q=>T.ln l q) (by rw[k];nofun) (by have:=T.fz;nofun) (m6 j) (λx m=>(gP.mp m).elim (i x) (T.sub x)) o;rw[k] at this;exact this
def uw(c:gh R zs)(a:n∈zs)(b:k<=z.length)(e:rdF R z f n k=!r):ResOk z zs k r:=by
 have:=E2 c (fG c a b) (by rw[ca.2.1];exact aac _) b (by simp) (by exists a) e
 rwa [ca.2.1] at this
def cy(R:Rls)(z:Str):Nat->As->As
 |0,s=>s
 | f+1,s=>if s.dn=true then s else match s.fm with
  |.leaf _=>s
  | .comp w p=>match rdF R z f (ae p s).1 (ae p s).2 with
   |none=>s
   |some t=>cy R z f (bJ w p s t.ln)
def iQ(h:s.dn=true):cy R z f s=s:=by
 cases f with
 |zero=>rfl
 |succ f=>exact if_pos h
def iR{t:Res}(h:s.dn=false)(b:s.fm=.comp w p)(a:rdF R z f (ae p s).1 (ae p s).2=!t):cy R z (f+1) s=cy R z f (bJ w p s t.ln):=by
 rw[cy,if_neg (by rw[h];decide),b];simp only;rw[a]
theorem oM:∀{f:Nat} {s:As} {far:Nat} {ls:↥Str} {r:Res},goF R z f s far ls=!r->cy R z (f+1) s=cy R z f s
 |0,_,_,_,_,e=>nomatch e
 | f+1,s,far,ls,r,e=>by
  cases h:s.dn with
  |true=>rw [iQ h,iQ h]
  | false=>
   obtain⟨w,p,t,b,a,c⟩:=jl h e;rw[iR h b (kz a),iR h b a];exact oM c
def Ar(h:f<=g)(e:goF R z f s far ls=!r):cy R z g s=cy R z f s:=by
 induction h with
 |refl=>rfl
 |step h a=>rw[oM (mZ h e),a]
def Jo{a:Nat}{b:↥Str}{t:Res}(d:goF R z f s far ls=!r)(c:goF R z g s a b=!t):cy R z f s=cy R z g s:=by
 rw[← Ar (Nat.le_max_left f g) d,← Ar (Nat.le_max_right f g) c]
theorem ux:∀{f:Nat} {s:As} {q:Sp2},q∈s.st->q∈(cy R z f s).st
 |0,_,_,h=>h
 | f+1,s,q,h=>by
  unfold cy;split
  .exact h
  .split
   .exact h
   .rename_i w p _;split
    .exact h
    .rename_i t _;refine ux ?_;obtain⟨_,_,_,_,e,_⟩:=dE w p s t.ln;rw[e];exact aau _ h
def uy(c:gh R zs)(O:AsOk R z zs s)(b:s.fm=.comp w p)(a:s.tn<p.length):(ae p s).1∈zs:=by
 refine(c s.n w p (O.fm.symm.trans b)).2.2.2 _ ?_;show p.getD s.tn "" ∈ p;rw[List.getD_eq_getElem?_getD,List.getElem?_eq_getElem a];exact aaJ a
theorem oN(c:gh R zs):∀{f:Nat} {s:As},AsOk R z zs s->AsOk R z zs (cy R z f s)
 |0,_,h=>h
 | f+1,s,O=>by
  unfold cy;split
  .exact O
  .rename_i hd;have b:s.dn=false:=ab9.mpr hd;split
   .exact O
   .rename_i w p e;split
    .exact O
    .rename_i t g;obtain⟨i,j,a,d⟩:=O.tn b;rw[e] at a;cases a;exact oN c (iP c O b e λl q=>(uw c (uy c O e d) O.tz g).ln l q)
def eN(R:Rls)(z:Str)(f:Nat)(q:Sp2):↥Sp2:=(cy R z f (bO R z q.1 q.2)).st
abbrev Kp:=↥(Sp2×Res)
variable{K es:Kp}
def gQ(s:Sp2):↥Key:=[.inr s.1,.inl s.2]
def lsD(ls:↥Str):D:=.dct (ls.map .inr) (ls.map λ_=>.bl true)
def yN(k:Nat)(t:Res):D:=.tup [dD t.ln,.int ((t.far:Int) - (k:Int)+1),lsD t.ls]
abbrev kM(K:Kp):↥↥Key:=K.map λe=>gQ e.1
abbrev lL(K:Kp):↥D:=K.map λe=>yN e.1.2 e.2
def gR{s t:Sp2}(h:gQ s=gQ t):s=t:=by
 obtain⟨a,b⟩:=s;obtain⟨c,d⟩:=t;have h1:=List.cons.inj h;have h2:=List.cons.inj h1.2;have f:a=c:=abh h1.1;have e:(b:Int)=(d:Int):=Sum.inl.inj h2.1;rw[f,Int.ofNat.inj e]
def kA{s:Sp2}:qq (kM K) (gQ s)=true↔s∈K.map (·.1):=by
 unfold qq;rw[aaK];constructor
 .rintro⟨x,b,h⟩;obtain⟨e,a,rfl⟩:=abW.mp b;exact abW.mpr {e,a,gR (of_decide_eq_true h)}
 .intro h;obtain⟨e,a,rfl⟩:=abW.mp h;exact{_,abW.mpr {(e),a,rfl},decide_eq_true rfl}
theorem iS:∀{K:Kp} {e:Sp2×Res},(K.map (·.1)).Nodup->e∈K->cI (kM K) (lL K) (gQ e.1)=!(yN e.1.2 e.2)
 |[],_,_,h=>nomatch h
 | x::K,e,nd,h=>by
  have a:=abV.mp nd;unfold cI kM lL;rw[abT,abT,acb,List.find?_cons];rcases abS.mp h with q|q
  .rw[q];simp
  .have:decide (gQ x.1=gQ e.1)=false:=decide_eq_false λz=>a.1 (abW.mpr {e,q,(gR z).symm});simp only[this];exact iS a.2 q
def cb(k:Nat)(es:Kp):Nat:=es.foldl (λm e=>max m e.2.far) k
def lM(ls:↥Str)(es:Kp):↥Str:=es.foldl (λl e=>mo l e.2.ls) ls
theorem dF{ks:↥↥Key}{k:↥Key}(h:cI ks ds k=!d)(q:Q d):match cI ks ds k with
  |some d=>Q d
  |none=>False:=by rw [h];exact q
def jJ(h:es[i]?=!e):cb k (es.take (i+1))=max (cb k (es.take i)) e.2.far:=by
 unfold cb;rw[aap,h,abl];rfl
def uz(h:es[i]?=!e):lM ls (es.take (i+1))=mo (lM ls (es.take i)) e.2.ls:=by
 unfold lM;rw[aap,h,abl];rfl
theorem uA:∀{ms ls:↥Str},EG (ls.map Sum.inr) (ls.map λ_=>D.bl true) (ms.map Sum.inr) (ms.map λ_=>D.bl true)=((mo ls ms).map Sum.inr,(mo ls ms).map λ_=>D.bl true)
 |[],ls=>rfl
 | m::ms,ls=>by
  have e:iA (ls.map Sum.inr) (ls.map λ_=>D.bl true) (Sum.inr m) (.bl true)=((if m∈ls then ls else ls++[m]).map Sum.inr,(if m∈ls then ls else ls++[m]).map λ_=>D.bl true):=by
   have b:((ls.map Sum.inr:↥Key).any λx=>decide (x=Sum.inr m))=true↔m∈ls:=by
    rw[aaK];constructor
    .rintro⟨x,f,h⟩;obtain⟨y,d,rfl⟩:=abW.mp f;exact abh (of_decide_eq_true h) ▸ d
    .intro h;exact{_,abW.mpr {(m),h,rfl},decide_eq_true rfl}
   unfold iA;by_cases h:m∈ls
   .rw[if_pos (b.mpr h),if_pos h]
    congr 1
    clear b h
    induction ls with
    |nil=>rfl
    | cons a ls c=>
     simp only[List.map_cons,List.zip_cons_cons];rw[c]
     congr 1
     split <;> rfl
   .rw[if_neg (λz=>h (b.mp z)),if_neg h,aae,aae];rfl
  show EG (iA (ls.map Sum.inr) (ls.map λ_=>D.bl true) (Sum.inr m) (.bl true)).1 (iA (ls.map Sum.inr) (ls.map λ_=>D.bl true) (Sum.inr m) (.bl true)).2 (ms.map Sum.inr) (ms.map λ_=>D.bl true)=_;rw[e];exact uA
@[irreducible] def e8:Ct:=λos P=>∃(a b:Addr) (s:As) (K es:Kp) (m:Nat),os=[.ob (asA a b s),.ft (kM K) (lL K)]/\(K.map (·.1)).Nodup/\s.st=es.map (·.1)/\(∀e∈es,e∈K/\e.1.2<=e.2.far)/\(∀i,(lM [s.n] (es.take i)).length<=m)/\(∀e∈es,e.2.ls.length<=m)/\m+m<=sizeLine /\
 P (.fz (yN s.k {s.ln,cb s.k es,lM [s.n] es})) [.ob {a,0,[.fz (rlD s.fm),.fz (.str s.n),.fz (.int s.k),.fz (.int s.t),.fz (.int s.tn),.fz (.lst (s.st.map az)),.fz (.bl s.dn),.fz (dD s.ln)]},.ft (kM K) (lL K)]
abbrev uB:Stmt:=top 40
abbrev E3:FS:=
  (am (bX (gF 0 0 2) (ac 2))
  (am (b9 3 (tZ (gF 0 0 1) (fC (.bl true))))
  (am (jz (bQ (xW 0 0 5)) (ac 4)
   (am (bX (fOp aIx (ab 1) (ab 4)) (jY 3 (b5 (ac 5) (b5 (ac 6) (b5 (ac 7) jX)))))
  (am (bX (fCB KN (aa (ab 2) (aa (fOp (aI0 λi j=>.int (i - j)) (fOp eM (fOp aIx (ab 4) (fC (.int 1))) (ab 6)) (fC (.int 1))) af))) (ac 2))
  (bA (M5 3 (ab 7))))))
  (bi (fX (aa (gF 0 0 7) (aa (fOp eM (fOp (aI0 λi j=>.int (i - j)) (ab 2) (gF 0 0 2)) (fC (.int 1))) (aa (ab 3) af))))))))
def E4:Hh e8 E3 [0,1] 8:=by
 intro os P h;unfold e8 at h;obtain⟨a,b,s,K,es,m,rfl,nd,f,u,g,r,z,q⟩:=h;obtain⟨fm,n,k,t,tn,st,dn,ln⟩:=s;simp only at f g;subst f;have sz:=dB;ext;rw[aav];refine aW (λi ρ=>∃p o l j:Option OV,ρ=[!(.ob {a,0,[.fz (rlD fm),.fz (.str n),.fz (.int k),.fz (.int t),.fz (.int tn),.fz (.lst (es.map (az ∘ λx=>x.1))),.fz (.bl dn),.fz (dD ln)]}),!(.ft (kM K) (lL K)),!(.fz (.int (cb k (es.take i)))),!(.fd ((lM [n] (es.take i)).map Sum.inr) ((lM [n] (es.take i)).map λ_=>.bl true)),p,o,l,j]) {none,none,none,none,?_} ?_ ?_
 .rfl
 .rintro i d ρ R hd ⟨p,o,l,j,rfl⟩ v;rw[List.getElem?_map] at hd
  cases c:es[i]? with
  |none=>rw [c] at hd;cases hd
  | some e=>
   rw[c] at hd;cases hd;have w:=u e (List.mem_of_getElem? c);have h1:=g i;have h2:=r e (List.mem_of_getElem? c);revert(dF (iS nd w.1) ?_){rfl,?_}{rfl,?_};ext;rw[abP,abP];refine{(),?_};rw[uA,← uz c]
   have y:(if ((e.1.2:Int)+((e.2.far:Int) - (e.1.2:Int)+1) - 1) > (cb k (es.take i):Int) then ((e.1.2:Int)+((e.2.far:Int) - (e.1.2:Int)+1) - 1) else (cb k (es.take i):Int))=((cb k (es.take (i+1)):Nat):Int):=by
    rw[jJ c];split <;> nofun
   refine v _ {!(.fz (az e.1)),!(.fz (dD e.2.ln)),!(.fz (.int ((e.2.far:Int) - (e.1.2:Int)+1))),!(.fz (lsD e.2.ls)),?_};rw[← y];rfl
 .rintro ρ ⟨p,o,l,j,rfl⟩;rw[abP,aai (aac _)];revert{(by rw[sizeLine_eq];exact(by decide:(3:Nat)<=16777216)),?_};ext;rw[aav] at q;exact q
def yO(nd:(K.map (·.1)).Nodup)(h1:s.st=es.map (·.1))(h2:∀e∈es,e∈K/\e.1.2<=e.2.far)(f:∀i,(lM [s.n] (es.take i)).length<=m)(d:∀e∈es,e.2.ls.length<=m)(c:m+m<=sizeLine)
  (h:P (.fz (yN s.k {s.ln,cb s.k es,lM [s.n] es})) [.ob {a,0,[.fz (rlD s.fm),.fz (.str s.n),.fz (.int s.k),.fz (.int s.t),.fz (.int s.tn),.fz (.lst (s.st.map az)),.fz (.bl s.dn),.fz (dD s.ln)]},.ft (kM K) (lL K)]):e8 [.ob (asA a b s),.ft (kM K) (lL K)] P:=by
 unfold e8;exact{(a),b,s,K,es,m,rfl,nd,h1,h2,f,d,c,h}
def Tf:Nat->Nat
 |0=>0
 |f+1=>2*Tf f+3
def E5(h:f<=g):Tf f<=Tf g:=by
 induction h with
 |refl=>exact aac _
 | @step m _ a=>
  show Tf f<=2*Tf m+3;nofun
structure Lst(R:Rls)(z:Str)(q:Sp2)(g:Nat)(r:Res):Prop where
 rd:rdF R z g q.1 q.2=!r
 lo:∀f t,rdF R z f q.1 q.2=!t->g<=f
def Au:∀{f:Nat} {q:Sp2} {r:Res},rdF R z f q.1 q.2=!r->∃g,g<=f/\Lst R z q g r:=by
 intro f
 induction f with
 |zero=>intro q r e;cases e
 | succ f a=>
  intro q r e
  cases h:rdF R z f q.1 q.2 with
  | some t=>
   obtain⟨g,c,L⟩:=a h;have:t=r:=gz h e;exact{g,(),this ▸ L}
  | none=>
   refine{f+1,aac _,e,λb t h'=>?_}
   cases Nat.lt_or_ge f b with
   |inl y=>exact y
   |inr y=>rw[show rdF R z f q.1 q.2=↑t from mZ y h'] at h;cases h
def Jp(L:Lst R z q g r)(a:Lst R z q g' r'):g=g':=by
 have:=L.lo _ _ a.rd;have:=a.lo _ _ L.rd;nofun
structure KpOk(R:Rls)(z:Str)(zs:↥Str)(K:Kp):Prop where
 nd:(K.map (·.1)).Nodup
 ok:∀e∈K,e.1.1∈zs/\e.1.2<=z.length/\∃f,rdF R z f e.1.1 e.1.2=!e.2
 cl:∀e∈K,∀f,rdF R z f e.1.1 e.1.2=!e.2->∀q∈eN R z f e.1,q∈K.map (·.1)
def KpOk.res(O:KpOk R z zs K)(a:gh R zs)(h:e∈K):ResOk z zs e.1.2 e.2:=by
 obtain⟨h1,h2,f,b⟩:=O.ok e h;exact uw a h1 h2 b
theorem oO(m:Nat):∀zs:↥Str,(zs.flatMap λn=>(List.range m).map λk=>(n,k)).length=zs.length*m
 |[]=>by simp
 |n::zs=>by rw[List.flatMap_cons,aag,oO m zs,abP,ab8,abX,Nat.succ_mul,Nat.add_comm]
def KpOk.len(O:KpOk R z zs K):K.length<=zs.length*(z.length+1):=by
 have h:(K.map (·.1)).length<=(zs.flatMap λn=>(List.range (z.length+1)).map λk=>(n,k)).length:=by
  refine aax O.nd λq a=>?_;obtain⟨e,b,rfl⟩:=abW.mp a;obtain⟨h1,h2,_⟩:=O.ok e b;exact List.mem_flatMap.mpr {e.1.1,h1,abW.mpr {e.1.2,aca.mpr (),rfl}}
 rw[abP] at h;rw[oO] at h;exact h
structure Frm(R:Rls)(z:Str)(zs:↥Str)(K:Kp)(s:As)(f g far:Nat)(ls:↥Str)(r:Res):Prop where
 go:goF R z f s far ls=!r
 ok:AsOk R z zs s
 acc:∃es:Kp,s.st=es.map (·.1)/\(∀e∈es,e∈K)/\far=cb s.k es/\ls=lM [s.n] es
 lst:Lst R z (s.n,s.k) g r
 fg:f<=g
 nw:(s.n,s.k)∉K.map (·.1)
 en:cy R z f s=cy R z g (bO R z s.n s.k)
inductive Wait(R:Rls)(z:Str)(zs:↥Str)(K:Kp)(root:Sp2)(G:Nat):Sp2->Nat->↥As->Nat->Prop where
 |nil {g:Nat}:g<=G->Wait R z zs K root G root g [] 0
 |cons {s:As} {f g gs far m:Nat} {ls:↥Str} {r:Res} {w:Str} {p:↥Str} {rest:↥As}:Frm R z zs K s (f+1) gs far ls r->s.dn=false->s.fm=.comp w p->g<=f->Wait R z zs K root G (s.n,s.k) gs rest m->Wait R z zs K root G (ae p s) g (s::rest) (Tf f+2+m)
def Wait.len{l:↥As}(h:Wait R z zs K root G q g l m):l.length+g<=G:=by
 induction h with
 |nil h=>rw[abA];nofun
 |cons F _ _ b _ a=>have:=F.fg;rw[abX];nofun
def Frm.more(F:Frm R z zs K s f g far ls r)(h:e.1≠(s.n,s.k)):Frm R z zs (K++[e]) s f g far ls r:=by
 obtain⟨es,h1,h2,b⟩:=F.acc;refine{F.go,F.ok,{es,h1,λx a=>aau _ (h2 x a),b},F.lst,F.fg,λy=>?_,F.en};rw[aae] at y;rcases abQ.mp y with y|y
 .exact F.nw y
 .exact h (abR.mp y).symm
def Wait.more{l:↥As}(L:Lst R z e.1 g' r')(h:Wait R z zs K root G q g l m):g'<=g->Wait R z zs (K++[e]) root G q g l m:=by
 induction h with
 |nil h=>exact λ_=>.nil h
 | cons F hd d c _ a=>
  intro b;have:=F.fg;refine .cons (F.more λy=>?_) hd d c (a ());have:=Jp (y ▸ L) F.lst;nofun
theorem uC{zs:↥Str}:∀{es:Kp} {ls:↥Str},ls.Nodup->(∀x∈ls,x∈zs)->(∀e∈es,∀x∈e.2.ls,x∈zs)->(lM ls es).Nodup/\∀x∈lM ls es,x∈zs
 |[],_,h1,h2,_=>{(h1),h2}
 |e::es,ls,h1,h2,a=>uC (es:=es) (ls:=mo ls e.2.ls) (m6 h1) (λx b=>(gP.mp b).elim (h2 x) (a e (aab ..) x)) λd c=>a d (aad _ c)
def uD :cb k (es++[e])=max (cb k es) e.2.far:=by unfold cb;rw[abl];rfl
def yQ :lM ls (es++[e])=mo (lM ls es) e.2.ls:=by unfold lM;rw[abl];rfl
def Frm.take(m:gh R zs)(n:KpOk R z zs K)(F:Frm R z zs K s (f+1) g far ls r)(hd:s.dn=false)(d:s.fm=.comp w p)(i:e∈K)(j:e.1=ae p s) :
  Frm R z zs K (bJ w p s e.2.ln) f g (max far e.2.far) (mo ls e.2.ls) r/\(bJ w p s e.2.ln).n=s.n/\(bJ w p s e.2.ln).k=s.k:=by
 obtain⟨D,E,t,b,k,a⟩:=jl hd F.go;rw[d] at b;cases b;obtain⟨_,_,G,c⟩:=n.ok e i;rw[j] at c;have B:t=e.2:=gz k c;subst B;have T:=n.res m i
 have ok:=iP (x:=e.2.ln) m F.ok hd d λl q=>by
  have:=T.ln l q;rw[j] at this;exact this
 obtain⟨es,h1,h2,c,A⟩:=F.acc;obtain⟨t',o,C,u,q,_⟩:=dE w p s e.2.ln;have en:=F.en;rw[iR hd d k] at en;rw[q] at ok a en ⊢;exact{{a,ok,{es++[e],by rw[aae,h1,← j];rfl,λx v=>(abQ.mp v).elim (h2 x) λy=>by rw[abR.mp y];exact i,by rw[uD,c],by rw[yQ,A]},F.lst,by have:=F.fg;nofun,F.nw,en},rfl,rfl}
def Mn(R:Rls)(z:Str)(zs:↥Str)(K:Kp)(root:Sp2)(G:Nat)(ss:↥(Addr×Addr×As))(m:Nat):Prop:=(ss=[]/\root∈K.map (·.1)) ∨
 ∃a b s rest f g far ls r c mw,ss=(a,b,s)::rest/\Frm R z zs K s f g far ls r/\Wait R z zs K root G (s.n,s.k) g (rest.map (·.2.2)) mw/\(Tf f<=c∨∃d w p,f=d+1/\s.dn=false/\s.fm=.comp w p/\ae p s∈K.map (·.1)/\Tf d+1<=c)/\c+mw<=m
def Wait.stk{ss:↥(Addr×Addr×As)}(h:Wait R z zs K root G q g (ss.map (·.2.2)) m)(c:q∈K.map (·.1)):Mn R z zs K root G ss m:=by
 cases ss with
 |nil=>cases h;exact .inl {(rfl),c}
 | cons t ss=>
  obtain⟨a,b,s⟩:=t
  cases h with
  |@cons _ f g gs far m ls r w p rest F hd d e W=>exact .inr {a,b,s,ss,f+1,gs,far,ls,r,Tf f+2,m,rfl,F,W,.inr {f,w,p,rfl,hd,d,c,()},aac _}
def yR(h:e.1∉K.map (·.1)):ko (kM K) (lL K) (gQ e.1) (yN e.1.2 e.2)=(kM (K++[e]),lL (K++[e])):=by
 unfold ko;rw[if_neg (λy=>h (kA.mp y))];unfold kM lL;rw[aae,aae];rfl
def gA(ks:↥Key)(ds:↥D)(R:Rls):Prop:=∀n,(iD ks ds (.inr n)).getD .non=rlD (R n)
structure MkOk(R:Rls)(z:Str)(zs:↥Str)(n:Str)(k f:Nat):Prop where
 r:gh R zs
 n:n∈zs
 k:k<=z.length
 l:z.length+20<=sizeLine
 s:zs.length*(z.length+1)<sizeLine
 m:zs.length+zs.length<=sizeLine
 f:f<sizeLine
abbrev cL(ks:↥Key)(ds:↥D):OV:=.fz (.dct ks ds)
abbrev m7(K:Kp):OV:=.ft (kM K) (lL K)
@[irreducible] def iT:Ct:=λos P=>∃(ks:↥Key) (ds:↥D) (R:Rls) (z n:Str) (zs:↥Str) (k f:Nat) (K:Kp) (r:Res),os=[cL ks ds,.fz (.str z),m7 K,.fz (.str n),.fz (.int k)]/\gA ks ds R/\MkOk R z zs n k f/\KpOk R z zs K/\rdF R z f n k=↑r /\
 ∀K':Kp,KpOk R z zs (K++K')->((n,k),r)∈K++K'->P (.fl (K'.map λe=>az e.1)) [cL ks ds,.fz (.str z),m7 (K++K'),.fz (.str n),.fz (.int k)]
def iU(g:gA ks ds R)(f:gh R zs)(d:k<=z.length)(c:z.length<=sizeLine)
  (h:∀a b,P (.ob (asA a b (bO R z n k))) [.fz (.dct ks ds),.fz (.str z),.fz (.str n),.fz (.int k)]):dC [.fz (.dct ks ds),.fz (.str z),.fz (.str n),.fz (.int k)] P:=by
 have e:=g n;unfold dC;refine{ks,ds,z,n,k,rfl,d,c,?_};unfold bO at h
 cases hr:R n with
 | leaf l=>
  rw[hr] at e h;exact .inl {l,e,λa b=>by rw[EX];exact h a b}
 | comp w p=>
  rw[hr] at e h;obtain⟨h1,h2,i,_⟩:=f n w p hr;exact .inr {w,p,e,h1,λy=>by rw[y] at h2;simp at h2,i,h}
abbrev Av:Stmt:=top 41
abbrev Jq:FS:=
  (am (b9 5 (gv af))
  (am (fIf (au (fOp aIn (fX (aa (ab 3) (aa (ab 4) af))) (ab 2)))
   (bi (ab 5))
   aH)
  (am (b9 6 (IW (ar dC (aa (fFz (ab 0)) (aa (fFz (ab 1)) (aa (fFz (ab 3)) (aa (fFz (ab 4)) af)))))))
  (am (iw (au (fOp (i8 (λi j=>decide (j<i)) λi j=>a8 j i) (xX 6) (fC (.int 0))))
   (IX 6 7 (am (tT 6 7 (b9 7 (oy 6)))
  (am (fIf (Dc (gF 0 7 6))
   (am (lE 2 (ar e8 (aa (ab 7) (aa (ab 2) af))) (fX (aa (gF 0 7 1) (aa (gF 0 7 2) af))))
  (am (bA (qm 5 (fX (aa (gF 0 7 1) (aa (gF 0 7 2) af)))))
  (am (bA (Em 6))
  Ic)))
   aH)
  (am (bX (dW "wanted" 0 7 aY af) (ac 8))
  (fIf (au (fOp aIn (ab 8) (ab 2)))
   (bA (dW "take" 0 7 bC (aa (fFz (fOp aIx (fOp aIx (ab 2) (ab 8)) (fC (.int 0)))) af)))
   (tT 6 7 (bA (xZ 6 (ar dC (aa (fFz (ab 0)) (aa (fFz (ab 1)) (aa (fFz (fOp aIx (ab 8) (fC (.int 0)))) (aa (fFz (fOp aIx (ab 8) (fC (.int 1)))) af))))))))))))))
  (bi (ab 5))))))
def Jr:Hh iT Jq [2] 9:=by
 intro os P h;unfold iT at h;obtain⟨ks,ds,R,z,n,zs,k,f,K,r,rfl,hD,M,hK,hr,q⟩:=h;have s2:2<=sizeLine:=by rw[sizeLine_eq];decide
 have hzz:=M.l;obtain⟨G,hG,L⟩:=Au (q:=(n,k)) hr;revert{aan _,?_} ay{s2,?_}(al ((n,k)∈K.map (·.1)) (kA (s:=(n,k))) (λv=>?_) (λU=>?_))
 .ext;obtain⟨e,j,O⟩:=abW.mp v
  have hq:=q [] (by rw[aaw];exact hK) (by
   rw[aaw];obtain⟨_,_,o,h'⟩:=hK.ok e j;rw[O] at h';have:e.2=r:=gz h' hr;have N:e=((n,k),r):=by rw[← O,← this]
   exact N ▸ j)
  rw[aaw] at hq;exact hq
 revert(iU hD M.r M.k () λa b=>?_)(cY (λm ρ=>∃(K':Kp) (ss:↥(Addr×Addr×As)) (Q H:Option OV),ρ=[!(cL ks ds),!(.fz (.str z)),!(m7 (K++K')),!(.fz (.str n)),!(.fz (.int k)),!(.fl (K'.map λe=>az e.1)),!(.obs (ss.map λt=>asA t.1 t.2.1 t.2.2)),Q,H]/\KpOk R z zs (K++K')/\Mn R z zs (K++K') (n,k) G ss m) (Tf G) ?_ ?_)
 .refine{[],[(a,b,bO R z n k)],none,none,?_,?_,.inr {a,b,bO R z n k,[],G,G,k,[n],r,Tf G,0,rfl,?_,?_,.inl (aac _),aac _}}
  .rw[aaw];rfl
  .rw[aaw];exact hK
  .rw[aaw];exact{L.rd,fG M.r M.n M.k,{[],ca.2.2,(λ_ y=>nomatch y),ca.2.1.symm,by rw[ca.1];rfl},by rw[ca.1,ca.2.1];exact L,aac _,by rw[ca.1,ca.2.1];exact U,by rw[ca.1,ca.2.1]}
  .rw[ca.1,ca.2.1];exact .nil (aac _)
 rintro m ρ Rr ⟨K',ss,Q,H,rfl,d,S⟩ kk;have on:∀(K2:Kp) (ss:↥(Addr×Addr×As)) (Q H:Option OV) (m':Nat),m'<m->KpOk R z zs (K++K2)->Mn R z zs (K++K2) (n,k) G ss m'->Rr [!(cL ks ds),!(.fz (.str z)),!(m7 (K++K2)),!(.fz (.str n)),!(.fz (.int k)),!(.fl (K2.map λe=>az e.1)),!(.obs (ss.map λt=>asA t.1 t.2.1 t.2.2)),Q,H]:=λK2 ss Q H m' h1 h2 h3=>kk m' _ h1 {(K2),ss,Q,H,rfl,h2,h3};have hKl:=d.len;have hms:=M.s;have hmm:=M.m;rcases S with ⟨rfl,v⟩|⟨a,b,s,rest,o,g,far,ls,B,c,mw,rfl,F,W,hc,hm⟩
 .revert(al _ decide_eq_true_iff (λh=>absurd h (show ¬(0:Int)<((0:Nat):Int) by decide)) (λ_=>?_));ext;obtain⟨e,j,O⟩:=abW.mp v;refine q K' d ?_;obtain⟨_,_,o,h'⟩:=d.ok e j;rw[O] at h';have:e.2=r:=gz h' hr;have N:e=((n,k),r):=by rw[← O,← this]
  exact N ▸ j
 .revert(al _ decide_eq_true_iff (λ_=>?_) (λh=>absurd (show (0:Int)<((_+1:Nat):Int) from ()) h)) ay(al (s.dn=true) Iff.rfl (λhd=>?_) (λhd=>?_))
  .obtain⟨es,h1,h2,h3,h4⟩:=F.acc
   have hrr:B={(s.ln),far,ls}:=by
    have g:=F.go
    cases o with
    |zero=>cases g
    |succ o=>rw[gG hd] at g;exact(aak g).symm
   have D:∀e∈es,ResOk z zs e.1.2 e.2:=λe j=>d.res M.r (h2 e j);have sm:∀l:↥Str,l.Nodup->(∀x∈l,x∈zs)->l.length<=zs.length:=λl a b=>aax a b
   have Z:KpOk R z zs (K++K'++[((s.n,s.k),B)]):={by
    rw[aae];exact ab0.mpr {d.nd,by simp,λx I y hy e=>F.nw (by have N:x=(s.n,s.k):=e.trans (abR.mp hy);rw[← N];exact I)},λe j=>by
    rcases abQ.mp j with y|y
    .exact d.ok e y
    .rw[abR.mp y];exact{F.ok.nz,aar F.ok.kt F.ok.tz,g,F.lst.rd},λe j f3 J x I=>by
    rw[aae];refine aau _ ?_;rcases abQ.mp j with y|y
    .exact d.cl e y f3 J x I
    .rw[abR.mp y] at J I;have en:=F.en;rw[iQ hd] at en;unfold eN at I;rw[Jo J F.lst.rd,← en,h1] at I;obtain⟨e',he',rfl⟩:=abW.mp I;exact abW.mpr {e',h2 e' he',rfl}}
   have ep:ko (kM (K++K')) (lL (K++K')) [.inr s.n,.inl (s.k:Int)] (yN s.k {s.ln,cb s.k es,lM [s.n] es})=(kM (K++K'++[((s.n,s.k),B)]),lL (K++K'++[((s.n,s.k),B)])):=by
    rw[hrr,h3,h4];exact yR (e:=((s.n,s.k),{s.ln,cb s.k es,lM [s.n] es})) F.nw
   have W2:=W.more (e:=((s.n,s.k),B)) F.lst (aac _);revert(yO (s:=s) (K:=K++K') (es:=es) (m:=zs.length) d.nd h1 (λe j=>{h2 e j,(D e j).kf}) (λi=>?_) (λe j=>sm _ (D e j).nd (D e j).sub) hmm ?_)
   .have:=uC (zs:=zs) (es:=es.take i) (ls:=[s.n]) (by simp) (by simpa using F.ok.nz) λe j=>(D e (abm j)).sub;exact sm _ this.1 this.2
   revert{rfl,?_}{s2,?_};ext;rw[abP];refine{(),?_};rw[ep];revert{rfl,?_}{s2,?_};ext;rw[abP];refine{by rw[aag] at hKl;nofun,?_};ext;have eK:K++K'++[((s.n,s.k),B)]=K++(K'++[((s.n,s.k),B)]):=aay ..;rw[eK] at Z W2
   have u:mw<m:=by
    rcases hc with y|⟨_,_,_,_,y,_⟩
    .have g:=F.go
     cases o with
     |zero=>cases g
     |succ o=>have:Tf (o+1)=2*Tf o+3:=rfl;nofun
    .rw[hd] at y;cases y
   have fin:=on (K'++[((s.n,s.k),B)]) rest ↑(.ob {a,0,[.fz (rlD s.fm),.fz (.str s.n),.fz (.int s.k),.fz (.int s.t),.fz (.int s.tn),.fz (.lst (s.st.map az)),.fz (.bl s.dn),.fz (dD s.ln)]}) H mw u Z (W2.stk (by
    rw[← eK,aae];exact aal _ (aab ..)))
   rw[← eK,aae] at fin;exact fin
  .have A:s.dn=false:=ab9.mpr hd;obtain⟨w,p,E,C⟩:=F.ok.tn A;have T:=(M.r s.n w p (F.ok.fm.symm.trans E)).2.2.1;obtain⟨es,h1,h2,h3,h4⟩:=F.acc
   have hst:s.st.length<sizeLine:=by
    have h5:=F.ok.st;have h6:=F.ok.t8;have h7:=F.ok.tz;rw[A,if_neg (by decide)] at h5;nofun
   obtain⟨f2,N⟩:∃f2,o=f2+1:=by
    have g:=F.go
    cases o with
    |zero=>cases g
    |succ o=>exact{(o),rfl}
   subst N;obtain⟨w',p',t,Y,ht,hgo⟩:=jl A F.go;rw[E] at Y;cases Y;revert(.mk (s:=s) E C T ?_) ay(al (ae p s∈(K++K').map (·.1)) (kA (s:=ae p s)) (λv=>?_) (λV=>?_))
   .obtain⟨e,j,O⟩:=abW.mp v;have e1':e.1=ae p s:=O;obtain⟨F2,n2,k2⟩:=F.take M.r d A E j e1'
    have u:Tf f2+mw<m:=by
     have:Tf (f2+1)=2*Tf f2+3:=rfl;rcases hc with y|⟨f3,_,_,y,_,_,_,y2⟩
     .nofun
     .cases y;nofun
    revert(dF (show cI (kM (K++K')) (lL (K++K')) [.inr (ae p s).1,.inl ((ae p s).2:Int)]=↑(yN e.1.2 e.2) from e1' ▸ iS d.nd j) ?_)(.mk (s:=s) E C T F.ok.kt hst ?_){rfl,?_};exact on K' ((a,b,bJ w p s e.2.ln)::rest) none ↑(.fz (az (ae p s))) (Tf f2+mw) u d (.inr {a,b,_,rest,f2,g,_,_,B,Tf f2,mw,rfl,F2,by rw[n2,k2];exact W,.inl (aac _),aac _})
   .obtain⟨g2,X,L2⟩:=Au (q:=ae p s) ht
    have hw:(ae p s).1∈zs:=by
     refine(M.r s.n w p (F.ok.fm.symm.trans E)).2.2.2 _ ?_;show p.getD s.tn "" ∈ p;rw[List.getD_eq_getElem?_getD,List.getElem?_eq_getElem C];exact aaJ C
    have u:Tf g2+(Tf f2+2+mw)<m:=by
     have:Tf (f2+1)=2*Tf f2+3:=rfl;have:=E5 X;rcases hc with y|⟨f3,w',p',_,_,y,y2,_⟩
     .nofun
     .rw[E] at y;cases y;exact absurd y2 V
    have hl:=W.len;have hfg:=F.fg;have hff:=M.f;revert{rfl,?_}(iU hD M.r F.ok.tz () λa2 b2=>?_);ext;rw[abP] at hl;refine{by rw[abX,abP];nofun,?_};revert(on K' ((a2,b2,bO R z (ae p s).1 (ae p s).2)::(a,b,s)::rest) none ↑(.fz (az (ae p s))) _ u d (.inr {a2,b2,_,(a,b,s)::rest,g2,g2,_,_,t,Tf g2,Tf f2+2+mw,rfl,{L2.rd,fG M.r hw F.ok.tz,{[],ca.2.2,(λ_ y=>nomatch y),ca.2.1.symm,by rw[ca.1];rfl},by rw[ca.1,ca.2.1];exact L2,aac _,by rw[ca.1,ca.2.1];exact V,by rw[ca.1,ca.2.1]},by rw[ca.1,ca.2.1];exact .cons F A E X W,.inl (aac _),aac _}))
def E6(b:gA ks ds R)(M:MkOk R z zs n k f)(a:KpOk R z zs K)(hr:rdF R z f n k=!r)
  (h:∀K':Kp,KpOk R z zs (K++K')->((n,k),r)∈K++K'->P (.fl (K'.map λe=>az e.1)) [cL ks ds,.fz (.str z),m7 (K++K'),.fz (.str n),.fz (.int k)]):iT [cL ks ds,.fz (.str z),m7 K,.fz (.str n),.fz (.int k)] P:=by
 unfold iT;exact{(ks),ds,R,z,n,zs,k,f,K,r,rfl,b,M,a,hr,h}
abbrev kB(K:Kp):OV:=.fz (.dt (kM K) (lL K))
@[irreducible] def bv:Ct:=λos P=>∃(ks:↥Key) (ds:↥D) (R:Rls) (z n:Str) (zs:↥Str) (k f:Nat) (K:Kp) (r:Res),os=[cL ks ds,.fz (.str z),kB K,.fz (.str n),.fz (.int k)]/\gA ks ds R/\MkOk R z zs n k f/\KpOk R z zs K/\rdF R z f n k=!r/\((n,k),r)∈K /\
 ∀a b,P (.ob (asA a b (cy R z f (bO R z n k)))) os
abbrev Aw:Stmt:=top 42
abbrev Js:FS:=
  (am (b9 5 (ar dC (aa (fFz (ab 0)) (aa (fFz (ab 1)) (aa (fFz (ab 3)) (aa (fFz (ab 4)) af))))))
  (am (iw (kL (Dc (gF 0 5 6)))
   (bA (dW "take" 0 5 bC (aa (fFz (fOp aIx (fOp aIx (ab 2) (dW "wanted" 0 5 aY af)) (fC (.int 0)))) af))))
  (bi (ab 5))))
def Jt:Hh bv Js [] 6:=by
 intro os P h;unfold bv at h;obtain⟨ks,ds,R,z,n,zs,k,f,K,r,rfl,N,M,A,hr,C,q⟩:=h;have J:=M.l;have F:=A.cl _ C f hr;revert(iU N M.r M.k () λa b=>?_)(cY (λm ρ=>∃(s:As) (far:Nat) (ls:↥Str),ρ=[!(cL ks ds),!(.fz (.str z)),!(kB K),!(.fz (.str n)),!(.fz (.int k)),!(.ob (asA a b s))]/\AsOk R z zs s/\goF R z m s far ls=!r/\cy R z m s=cy R z f (bO R z n k)) f {bO R z n k,k,[n],rfl,fG M.r M.n M.k,hr,rfl} ?_);rintro m ρ Z ⟨s,far,ls,rfl,O,u,en⟩ I;revert(al (s.dn=false) (by cases s.dn <;> decide) (λhd=>?_) (λhd=>?_))
 .obtain⟨g,rfl⟩:∃g,m=g+1:=by
   cases m with
   |zero=>cases u
   |succ g=>exact{(g),rfl}
  obtain⟨w,p,t,d,G,o⟩:=jl hd u;obtain⟨U,V,v,i⟩:=O.tn hd;rw[d] at v;cases v;have j:=(M.r s.n w p (O.fm.symm.trans d)).2.2.1
  have B:s.st.length<sizeLine:=by
   have Q:=O.st;have X:=O.t8;have W:=O.tz;rw[hd,if_neg (by decide)] at Q;nofun
  rw[iR hd d G] at en
  have L:ae p s∈K.map (·.1):=by
   refine F _ ?_;unfold eN;show ae p s∈(cy R z f (bO R z n k)).st;rw[← en];refine ux ?_;obtain⟨_,_,_,_,e,_⟩:=dE w p s t.ln;rw[e];exact aal _ (aab ..)
  obtain⟨e,D,S⟩:=abW.mp L;have c:e.1=ae p s:=S;obtain⟨_,_,Y,x⟩:=A.ok e D;rw[c] at x;have H:e.2=t:=gz x G;have T:=A.res M.r D;revert(.mk (s:=s) d i j ?_)(dF (show cI (kM K) (lL K) [.inr (ae p s).1,.inl ((ae p s).2:Int)]=↑(yN e.1.2 e.2) from c ▸ iS A.nd D) ?_)(.mk (s:=s) d i j O.kt B ?_);ext;rw[H];refine I g _ (aaD _) {bJ w p s t.ln,_,_,rfl,iP M.r O hd d λl y=>?_,o,en};have:=T.ln l (H ▸ y);rw[c] at this;exact this
 .have E:s.dn=true:=by cases h:s.dn with|true=>rfl|false=>exact absurd h hd
  ext;rw[iQ E] at en;rw[en];exact q a b
def E7(e:gA ks ds R)(M:MkOk R z zs n k f)(d:KpOk R z zs K)(hr:rdF R z f n k=!r)(c:((n,k),r)∈K)
  (h:∀a b,P (.ob (asA a b (cy R z f (bO R z n k)))) [cL ks ds,.fz (.str z),kB K,.fz (.str n),.fz (.int k)]):bv [cL ks ds,.fz (.str z),kB K,.fz (.str n),.fz (.int k)] P:=by
 unfold bv;exact{(ks),ds,R,z,n,zs,k,f,K,r,rfl,e,M,d,hr,c,h}
def b8:↥Sp2->↥Sp2->↥Sp2
 |ls,[]=>ls
 |ls,m::a=>b8 (if m∈ls then ls else ls++[m]) a
def jK{ls st:↥Sp2}(h:st[i]?=!q):b8 ls (st.take (i+1))=if q∈b8 ls (st.take i) then b8 ls (st.take i) else b8 ls (st.take i)++[q]:=by
 induction st generalizing ls i with
 |nil=>cases h
 | cons m st a=>
  cases i with
  |zero=>cases h;rfl
  |succ i=>exact a h
theorem iV:∀{ms ls:↥Sp2} {x:Sp2},x∈b8 ls ms↔x∈ls∨x∈ms
 |[],ls,x=>by show x∈ls↔_;simp
 | m::ms,ls,x=>by
  show x∈b8 (if m∈ls then ls else ls++[m]) ms↔_;rw[iV (ms:=ms)];split
  .rename_i a;simp only[List.mem_cons];constructor
   .rintro (h|h)
    .exact .inl h
    .exact .inr (.inr h)
   .rintro (h|h|h)
    .exact .inl h
    .exact .inl (h ▸ a)
    .exact .inr h
  .simp only[List.mem_append,List.mem_cons,List.not_mem_nil,or_false,or_assoc]
theorem fH:∀{ms ls:↥Sp2},(b8 ls ms).length<=ls.length+ms.length
 |[],ls=>by show ls.length<=_;simp
 | m::ms,ls=>by
  have h:=fH (ms:=ms) (ls:=if m∈ls then ls else ls++[m]);show (b8 (if m∈ls then ls else ls++[m]) ms).length<=_;rw[abX];split at h
  .rename_i a;rw[if_pos a];nofun
  .rename_i a;rw[if_neg a];rw[aag,aaQ] at h;nofun
@[irreducible] def cg:Ct:=λos P=>∃(ks:↥Key) (ds:↥D) (R:Rls) (z n:Str) (zs:↥Str) (k f:Nat) (K:Kp) (r:Res),os=[cL ks ds,.fz (.str z),kB K,.fz (.str n),.fz (.int k)]/\gA ks ds R/\MkOk R z zs n k f/\KpOk R z zs K/\rdF R z f n k=!r/\((n,k),r)∈K /\
 P (.fl ((b8 [] (eN R z f (n,k))).map az)) os
abbrev lN:Stmt:=top 43
abbrev uE:FS:=
  (am (b9 5 oC)
  (am (jz (bQ (IY 0 5 (ar bv (aa (fFz (ab 0)) (aa (fFz (ab 1)) (aa (fFz (ab 2)) (aa (fFz (ab 3)) (aa (fFz (ab 4)) af)))))))) (ac 6)
   (lE 5 (fC (.bl true)) (ab 6)))
  (bi (Al (ab 5)))))
def uF{ls:↥Sp2}:ko (ls.map gQ) (ls.map λ_=>D.bl true) (gQ q) (.bl true)=((if q∈ls then ls else ls++[q]).map gQ,(if q∈ls then ls else ls++[q]).map λ_=>D.bl true):=by
 have b:qq (ls.map gQ) (gQ q)=true↔q∈ls:=by
  unfold qq;rw[aaK];constructor
  .rintro⟨x,e,h⟩;obtain⟨y,d,rfl⟩:=abW.mp e;exact gR (of_decide_eq_true h) ▸ d
  .intro h;exact{_,abW.mpr {(q),h,rfl},decide_eq_true rfl}
 unfold ko;by_cases h:q∈ls
 .rw[if_pos (b.mpr h),if_pos h]
  congr 1
  clear b h
  induction ls with
  |nil=>rfl
  | cons a ls c=>
   simp only[List.map_cons,List.zip_cons_cons];rw[c]
   congr 1
   split <;> rfl
 .rw[if_neg (λy=>h (b.mp y)),if_neg h,aae,aae];rfl
def uG:Hh cg uE [] 7:=by
 intro os P h;unfold cg at h;obtain⟨ks,ds,R,z,n,zs,k,f,K,r,rfl,t,M,s,hr,j,q⟩:=h;have o:=M.l;revert(E7 t M s hr j λa b=>?_);have O:=oN (f:=f) M.r (fG (z:=z) M.r M.n M.k)
 have g:(cy R z f (bO R z n k)).st.length<sizeLine:=by
  have w:=O.st;have v:=O.t8;have u:=O.tz;have:(if (cy R z f (bO R z n k)).dn=true then 1 else 0)<=1:=by split <;> nofun
  nofun
 have l:P (.fl ((b8 [] (cy R z f (bO R z n k)).st).map az)) [cL ks ds,.fz (.str z),kB K,.fz (.str n),.fz (.int k)]:=q;ext;generalize (cy R z f (bO R z n k)).st=st at g l ⊢;refine aW (λi ρ=>∃x:Option OV,ρ=[!(cL ks ds),!(.fz (.str z)),!(kB K),!(.fz (.str n)),!(.fz (.int k)),!(.ft ((b8 [] (st.take i)).map gQ) ((b8 [] (st.take i)).map λ_=>.bl true)),x]) {(none),rfl} ?_ ?_
 .rintro i d ρ y hd ⟨x,rfl⟩ m;rw[List.getElem?_map] at hd
  cases c:st[i]? with
  |none=>rw [c] at hd;cases hd
  | some e=>
   rw[c] at hd;cases hd;have hi:=(List.getElem?_eq_some_iff.mp c).1;have p:=fH (ms:=st.take i) (ls:=[]);rw[aao,abA] at p;revert{rfl,?_};ext;rw[abP];refine{(),?_};rw[show ko ((b8 [] (st.take i)).map gQ) ((b8 [] (st.take i)).map λ_=>D.bl true) [.inr e.1,.inl (e.2:Int)] (.bl true)=_ from uF (q:=e),← jK c];exact m _ {_,rfl}
 .rintro ρ ⟨x,rfl⟩;rw[abP,aai (aac _)];ext;rw[aav];exact l
def qF(c:gA ks ds R)(M:MkOk R z zs n k f)(b:KpOk R z zs K)(hr:rdF R z f n k=!r)(a:((n,k),r)∈K)
  (h:P (.fl ((b8 [] (eN R z f (n,k))).map az)) [cL ks ds,.fz (.str z),kB K,.fz (.str n),.fz (.int k)]):cg [cL ks ds,.fz (.str z),kB K,.fz (.str n),.fz (.int k)] P:=by
 unfold cg;exact{(ks),ds,R,z,n,zs,k,f,K,r,rfl,c,M,b,hr,a,h}
inductive c5:Ct
 |mk {i:Int} {P:Pk} (h:P (.fz (.bl true)) [.fz (.int i)]):c5 [.fz (.int i)] P
abbrev lO:Stmt:=top 44
abbrev uH:FS:=
  (bi (fW (fCB cIs (aa (ab 0) (aa (fC (.ty "int")) af))) (C9 (fCB cIs (aa (ab 0) (aa (fC (.ty "bool")) af))))))
def uI:Hh c5 uH [] 1:=by
 intro os P h;obtain@⟨i,_,q⟩:=h;revert{{(rfl),rfl},?_} cw{{(rfl),rfl},?_}(q)
inductive c6:Ct
 |mk {z:Str} {k:Nat} {P:Pk} (hk:k<=z.length) (hz:z.length<=sizeLine) (h:P (.fz (.bl true)) [.fz (.str z),.fz (.int k)]):c6 [.fz (.str z),.fz (.int k)] P
abbrev lP:Stmt:=top 45
abbrev uJ:FS:=
  (bi (fW (ar c5 (aa (fFz (ab 1)) af)) (jy (i8 (λi j=>decide (i<=j)) λi j=>⇑(a8 j i)) (i8 (λi j=>decide (i<=j)) λi j=>⇑(a8 j i)) (fC (.int 0)) (ab 1) (fCB eR (aa (ab 0) af)))))
def uK:Hh c6 uJ [] 2:=by
 intro os P h;obtain@⟨z,k,_,b,a,q⟩:=h;revert(.mk ?_) cw(al (0<=(k:Int)) decide_eq_true_iff (λ_=>?_) (λh=>absurd (Int.natCast_nonneg k) h)){a,?_};ext;show P (.fz (.bl (decide ((k:Int)<=(z.length:Int))))) _;rw[decide_eq_true (Int.ofNat_le.mpr b)];exact q
def uL(h:(gw z)[i]?=!d):∃c,z.cps.toList[i]?=!c/\d=.str {#[c]}:=by
 unfold gw at h;rw[List.getElem?_map,aaj] at h;obtain⟨r,h1,h2⟩:=h;exact{(r),h1,h2.symm}
def uM(z:Str):z.length=z.cps.toList.length:=by rw[abZ];rfl
abbrev kC:Str := "abcdefghijklmnopqrstuvwxyz"
def m9 :c∈kC.cps.toList↔97<=c/\c<=122:=by
 have e:kC.cps.toList=List.range' 97 26:=∅
 rw[e,List.mem_range'_1];nofun
def tru(i:Nat):↥D:=(List.replicate i true).map .bl
def eO :tru i++[.bl true]=tru (i+1):=by
 unfold tru;rw[List.replicate_succ',aae];rfl
def gi :(tru i).length=i:=by unfold tru;simp
theorem jL{Q:↥Bool->Prop}(q:Q (List.replicate i true)):match gE (tru i) with
  |some zs=>Q zs
  |none=>False:=iH q
def gj :((List.replicate i true).all id)=true:=by simp
inductive cr:Ct
 |mk {z:Str} {P:Pk} (hz:dX z) (h:P (.fz (.bl true)) [.fz (.str z)]):cr [.fz (.str z)] P
abbrev oP:Stmt:=top 17
abbrev yS:FS:=
  (am (fIf (kL (dU (fCB cIs (aa (ab 0) (aa (fC (.ty "str")) af)))))
   (bi (fC (.bl false)))
   aH)
  (am (fIf (kL (au (jy (i8 (λi j=>decide (i<=j)) λi j=>⇑(a8 j i)) (i8 (λi j=>decide (i<=j)) λi j=>⇑(a8 j i)) (fC (.int 1)) (fCB eR (aa (ab 0) af)) (fC (.int 8)))))
   (bi (fC (.bl false)))
   aH)
  (bi (fCB vU (aa (bT [] 1 (Dl (ab 0)) (ac 0) jh (fOp aIn (ab 0) (fC (.str "abcdefghijklmnopqrstuvwxyz")))) af)))))
def yT:Hh cr yS [] 1:=by
 intro os P h;obtain@⟨z,_,⟨l,j,e⟩,q⟩:=h;have sz:=dB;have g:=uM z;revert ay{{(rfl),rfl},?_} cP ay{(),?_}(al ((1:Int)<=z.length) decide_eq_true_iff (λh1=>?_) (λh1=>absurd () h1))(al (¬(z.length:Int)<=8) (by rw[aaV,decide_eq_false_iff_not]) (λh2=>absurd () h2) (λh2=>?_))(aL (λi as ρ=>∃(x:Option OV),as=tru i/\ρ=[x,!(.fz (.str z))]) {(none),rfl,rfl} ?_ ?_)
 .rintro i d as ρ R hd ⟨x,rfl,rfl⟩ k;obtain⟨c,a,rfl⟩:=uL hd;have hi:=(List.getElem?_eq_some_iff.mp a).1;have f:decide (c∈kC.cps.toList)=true:=decide_eq_true (m9.mpr (e c (List.mem_of_getElem? a)));revert cw{by rw[gi];nofun,k _ _ {_,?_,rfl}};rw[← eO];exact congrArg (λb=>tru i++[D.bl b]) f
 .rintro as ρ ⟨x,rfl,rfl⟩;revert jL;ext;rw[gj];exact q
def uN{a b:Nat}:a8 {#[a]} {#[b]}=decide (a<b):=by
 unfold a8;rw[decide_eq_decide];simp[List.cons_lt_cons_iff]
def e_32:Str.ofString " " = {#[32]}:=-∅
def Mo:Str.ofString "~" = {#[126]}:=-∅
def Mp :(⇑(a8 {#[c]} (Str.ofString " ")))=true↔32<=c:=by
 rw[e_32,uN,aaV,decide_eq_false_iff_not];nofun
def Ju :(⇑(a8 (Str.ofString "~") {#[c]}))=true↔c<=126:=by
 rw[Mo,uN,aaV,decide_eq_false_iff_not];nofun
def Jv(z:Str):Prop:=∀c∈z.cps.toList,32<=c/\c<=126/\c≠37
inductive eB:Ct
 |mk {c:Nat} {P:Pk} (hc:32<=c/\c<=126/\c≠37) (h:P (.fz (.bl true)) [.fz (.str ⟨#[c]⟩)]):eB [.fz (.str ⟨#[c]⟩)] P
abbrev oQ:Stmt:=top 18
abbrev yU:FS:=
  (bi (fW (jy (i8 (λi j=>decide (i<=j)) λi j=>⇑(a8 j i)) (i8 (λi j=>decide (i<=j)) λi j=>⇑(a8 j i)) (fC (.str " ")) (ab 0) (fC (.str "~"))) (fOp aNe (fCB L1 (aa (ab 0) af)) (fC (.int 37)))))
def yV:Hh eB yU [] 1:=by
 intro os P h;obtain@⟨c,_,⟨d,b,a⟩,q⟩:=h;revert(al (32<=c) Mp (λ_=>?_) (λh=>absurd d h))(al (c<=126) Ju (λ_=>?_) (λh=>absurd b h)){aS,?_};ext;rw[show dEq (.int (c:Int)) (.int 37)=false from ab9.mpr λe=>a (Int.ofNat.inj (bM.mp e))];exact q
inductive c7:Ct
 |mk {z:Str} {P:Pk} (hz:z.length<sizeLine) (ht:Jv z) (h:P (.fz (.bl true)) [.fz (.str z)]):c7 [.fz (.str z)] P
abbrev oR:Stmt:=top 19
abbrev yY:FS:=
  (bi (fW (fCB cIs (aa (ab 0) (aa (fC (.ty "str")) af))) (fCB vU (aa (bT [] 1 (Dl (ab 0)) (ac 0) jh (ar eB (aa (fFz (ab 0)) af))) af))))
def yZ:Hh c7 yY [] 1:=by
 intro os P h;obtain@⟨z,_,f,b,q⟩:=h;have e:=uM z;revert{{(rfl),rfl},?_} cw(aL (λi as ρ=>∃(x:Option OV),as=tru i/\ρ=[x,!(.fz (.str z))]) {(none),rfl,rfl} ?_ ?_)
 .rintro i d as ρ R hd ⟨x,rfl,rfl⟩ k;obtain⟨c,a,rfl⟩:=uL hd;have hi:=(List.getElem?_eq_some_iff.mp a).1;revert cw(.mk (b c (List.mem_of_getElem? a)) ?_){by rw[gi];nofun,k _ _ {_,eO,rfl}}
 .rintro as ρ ⟨x,rfl,rfl⟩;revert jL;ext;rw[gj];exact q
inductive bf:Ct
 |mk {z:Str} {P:Pk} (hz:dP z) (h:P (.fz (.bl true)) [.fz (.str z)]):bf [.fz (.str z)] P
abbrev oS:Stmt:=top 20
abbrev y0:FS:=
  (am (fIf (kL (dU (ar c7 (aa (fFz (ab 0)) af))))
   (bi (fC (.bl false)))
   aH)
  (am (fIf (kL (au (jy (i8 (λi j=>decide (i<=j)) λi j=>⇑(a8 j i)) (i8 (λi j=>decide (i<=j)) λi j=>⇑(a8 j i)) (fC (.int 1)) (fCB eR (aa (ab 0) af)) (fC (.int 40)))))
   (bi (fC (.bl false)))
   aH)
  (bi (fCB vU (aa (bT [0] 1 (sT (aa (fC (.int 1)) (aa (fCB eR (aa (ab 0) af)) af))) (ac 0) jh (fOp (i8 (λi j=>decide (i<j)) a8) (fOp aIx (ab 1) (fOp (aI0 λi j=>.int (i - j)) (ab 0) (fC (.int 1)))) (fOp aIx (ab 1) (ab 0)))) af)))))
def y4:Hh bf y0 [] 1:=by
 intro os P h;obtain@⟨z,_,⟨l,j,c,b⟩,q⟩:=h;have sz:=dB;have e:=uM z;revert ay(.mk () b ?_) cP ay{(),?_}(al ((1:Int)<=z.length) decide_eq_true_iff (λh1=>?_) (λh1=>absurd () h1))(al (¬(z.length:Int)<=40) (by rw[aaV,decide_eq_false_iff_not]) (λh2=>absurd () h2) (λh2=>?_)){(),?_}{{(),(),(),()},?_}(aL (λi as ρ=>∃(x:Option OV),as=tru i/\ρ=[x,!(.fz (.str z))]) {(none),rfl,rfl} ?_ ?_)
 .rintro i d as ρ R hd ⟨x,rfl,rfl⟩ k;obtain⟨hi,rfl⟩:=bh hd;have a:i+1<z.cps.toList.length:=()
  have g1:z.cps.toList[i]?=!(z.cps.toList[i]'()):=List.getElem?_eq_getElem _;have g2:z.cps.toList[i+1]?=!(z.cps.toList[i+1]'a):=List.getElem?_eq_getElem _
  have g:atI z.cps.toList ((1:Int)+i - 1)=!(z.cps.toList[i]'()):=by
   rw[show (1:Int)+i - 1=((i:Nat):Int) from ()];exact cE g1
  have f:atI z.cps.toList ((1:Int)+i)=!(z.cps.toList[i+1]'a):=by
   rw[show (1:Int)+i=((i+1:Nat):Int) from ()];exact cE g2
  revert cw{(),?_};rw[g];revert{(),?_};rw[f];revert{by rw[gi];nofun,k _ _ {_,?_,rfl}};rw[uN,decide_eq_true (ab7.mp c i (i+1) () a (aaD i))];exact eO
 .rintro as ρ ⟨x,rfl,rfl⟩;revert jL;ext;rw[gj];exact q
inductive eC:Ct
 |mk {word:Str} {rest:↥Str} {P:Pk} (hf:iO word rest) (h:P (.fz (.bl true)) [.fz (aG word rest)]):eC [.fz (aG word rest)] P
def uO{x:α}{r:↥α}:fR (x::r) ↑1 none=r:=by
 unfold fR;rw[show HT.sIx (x::r).length 0 ↑1=1 from by show min 1 (r.length+1)=1;nofun,HT.sIx_none];simp
abbrev oT:Stmt:=top 21
abbrev y6:FS:=
  (am (fIf (fOr (kL (dU (fCB cIs (aa (ab 0) (aa (fC (.ty "tuple")) af))))) (au (fOp aEq (fCB eR (aa (ab 0) af)) (fC (.int 0)))))
   (bi (fC (.bl false)))
   aH)
  (am (bX (fOp aIx (ab 0) (fC (.int 0))) (ac 1))
  (am (fIf (kL (dU (fCB cIs (aa (ab 1) (aa (fC (.ty "str")) af)))))
   (bi (fC (.bl false)))
   aH)
  (am (fIf (au (fOp aIn (ab 1) (fC (.gt [.str "none", .str "any"]))))
   (bi (fOp aEq (fCB eR (aa (ab 0) af)) (fC (.int 1))))
   aH)
  (am (fIf (au (fOp aEq (ab 1) (fC (.str "signs"))))
   (bi (fW (fOp aEq (fCB eR (aa (ab 0) af)) (fC (.int 2))) (ar bf (aa (fFz (fOp aIx (ab 0) (fC (.int 1)))) af))))
   aH)
  (am (fIf (au (fOp aIn (ab 1) (fC (.gt [.str "again", .str "ahead", .str "not"]))))
   (bi (fW (fOp aEq (fCB eR (aa (ab 0) af)) (fC (.int 2))) (ar cr (aa (fFz (fOp aIx (ab 0) (fC (.int 1)))) af))))
   aH)
  (am (fIf (au (fOp aIn (ab 1) (fC (.gt [.str "row", .str "first"]))))
   (bi (fW (jy (i8 (λi j=>decide (i<=j)) λi j=>⇑(a8 j i)) (i8 (λi j=>decide (i<=j)) λi j=>⇑(a8 j i)) (fC (.int 1)) (fOp (aI0 λi j=>.int (i - j)) (fCB eR (aa (ab 0) af)) (fC (.int 1))) (fC (.int 8))) (fCB vU (aa (bT [] 1 (sS (fSl L7 (ab 0) (ir (fC (.int 1))) cH)) (ac 0) jh (ar cr (aa (fFz (ab 0)) af))) af))))
   aH)
  (bi (fC (.bl false))))))))))
def Mq{l:↥α}(h:l.length=1):∃x,l=[x]:=-List.length_eq_one_iff.mp h
def y8:Hh eC y6 [] 2:=by
 intro os P h;obtain@⟨word,rest,_,⟨zs,f,c⟩,q⟩:=h;have sz:=dB;revert ay{{(rfl),rfl},?_} cP{aS,?_}(al False {λh=>by have e:(((rest.map D.str).length+1:Nat):Int)=0:=bM.mp h;nofun,False.elim} False.elim (λ_=>?_)) bN ay{{(rfl),rfl},?_} cP ay{{(rfl),rfl},?_}(al (word = "none" ∨ word = "any") ((b6 (zs:=["none", "any"])).trans (by simp)) (λa=>?_) (λh1=>?_))
 .have e:rest=[]:=by
   rcases c with ⟨_,h⟩|⟨h,_⟩|⟨h,_⟩|⟨h,_⟩
   .exact h
   all_goals (rcases a with rfl|rfl <;> exact absurd h (by decide))
  subst e;revert{aS,?_}(q)
 .revert ay{ai,?_}(al (word = "signs") aq (λa=>?_) (λh2=>?_))
  .obtain⟨z,rfl,b⟩:∃z,rest=[z]/\dP z:=by
    rcases c with ⟨h,_⟩|⟨_,h⟩|⟨h,_⟩|⟨h,_⟩
    .exact absurd h h1
    .exact h
    all_goals (rw[a] at h;exact absurd h (by decide))
   revert{aS,?_} cw(.mk b ?_)(q)
  .revert ay{{(rfl),rfl},?_}(al (word = "again" ∨ word = "ahead" ∨ word = "not") ((b6 (zs:=["again", "ahead", "not"])).trans (by simp)) (λa=>?_) (λm=>?_))
   .obtain⟨z,rfl,b⟩:∃z,rest=[z]/\dX z:=by
     rcases c with ⟨h,_⟩|⟨h,_⟩|⟨_,h,g⟩|⟨h,_⟩
     .exact absurd h h1
     .exact absurd h h2
     .obtain⟨z,rfl⟩:=Mq h;exact{z,rfl,f z (g z (abR.mpr rfl))}
     .rcases a with rfl|rfl|rfl <;> exact absurd h (by decide)
    revert{aS,?_} cw(.mk b ?_)(q)
   .obtain⟨a,o,n,j⟩:(word = "row" ∨ word = "first")/\1<=rest.length/\rest.length<=8/\∀z∈rest,z∈zs:=by
     rcases c with ⟨h,_⟩|⟨h,_⟩|⟨h,_⟩|h
     .exact absurd h h1
     .exact absurd h h2
     .exact absurd h m
     .exact h
    have p:(rest.map D.str).length=rest.length:=abP ..;revert ay{{(rfl),rfl},?_}(al (word = "row" ∨ word = "first") ((b6 (zs:=["row", "first"])).trans (by simp)) (λa=>?_) (λl=>absurd a l));ext;rw[List.length_cons];refine al ((1:Int)<=(((rest.map D.str).length+1:Nat):Int) - 1) decide_eq_true_iff (λg1=>?_) (λg1=>absurd () g1);revert(al ((((rest.map D.str).length+1:Nat):Int) - 1<=8) decide_eq_true_iff (λg2=>?_) (λg2=>absurd () g2));ext;rw[uO];revert(aL (λi as ρ=>∃(x y:Option OV),as=tru i/\ρ=[x,!(.fz (aG word rest)),y]) {none,_,rfl,rfl} ?_ ?_)
    .rintro i d as ρ R hd ⟨x,y,rfl,rfl⟩ k;rw[List.getElem?_map,aaj] at hd;obtain⟨z,b,rfl⟩:=hd;have hi:=(List.getElem?_eq_some_iff.mp b).1;revert cw(.mk (f z (j z (List.mem_of_getElem? b))) ?_){by rw[gi];nofun,k _ _ {_,_,eO,rfl}}
    .rintro as ρ ⟨x,y,rfl,rfl⟩;revert jL;ext;rw[gj];exact q
def Jw(r:Rw):Prop:=dX r.1/\iO r.2.1 r.2.2
inductive eD:Ct
 |mk {r:Rw} {P:Pk} (hr:Jw r) (h:P (.fz (.bl true)) [.fz (fj r)]):eD [.fz (fj r)] P
abbrev oU:Stmt:=top 25
abbrev y9:FS:=
  (am (fIf (fOr (kL (dU (fCB cIs (aa (ab 0) (aa (fC (.ty "tuple")) af))))) (au (fOp aNe (fCB eR (aa (ab 0) af)) (fC (.int 2)))))
   (bi (fC (.bl false)))
   aH)
  (bi (fW (ar cr (aa (fFz (fOp aIx (ab 0) (fC (.int 0)))) af)) (ar eC (aa (fFz (fOp aIx (ab 0) (fC (.int 1)))) af)))))
def za:Hh eD y9 [] 1:=by
 intro os P h;obtain@⟨⟨n,word,rest⟩,_,⟨a,b⟩,q⟩:=h;revert ay{{(rfl),rfl},?_} cP{aS,?_} cP(.mk a ?_) cw(.mk b ?_)(q)
abbrev fI(rows:↥Rw):D:=.lst (rows.map fj)
def Mr(rows:↥Rw):Prop:=∀i r s,rows[i]?=!r->rows[i+1]?=!s->a8 r.1 s.1=true
inductive cu:Ct
 |mk {rows:↥Rw} {P:Pk} (hl:rows.length<=1000) (hr:Mr rows) (h:P (.fz (.bl true)) [.fz (fI rows)]):cu [.fz (fI rows)] P
abbrev uP:Stmt:=top 26
abbrev E8:FS:=
  (bi (fCB vU (aa (bT [0] 1 (sT (aa (fC (.int 1)) (aa (fCB eR (aa (ab 0) af)) af))) (ac 0) jh (fOp (i8 (λi j=>decide (i<j)) a8) (fOp aIx (fOp aIx (ab 1) (fOp (aI0 λi j=>.int (i - j)) (ab 0) (fC (.int 1)))) (fC (.int 0))) (fOp aIx (fOp aIx (ab 1) (ab 0)) (fC (.int 0))))) af)))
def E9:Hh cu E8 [] 1:=by
 intro os P h;obtain@⟨rows,_,f,hr,q⟩:=h;have sz:=dB;have b:(rows.map fj).length=rows.length:=abP ..;revert{{(),(),(),()},?_}(aL (λi as ρ=>∃(x:Option OV),as=tru i/\ρ=[x,!(.fz (fI rows))]) {(none),rfl,rfl} ?_ ?_)
 .rintro i d as ρ R hd ⟨x,rfl,rfl⟩ k;obtain⟨hi,rfl⟩:=bh hd;have a:i+1<rows.length:=()
  have g1:rows[i]?=!(rows[i]'()):=List.getElem?_eq_getElem _;have g2:rows[i+1]?=!(rows[i+1]'a):=List.getElem?_eq_getElem _
  have e:atI (rows.map fj) ((1:Int)+i - 1)=!(fj (rows[i]'())):=by
   rw[show (1:Int)+i - 1=((i:Nat):Int) from ()];exact cE (by rw[List.getElem?_map,g1];rfl)
  have c:atI (rows.map fj) ((1:Int)+i)=!(fj (rows[i+1]'a)):=by
   rw[show (1:Int)+i=((i+1:Nat):Int) from ()];exact cE (by rw[List.getElem?_map,g2];rfl)
  revert cw;ext;rw[e];ext;rw[c];revert{by rw[gi];nofun,k _ _ {_,?_,rfl}};rw[hr i _ _ g1 g2];exact eO
 .rintro as ρ ⟨x,rfl,rfl⟩;revert jL;ext;rw[gj];exact q
inductive eF:Ct
 |mk {rows:↥Rw} {P:Pk} (hl:rows.length<=1000) (ho:∀r∈rows,Jw r) (hr:Mr rows) (h:P (.fz (.bl true)) [.fz (fI rows)]):eF [.fz (fI rows)] P
abbrev oV:Stmt:=top 27
abbrev zb:FS:=
  (am (fIf (kL (dU (fCB cIs (aa (ab 0) (aa (fC (.ty "list")) af)))))
   (bi (fC (.bl false)))
   aH)
  (bi (fW (fCB vU (aa (bT [] 1 (bQ (ab 0)) (ac 0) jh (ar eD (aa (fFz (ab 0)) af))) af)) (ar cu (aa (fFz (ab 0)) af)))))
def zc:Hh eF zb [] 1:=by
 intro os P h;obtain@⟨rows,_,c,b,hr,q⟩:=h;have sz:=dB;revert ay{{(rfl),rfl},?_} cP(aL (λi as ρ=>∃(x:Option OV),as=tru i/\ρ=[x,!(.fz (fI rows))]) {(none),rfl,rfl} ?_ ?_)
 .rintro i d as ρ R hd ⟨x,rfl,rfl⟩ k;rw[List.getElem?_map,aaj] at hd;obtain⟨r,a,rfl⟩:=hd;have hi:=(List.getElem?_eq_some_iff.mp a).1;revert cw(.mk (b r (List.mem_of_getElem? a)) ?_){by rw[gi];nofun,k _ _ {_,eO,rfl}}
 .rintro as ρ ⟨x,rfl,rfl⟩;revert jL;ext;rw[gj];refine cw ?_;revert(.mk c hr ?_)(q)
def qP(word:Str):Prop:=word = "none" ∨ word = "again" ∨ word = "ahead" ∨ word = "not"
def Fa(zs:↥Str)(word:Str)(rest:↥Str):Prop:=(word = "row" /\ ∀z∈rest,z∈zs)∨(word = "first" /\ ∃z∈rest,z∈zs)∨qP word
inductive Emp(rows:↥Rw):Str->Prop where
 |base {r:Rw}:r∈rows->qP r.2.1->Emp rows r.1
 |row {r:Rw}:r∈rows->r.2.1 = "row" -> (∀z∈r.2.2,Emp rows z)->Emp rows r.1
 |first {r:Rw} {z:Str}:r∈rows->r.2.1 = "first" -> z∈r.2.2->Emp rows z->Emp rows r.1
def uQ(rows:↥Rw)(zs:↥Str):Prop:=∀r∈rows,Fa zs r.2.1 r.2.2->r.1∈zs
def Emp.mem(c:uQ rows zs)(h:Emp rows z):z∈zs:=by
 induction h with
 |base h e=>exact c _ h (.inr (.inr e))
 |row h e _ a=>exact c _ h (.inl {(e),a})
 |first h e m _ a=>exact c _ h (.inr (.inl {e,_,m,a}))
def Emp.of(h:∀z∈zs,Emp rows z){r:Rw}(hr:r∈rows)(m:Fa zs r.2.1 r.2.2):Emp rows r.1:=by
 rcases m with ⟨e,a⟩|⟨e,z,b,a⟩|e
 .exact .row hr e λz b=>h z (a z b)
 .exact .first hr e b (h z a)
 .exact .base hr e
structure Walk1(rows:↥Rw)(zs0 zs:↥Str)(i:Nat):Prop where
 nd:zs.Nodup
 emp:∀z∈zs,Emp rows z
 sub:∀z∈zs,z∈rows.map (·.1)
 grow:(zs=zs0/\∀r∈rows.take i,Fa zs0 r.2.1 r.2.2->r.1∈zs0)∨zs0.length<zs.length
def Walk1.start(nd:zs.Nodup)(emp:∀z∈zs,Emp rows z)(sub:∀z∈zs,z∈rows.map (·.1)):Walk1 rows zs zs 0:=-{nd,emp,sub,.inl {rfl,λr h=>by simp at h}}
def oW{l:↥α}{r a:α}(h:l[i]?=!a)(hr:r∈l.take (i+1)):r∈l.take i∨r=a:=by
 rw[aap,h] at hr;simpa using hr
def Walk1.add{r:Rw}(W:Walk1 rows zs0 zs i)(hr:rows[i]?=!r)(c:r.1∉zs)(m:Fa zs r.2.1 r.2.2):Walk1 rows zs0 (zs++[r.1]) (i+1):=by
 have a:=List.mem_of_getElem? hr;refine{KS.nodup_snoc W.nd c,λz b=>?_,λz b=>?_,.inr ?_}
 .rcases abQ.mp b with h|h
  .exact W.emp z h
  .have:z=r.1:=(by exists h);rw[this];exact Emp.of W.emp a m
 .rcases abQ.mp b with h|h
  .exact W.sub z h
  .have:z=r.1:=(by exists h);rw[this];exact abW.mpr {(r),a,rfl}
 .rw[aag,aaQ];rcases W.grow with ⟨e,_⟩|h
  .rw[e];nofun
  .nofun
def Walk1.skip{r:Rw}(W:Walk1 rows zs0 zs i)(hr:rows[i]?=!r)(h:Fa zs r.2.1 r.2.2->r.1∈zs):Walk1 rows zs0 zs (i+1):=by
 refine{W.nd,W.emp,W.sub,?_};rcases W.grow with ⟨e,g⟩|g
 .refine .inl {e,λr' a m=>?_};rcases oW hr a with z|z
  .exact g r' z m
  .subst z;subst e;exact h m
 .exact .inr g
def Walk1.len(W:Walk1 rows zs0 zs i):zs.length<=rows.length:=by
 have:=aax W.nd W.sub
 rwa [abP] at this
inductive bK:Ct
 |mk {word:Str} {rest zs:↥Str} {ds:↥D} {P:Pk} (hf:iO word rest) (h:∀b:Bool,(b=true↔Fa zs word rest)->P (.fz (.bl b)) [.fz (aG word rest),.fd (zs.map Sum.inr) ds]):bK [.fz (aG word rest),.fd (zs.map Sum.inr) ds] P
@[irreducible] def bj:Ct:=λos P=>∃rows:↥Rw,os=[.fz (.lst (rows.map fj))]/\BookL rows/\∀(zs:↥Str) (ds:↥D),zs.Nodup->(∀z,z∈zs↔Emp rows z)->zs.length<=30->P (.fd (zs.map Sum.inr) ds) os
section
variable {P:Program} {w:World} {K:Frag}  
abbrev Jx:Stmt:=top 28
abbrev Ms:FS:=
  (am (fIf (au (fOp aEq (fOp aIx (ab 0) (fC (.int 0))) (fC (.str "row"))))
   (bi (fCB vU (aa (bT [1] 1 (bQ (ar bB (aa (fFz (ab 0)) af))) (ac 0) jh (fOp aIn (ab 0) (ab 2))) af)))
   aH)
  (am (fIf (au (fOp aEq (fOp aIx (ab 0) (fC (.int 0))) (fC (.str "first"))))
   (bi (fCB F6 (aa (bT [1] 1 (bQ (ar bB (aa (fFz (ab 0)) af))) (ac 0) jh (fOp aIn (ab 0) (ab 2))) af)))
   aH)
  (bi (fOp aIn (fOp aIx (ab 0) (fC (.int 0))) (fC (.gt [.str "none", .str "again", .str "ahead", .str "not"]))))))
def iW{rest:↥Str}(h:iO word rest):rest.length<=8:=by
 obtain⟨zs,_,h⟩:=h;rcases h with ⟨_,rfl⟩|⟨_,z,rfl,_⟩|⟨_,h,_⟩|⟨_,_,h,_⟩
 .simp
 .simp
 .nofun
 .exact h
def Mt:Hh bK Ms [1] 2:=by
 intro os P h;obtain@⟨word,rest,zs,ds,_,j,q⟩:=h;have sz:=dB;have l:=iW j
 have g:(bU word rest).length<=8:=by
  unfold bU;split
  .simp
  .exact l
 revert ay bN{ai,?_}(al (word = "row") aq (λc=>?_) (λc=>?_))
 .have f:bU word rest=rest:=by unfold bU;rw[if_neg (by rw[c];decide)]
  revert(.mk ?_);rw[f];revert(aL (λi as ρ=>∃x:Option OV,as=(rest.take i).map (λz=>D.bl (qp (zs.map Sum.inr) (.inr z)))/\ρ=[x,!(.fz (aG word rest)),!(.fd (zs.map Sum.inr) ds)]) {none,by simp,rfl} ?_ ?_)
  .rintro i d as ρ R hd ⟨x,rfl,rfl⟩ k
   obtain⟨z,a,rfl⟩:∃z,rest[i]?=!z/\d=.str z:=by
    rw[List.getElem?_map,aaj] at hd;obtain⟨z,h1,h2⟩:=hd;exact{(z),h1,h2.symm}
   revert cw{by rw[abP,aao];nofun,k _ _ {!(.fz (.str z)),by rw[aap,a,aae];rfl,rfl}}
  .rintro as ρ ⟨x,rfl,rfl⟩;rw[abP,aai (aac _)];have e:rest.map (λz=>D.bl (qp (zs.map Sum.inr) (.inr z)))=(rest.map λz=>qp (zs.map Sum.inr) (.inr z)).map D.bl:=by rw[aav];rfl
   rw[e];revert iH(q _ ?_);rw[List.all_map,abM];constructor
   .intro h;exact .inl {c,λz a=>bm.mp (h z a)}
   .rintro (⟨_,h⟩|⟨e,_⟩|e) z a
    .exact bm.mpr (h z a)
    .rw[c] at e;exact absurd e (by decide)
    .rw[c] at e;exact absurd e (by unfold qP;decide)
 .revert ay bN{ai,?_}(al (word = "first") aq (λb=>?_) (λb=>?_))
  .have f:bU word rest=rest:=by unfold bU;rw[if_neg (by rw[b];decide)]
   revert(.mk ?_);rw[f];revert(aL (λi as ρ=>∃x:Option OV,as=(rest.take i).map (λz=>D.bl (qp (zs.map Sum.inr) (.inr z)))/\ρ=[x,!(.fz (aG word rest)),!(.fd (zs.map Sum.inr) ds)]) {none,by simp,rfl} ?_ ?_)
   .rintro i d as ρ R hd ⟨x,rfl,rfl⟩ k
    obtain⟨z,a,rfl⟩:∃z,rest[i]?=!z/\d=.str z:=by
     rw[List.getElem?_map,aaj] at hd;obtain⟨z,h1,h2⟩:=hd;exact{(z),h1,h2.symm}
    revert cw{by rw[abP,aao];nofun,k _ _ {!(.fz (.str z)),by rw[aap,a,aae];rfl,rfl}}
   .rintro as ρ ⟨x,rfl,rfl⟩;rw[abP,aai (aac _)];have e:rest.map (λz=>D.bl (qp (zs.map Sum.inr) (.inr z)))=(rest.map λz=>qp (zs.map Sum.inr) (.inr z)).map D.bl:=by rw[aav];rfl
    rw[e];revert iH(q _ ?_);rw[abw,aaK];constructor
    .rintro⟨z,a,h⟩;exact .inr (.inl {b,z,a,bm.mp h})
    .rintro (⟨e,_⟩|⟨_,z,a,h⟩|e)
     .exact absurd e c
     .exact{z,a,bm.mpr h}
     .rw[b] at e;exact absurd e (by unfold qP;decide)
  .revert bN{{(rfl),rfl},?_}(q _ ?_);rw[show [D.str (Str.ofString "none"),D.str (Str.ofString "again"),D.str (Str.ofString "ahead"),D.str (Str.ofString "not")]=([("none" : Str), "again", "ahead", "not"]).map D.str from rfl,b6];simp only[List.mem_cons,List.not_mem_nil,or_false];constructor
   .intro h;exact .inr (.inr h)
   .rintro (⟨e,_⟩|⟨e,_⟩|e)
    .exact absurd e c
    .exact absurd e b
    .exact e
end
section
variable {P:Program} {w:World} {K:Frag}  
def Ax(h:(rows.map fj)[i]?=!d):∃r,rows[i]?=!r/\d=fj r:=by
 rw[List.getElem?_map,aaj] at h;obtain⟨r,h1,h2⟩:=h;exact{(r),h1,h2.symm}
abbrev oX:Stmt:=top 29
abbrev zd:FS:=
  (am (b9 1 xl)
  (am (bX (fC (.bl true)) (ac 2))
  (am (iw (Dc (ab 2))
   (am (bX (fC (.bl false)) (ac 2))
  (jz (bQ (ab 0)) (jY 2 (b5 (ac 3) (b5 (ac 4) jX)))
   (fIf (Da (au (fOp oa (ab 3) (ab 1))) (dU (ar bK (aa (fFz (ab 4)) (aa (ab 1) af)))))
   (am (sX 1 (fC (.bl true)) (ab 3))
  (bX (fC (.bl true)) (ac 2)))
   aH))))
  (bi (ab 1)))))
def ze:Hh bj zd [] 5:=by
 intro os P h;unfold bj at h;obtain⟨rows,rfl,v,q⟩:=h;have sz:=dB;have few:=v.few;ext
 refine cY (λm ρ=>∃(zs:↥Str) (ds:↥D) (g:Bool) (n l:Option OV),ρ=[!(.fz (.lst (rows.map fj))),!(.fd (zs.map Sum.inr) ds),!(.fz (.bl g)),n,l]/\Walk1 rows zs zs 0/\(g=true∨uQ rows zs)/\m=2*(rows.length - zs.length)+(if g=true then 1 else 0))
  _ {[],[],true,none,none,rfl,Walk1.start aaH (λ_ h=>by cases h) (λ_ h=>by cases h),.inl rfl,rfl} ?_
 rintro m ρ R ⟨zs,ds,g,n,l,rfl,W,A,rfl⟩ x;ext
 cases g with
 | false=>
  have u:uQ rows zs:=by
   rcases A with z|z
   .cases z
   .exact z
  refine cP ?_;revert(q zs ds W.nd (λz=>{W.emp z,λh=>h.mem u}) (aar W.len few))
 | true=>
  refine cw ?_;ext
  refine aW (λi ρ=>∃(a:↥Str) (c:↥D) (g:Bool) (n l:Option OV),ρ=[!(.fz (.lst (rows.map fj))),!(.fd (a.map Sum.inr) c),!(.fz (.bl g)),n,l]/\Walk1 rows zs a i/\(g=false->a=zs)/\(g=true->zs.length<a.length))
   {zs,ds,false,n,l,rfl,W,λ_=>rfl,λz=>nomatch z} ?_ ?_
  .rintro i d ρ E hd ⟨a,c,g,n,l,rfl,f,j,k⟩ o;obtain⟨r,hr,rfl⟩:=Ax hd;have s:=List.mem_of_getElem? hr;revert{rfl,?_} ay(al (r.1∉a) (by rw[aaV,abI,Ne,bm]) (λp=>?_) (λp=>?_))
   .revert(.mk (v.ok r s).2 λb B=>?_)(al (Fa a r.2.1 r.2.2) B (λt=>?_) (λt=>?_))
    .revert{rfl,?_};ext;have w:=f.add hr p t;refine{by rw[abP];have:=f.len;nofun,?_};revert(o _ {a++[r.1],(iA (a.map Sum.inr) c (.inr r.1) (.bl true)).2,true,!(.fz (.str r.1)),!(.fz (aG r.2.1 r.2.2)),?_,w,(λz=>nomatch z),λ_=>?_})
     .have e:=lx (zs:=a) (ds:=c) (z:=r.1) (d:=.bl true);unfold KS.dedup1 at e;rw[if_neg p] at e;rw[← e];rfl
     .rcases w.grow with ⟨z,_⟩|z
      .have:=congrArg List.length z;rw[aag,aaQ] at this;rcases f.grow with ⟨y,_⟩|y
       .rw[y] at this;nofun
       .nofun
      .exact z
    .exact o _ {a,c,g,!(.fz (.str r.1)),!(.fz (aG r.2.1 r.2.2)),rfl,f.skip hr λz=>absurd z t,j,k}
   .revert cP;exact o _ {a,c,g,!(.fz (.str r.1)),!(.fz (aG r.2.1 r.2.2)),rfl,f.skip hr λ_=>Classical.not_not.mp p,j,k}
  .rintro ρ ⟨a,c,g,n,l,rfl,f,j,k⟩;rw[abP] at f;have C:=f.len;refine x _ _ ?_ {a,c,g,n,l,rfl,Walk1.start f.nd f.emp f.sub,?_,rfl}
   .cases g with
    |false=>rw[j rfl,if_neg (by decide),if_pos rfl];nofun
    |true=>have:=k rfl;rw[if_pos rfl];nofun
   .cases g with
    |true=>exact .inl rfl
    | false=>
     refine .inr ?_;have e:=j rfl;rcases f.grow with ⟨_,z⟩|z
     .rw[aai (aac _)] at z;rw[e];exact λr hr m=>z r hr m
     .rw[e] at z;exact absurd z (aaZ _)
def uR{P:Pk}(a:BookL rows)(h:∀(zs:↥Str) (ds:↥D),zs.Nodup->(∀z,z∈zs↔Emp rows z)->zs.length<=30->P (.fd (zs.map Sum.inr) ds) [.fz (.lst (rows.map fj))]):bj [.fz (.lst (rows.map fj))] P:=by
 unfold bj;exact{(rows),rfl,a,h}
def lQ(h:(zs.map D.str)[i]?=!d):∃z,zs[i]?=!z/\d=.str z:=by
 rw[List.getElem?_map,aaj] at h;obtain⟨r,h1,h2⟩:=h;exact{(r),h1,h2.symm}
end
def kN(zs:↥Str):↥Str->↥Str
 |[]=>[]
 |p::r=>if p∈zs then p::kN zs r else [p]
theorem qG{zs a:↥Str}(h:∀z,z∈zs↔z∈a):∀ps,kN zs ps=kN a ps
 |[]=>rfl
 | p::r=>by
  unfold kN;rw[qG h r];by_cases b:p∈zs
  .rw[if_pos b,if_pos ((h p).mp b)]
  .rw[if_neg b,if_neg λz=>b ((h p).mpr z)]
theorem oY{zs:↥Str}:∀ps,(kN zs ps).length<=ps.length
 |[]=>aac _
 | p::r=>by
  unfold kN;have:=oY (zs:=zs) r;split <;> simp <;> nofun
def uS{p:Str}(b:ps[i]?=!p)(h:∀z∈ps.take i,z∈zs):kN zs ps=ps.take i++kN zs (ps.drop i):=by
 induction ps generalizing i with
 |nil=>simp at b
 | cons a r c=>
  cases i with
  |zero=>rfl
  | succ i=>
   rw[List.take_succ_cons] at h;have e:=h a (aab ..);rw[List.getElem?_cons_succ] at b;have:=c b λz d=>h z (aad _ d);rw[List.take_succ_cons,List.drop_succ_cons,List.cons_append,← this];rw[kN,if_pos e]
def Fb{p:Str}(a:ps[i]?=!p):ps.drop i=p::ps.drop (i+1):=by
 obtain⟨h,e⟩:=List.getElem?_eq_some_iff.mp a;rw[aat h,e]
def zf{p:Str}(a:ps[i]?=!p)(h:∀z∈ps.take i,z∈zs)(b:p∉zs):kN zs ps=ps.take (i+1):=by
 rw[uS a h,Fb a,kN,if_neg b,aap,a];rfl
theorem oZ{zs:↥Str}:∀{ps:↥Str},(∀z∈ps,z∈zs)->kN zs ps=ps
 |[],_=>rfl
 | p::r,h=>by
  rw[kN,if_pos (h p (aab ..)),oZ λz a=>h z (aad _ a)]
def bG(zs:↥Str)(word:Str)(rest:↥Str):↥Str:=if word = "row" then kN zs rest else bU word rest
def dQ(zs:↥Str)(r:Rw):D:=.lst ((bG zs r.2.1 r.2.2).map .str)
inductive bw:Ct
 |mk {ps zs:↥Str} {ds:↥D} {P:Pk} (h8:ps.length<=8) (h:P (.fl ((kN zs ps).map .str)) [.fz (.lst (ps.map .str)),.fd (zs.map Sum.inr) ds]):bw [.fz (.lst (ps.map .str)),.fd (zs.map Sum.inr) ds] P
inductive bn:Ct
 |mk {word:Str} {rest zs:↥Str} {ds:↥D} {P:Pk} (hf:iO word rest) (h:P (.fl ((bG zs word rest).map .str)) [.fz (aG word rest),.fd (zs.map Sum.inr) ds]):bn [.fz (aG word rest),.fd (zs.map Sum.inr) ds] P
inductive c8:Ct
 |mk {rows:↥Rw} {P:Pk} (hB:BookL rows) (h:∀zs:↥Str,(∀z,z∈zs↔Emp rows z)->P (.fd ((rows.map (·.1)).map Sum.inr) (rows.map (dQ zs))) [.fz (.lst (rows.map fj))]):c8 [.fz (.lst (rows.map fj))] P
section
variable {P:Program} {w:World} {K:Frag}  
abbrev Ay:Stmt:=top 30
abbrev Jy:FS:=
  (am (b9 2 (gv af))
  (am (jz (bQ (ab 0)) (ac 3)
   (am (bA (qm 2 (ab 3)))
  (fIf (au (fOp oa (ab 3) (ab 1)))
   Af
   aH)))
  (bi (ab 2))))
def Jz:Hh bw Jy [1] 4:=by
 intro os P h;obtain@⟨ps,zs,ds,_,j,q⟩:=h;have sz:=dB;revert{aan _,?_}(aW (λi ρ=>∃x:Option OV,ρ=[!(.fz (.lst (ps.map .str))),!(.fd (zs.map Sum.inr) ds),!(.fl ((ps.take i).map .str)),x]/\∀z∈ps.take i,z∈zs) {none,by simp,λz c=>by simp at c} ?_ ?_)
 .rintro i d ρ R hd ⟨x,rfl,a⟩ g;obtain⟨p,b,rfl⟩:=lQ hd;revert{rfl,?_}{by rw[abP,aao];nofun,?_} ay(al (p∉zs) (by rw[aaV,abI,Ne,bm]) (λf=>?_) (λf=>?_))
  .ext;have e:=zf b a f;rw[e,aap,b,aae] at q;exact q
  .refine g _ {!(.fz (.str p)),?_,?_}
   .rw[aap,b,aae];rfl
   .intro z c;rcases oW b c with h|h
    .exact a z h
    .rw[h];exact Classical.not_not.mp f
 .rintro ρ ⟨x,rfl,a⟩;rw[abP,aai (aac _)] at *;ext;rw[oZ a] at q;exact q
abbrev uT:Stmt:=top 31
abbrev Fc:FS:=
  (am (fIf (au (fOp aEq (fOp aIx (ab 0) (fC (.int 0))) (fC (.str "row"))))
   (bi (ar bw (aa (fFz (ar bB (aa (fFz (ab 0)) af))) (aa (ab 1) af))))
   aH)
  (bi (ar bB (aa (fFz (ab 0)) af))))
def Fd:Hh bn Fc [1] 2:=by
 intro os P h;obtain@⟨word,rest,zs,ds,_,c,q⟩:=h;have d:=iW c;unfold bG at q;revert ay bN{ai,?_}(al (word = "row") aq (λa=>?_) (λa=>?_))
 .have b:bU word rest=rest:=by unfold bU;rw[if_neg (by rw[a];decide)]
  rw[if_pos a] at q;revert(.mk ?_);rw[b];revert(.mk d ?_)(q)
 .rw[if_neg a] at q;revert(.mk ?_)(q)
def o0{f:α->β}{l:↥α}{a:α}(h:l[i]?=!a):(l.take (i+1)).map f=(l.take i).map f++[f a]:=by
 rw[aap,h,aae];rfl
def Fe{r:Rw}(nd:(rows.map (·.1)).Nodup)(h:rows[i]?=!r):r.1∉(rows.take i).map (·.1):=by
 intro z;obtain⟨hi,e⟩:=List.getElem?_eq_some_iff.mp h;obtain⟨r',a,f⟩:=abW.mp z;obtain⟨j,d,b⟩:=abt a;rw[List.getElem_take] at b;have c:j<i:=by rw[aao] at d;nofun
 have:=(List.getElem_inj (i:=j) (j:=i) (h₀:=by rw[abP];nofun) (h₁:=by rw[abP];nofun) nd).mp (by rw[abL,abL,b,e,f]);nofun
def zg(h:z∉zs):iA (zs.map Sum.inr) ds (.inr z) d=(zs.map Sum.inr++[.inr z],ds++[d]):=by
 unfold iA;have e:¬((zs.map Sum.inr).any λx=>decide (x=(Sum.inr z:Key)))=true:=λq=>h (bm.mp q);rw[if_neg e]
abbrev uU:Stmt:=top 32
abbrev Ff:FS:=
  (am (b9 1 (ar bj (aa (fFz (ab 0)) af)))
  (am (b9 2 xl)
  (am (jz (bQ (ab 0)) (jY 2 (b5 (ac 3) (b5 (ac 4) jX)))
   (sX 2 (ar bn (aa (fFz (ab 4)) (aa (ab 1) af))) (ab 3)))
  (bi (ab 2)))))
def Fg:Hh c8 Ff [] 5:=by
 intro os P h;obtain@⟨rows,_,b,q⟩:=h;have sz:=dB;have few:=b.few;revert(uR b λzs ds l k m=>?_)(aW (λi ρ=>∃f c:Option OV,ρ=[!(.fz (.lst (rows.map fj))),!(.fd (zs.map Sum.inr) ds),!(.fd (((rows.take i).map (·.1)).map Sum.inr) ((rows.take i).map (dQ zs))),f,c]) {none,none,by simp} ?_ ?_)
 .rintro i d ρ R hd ⟨f,c,rfl⟩ j;obtain⟨r,hr,rfl⟩:=Ax hd;have g:=List.mem_of_getElem? hr;revert{rfl,?_}(.mk (b.ok r g).2 ?_){rfl,?_}{by rw[abP,abP,aao];nofun,?_};refine j _ {!(.fz (.str r.1)),!(.fz (aG r.2.1 r.2.2)),?_};have a:=Fe b.nd hr;have e:=zg (ds:=(rows.take i).map (dQ zs)) (d:=dQ zs r) a;rw[o0 hr,o0 hr,aae];show [_,_,!(OV.fd (iA (((rows.take i).map (·.1)).map Sum.inr) ((rows.take i).map (dQ zs)) (.inr r.1) (dQ zs r)).1 (iA (((rows.take i).map (·.1)).map Sum.inr) ((rows.take i).map (dQ zs)) (.inr r.1) (dQ zs r)).2),_,_]=_;rw[e];rfl
 .rintro ρ ⟨f,c,rfl⟩;rw[abP,aai (aac _)];revert(q zs k)
end
abbrev dR(zs:↥Str)(rows:↥Rw):D:=.dct ((rows.map (·.1)).map Sum.inr) (rows.map (dQ zs))
def o4(zs ls:↥Str)(r:Rw):↥Str:=(bG zs r.2.1 r.2.2).filter λz=>decide (z∈ls)
def JA(zs:↥Str)(rows:↥Rw)(S:↥Str):Prop:=∀n∈S,∃r∈rows,r.1=n/\∃p∈bG zs r.2.1 r.2.2,p∈S
def Az(zs:↥Str)(rows:↥Rw):Prop:=∀S,JA zs rows S->S=[]
def xF(zs:↥Str)(rows:↥Rw)(ls:↥Str)(n:Str):Prop:=∀r∈rows,r.1=n->∀p∈bG zs r.2.1 r.2.2,p∉ls
def nb(zs:↥Str)(rows:↥Rw)(ls:↥Str)(n:Str):Bool:=@decide (xF zs rows ls n) (Classical.propDecidable _)
def fJ :nb zs rows ls n=true↔xF zs rows ls n:=by
 unfold nb;exact @decide_eq_true_iff _ (Classical.propDecidable _)
def Fh(sub:∀n∈ls,n∈rows.map (·.1))(h:∀n∈ls,¬xF zs rows ls n):JA zs rows ls:=by
 intro n b;obtain⟨r,hr,e⟩:=abW.mp (sub n b);have g:=h n b;unfold xF at g;simp only[Classical.not_forall,Classical.not_not] at g;obtain⟨r',a,f,p,c,d⟩:=g;exact{(r'),a,f,p,c,d}
@[irreducible] def aX:Ct:=λos P=>∃(rows:↥Rw) (zs ls:↥Str) (ds:↥D) (r:Rw),(os=[.fz (dR zs rows),.fz (.str r.1),.fd (ls.map Sum.inr) ds]∨os=[.fz (dR zs rows),.fz (.str r.1),.fz (.dct (ls.map Sum.inr) ds)])/\BookL rows/\r∈rows/\P (.fl ((o4 zs ls r).map .str)) os
section
variable {P:Program} {w:World} {K:Frag}  
def fzzd{e:D}:[OV.fz d,OV.fz e,OV.fd ks ds].length=3/\∀(j:Nat) (o:OV),[OV.fz d,OV.fz e,OV.fd ks ds][j]?=!o->j∉([2]:↥Nat)->sY o=true:=-{rfl,λj o e a=>by
 match j,e with
 |0,e=>cases e;rfl
 |1,e=>cases e;rfl
 |2,e=>exact absurd (by simp) a}
theorem kD{f:Rw->D}:∀{rows:↥Rw} {r:Rw},(rows.map (·.1)).Nodup->r∈rows->iD ((rows.map (·.1)).map Sum.inr) (rows.map f) (.inr r.1)=!(f r)
 |[],_,_,h=>nomatch h
 | a::rows,r,b,h=>by
  unfold iD;rw[abT,abT,abT,acb,List.find?_cons];rw[abT,abV] at b;by_cases e:a.1=r.1
  .have:r=a:=by
    rcases abS.mp h with h|h
    .exact h
    .exact absurd (abW.mpr {(r),h,e.symm}) b.1
   subst this;simp
  .have h':r∈rows:=by
    rcases abS.mp h with h|h
    .exact absurd (by rw[h]) e
    .exact h
   rw[show decide ((Sum.inr a.1:Key)=Sum.inr r.1)=false from decide_eq_false λz=>e (abh z)];exact kD b.2 h'
theorem uV{k:Key}(h:iD ks ds k=!d)(q:Q d):match iD ks ds k with
  |some d=>Q d
  |none=>False:=by rw [h];exact q
def qH{rest:↥Str}(b:iO word rest):(bG zs word rest).length<=8:=by
 have a:=iW b;unfold bG bU;split
 .exact aar (oY rest) a
 .split
  .simp
  .exact a
abbrev o6:Stmt:=top 33
abbrev zi:FS:=
  (bi (bT [2] 1 (bQ (fOp aIx (ab 0) (ab 1))) (ac 0) (au (fOp aIn (ab 0) (ab 3))) (ab 0)))
def fzzf{e f:D}:[OV.fz d,OV.fz e,OV.fz f].length=3/\∀(j:Nat) (o:OV),[OV.fz d,OV.fz e,OV.fz f][j]?=!o->j∉([2]:↥Nat)->sY o=true:=-{rfl,λj o e a=>by
 match j,e with
 |0,e=>cases e;rfl
 |1,e=>cases e;rfl
 |2,e=>exact absurd (by simp) a}
def zj:Lh aX 3 [2]:=-λos P h=>by
 unfold aX at h;obtain⟨rows,zs,ls,ds,r,rfl|rfl,_⟩:=h
 .exact fzzd
 .exact fzzf
def zk:Hh aX zi [2] 3:=by
 intro os P h;unfold aX at h;obtain⟨rows,zs,ls,ds,r,e,c,hr,q⟩:=h;have sz:=dB;have g:=qH (zs:=zs) (c.ok r hr).2;rcases e with rfl|rfl
 .revert(uV (kD (f:=dQ zs) c.nd hr) ?_)(aL (λi as ρ=>∃x:Option OV,as=(((bG zs r.2.1 r.2.2).take i).filter λz=>decide (z∈ls)).map .str/\ρ=[x,!(.fz (dR zs rows)),!(.fz (.str r.1)),!(.fd (ls.map Sum.inr) ds)]) {none,by simp,rfl} ?_ ?_)
  .rintro i d as ρ R hd ⟨x,rfl,rfl⟩ k;obtain⟨z,b,rfl⟩:=lQ hd;revert(al (z∈ls) bm (λa=>?_) (λa=>?_))
   .revert{?_,k _ _ {!(.fz (.str z)),?_,rfl}}
    .rw[abP];have:=aa6 (λz=>decide (z∈ls)) ((bG zs r.2.1 r.2.2).take i);rw[aao] at this;nofun
    .rw[aap,b,aaY,aae];simp[a]
   .refine k _ _ {!(.fz (.str z)),?_,rfl};rw[aap,b,aaY,aae];simp[a]
  .rintro as ρ ⟨x,rfl,rfl⟩;rw[abP,aai (aac _)];revert(q)
 .revert(uV (kD (f:=dQ zs) c.nd hr) ?_)(aL (λi as ρ=>∃x:Option OV,as=(((bG zs r.2.1 r.2.2).take i).filter λz=>decide (z∈ls)).map .str/\ρ=[x,!(.fz (dR zs rows)),!(.fz (.str r.1)),!(.fz (.dct (ls.map Sum.inr) ds))]) {none,by simp,rfl} ?_ ?_)
  .rintro i d as ρ R hd ⟨x,rfl,rfl⟩ k;obtain⟨z,b,rfl⟩:=lQ hd;revert(al (z∈ls) bm (λa=>?_) (λa=>?_))
   .revert{?_,k _ _ {!(.fz (.str z)),?_,rfl}}
    .rw[abP];have:=aa6 (λz=>decide (z∈ls)) ((bG zs r.2.1 r.2.2).take i);rw[aao] at this;nofun
    .rw[aap,b,aaY,aae];simp[a]
   .refine k _ _ {!(.fz (.str z)),?_,rfl};rw[aap,b,aaY,aae];simp[a]
  .rintro as ρ ⟨x,rfl,rfl⟩;rw[abP,aai (aac _)];revert(q)
def qI{r:Rw}{P:Pk}(a:BookL rows)(hr:r∈rows)(h:P (.fl ((o4 zs ls r).map .str)) [.fz (dR zs rows),.fz (.str r.1),.fz (.dct (ls.map Sum.inr) ds)]):aX [.fz (dR zs rows),.fz (.str r.1),.fz (.dct (ls.map Sum.inr) ds)] P:=by
 unfold aX;exact{rows,zs,ls,ds,r,.inr rfl,a,hr,h}
end
structure Left(zs:↥Str)(rows:↥Rw)(ls:↥Str):Prop where
 nd:ls.Nodup
 sub:∀n∈ls,n∈rows.map (·.1)
 ring:JA zs rows ls
 all:∀S,JA zs rows S->∀n∈S,n∈ls
@[irreducible] def aZ:Ct:=λos P=>∃(rows:↥Rw) (zs:↥Str),os=[.fz (dR zs rows)]/\BookL rows/\∀(ls:↥Str) (ds:↥D),Left zs rows ls->P (.fd (ls.map Sum.inr) ds) os
section
variable {P:Program} {w:World} {K:Frag}  
def qJ{P:Pk}(a:BookL rows)(h:∀(ls:↥Str) (ds:↥D),Left zs rows ls->P (.fd (ls.map Sum.inr) ds) [.fz (dR zs rows)]):aZ [.fz (dR zs rows)] P:=by
 unfold aZ;exact{(rows),zs,rfl,a,h}
inductive lR:Ct
 |mk {rows:↥Rw} {P:Pk} (hB:BookL rows) (hN:∀zs:↥Str,(∀z,z∈zs↔Emp rows z)->Az zs rows) (h:P (.fz .non) [.fz (.lst (rows.map fj))]):lR [.fz (.lst (rows.map fj))] P
abbrev AA:Stmt:=top 35
abbrev JB:FS:=
  (am (bX (ar c8 (aa (fFz (ab 0)) af)) (ac 1))
  (am (b9 2 (ar aZ (aa (fFz (ab 1)) af)))
  (am (fIf (au (fOp aEq (fCB eR (aa (ab 2) af)) (fC (.int 0))))
   (bi (fC .non))
   aH)
  (am eU
  (am eU
  (am eU
  eU))))))
def JC:Hh lR JB [] 5:=by
 intro os P h;obtain@⟨rows,_,b,d,q⟩:=h;revert(.mk b λzs c=>?_)(qJ b λls ds L=>?_) ay{aS,?_}(al (ls=[]) ?_ (λe=>?_) (λa=>absurd (d zs c ls L.ring) a))
 .rw[bM,abP];constructor
  .intro h;exact aaA ()
  .intro h;rw[h];rfl
 .revert(q)
end
theorem lS:∀ls:↥Str,(ls.map Sum.inr:↥Key).map xC=ls.map D.str
 |[]=>rfl
 |z::ls=>by rw[abT,abT,abT,lS ls];rfl
structure Away(zs:↥Str)(rows:↥Rw)(ls:↥Str):Prop where
 nd:ls.Nodup
 sub:∀n∈ls,n∈rows.map (·.1)
 all:∀S,JA zs rows S->∀n∈S,n∈ls
def Away.len(O:Away zs rows ls):ls.length<=rows.length:=by
 have:=aax O.nd O.sub
 rwa [abP] at this
def Away.next(O:Away zs rows ls):Away zs rows (ls.filter λz=>decide (z∉ls.filter (nb zs rows ls))):=by
 refine{O.nd.sublist List.filter_sublist,λn a=>O.sub n (ab3.mp a).1,λS c n a=>ab3.mpr {O.all S c n a,decide_eq_true λz=>?_}};have g:=fJ.mp (ab3.mp z).2;obtain⟨r,hr,e,p,d,b⟩:=c n a;exact g r hr e p d (O.all S c p b)
def lT(nd:(rows.map (·.1)).Nodup){r r':Rw}(hr:r∈rows)(a:r'∈rows)(e:r'.1=r.1):r'=r:=by
 obtain⟨f,h1,c⟩:=abt hr;obtain⟨d,h2,b⟩:=abt a;have:=(List.getElem_inj (i:=d) (j:=f) (h₀:=by rw[abP];nofun) (h₁:=by rw[abP];nofun) nd).mp (by rw[abL,abL,c,b,e]);subst this;rw[← c,← b]
def nc{r:Rw}(nd:(rows.map (·.1)).Nodup)(hr:r∈rows):o4 zs ls r=[]↔xF zs rows ls r.1:=by
 unfold o4;rw[List.filter_eq_nil_iff];constructor
 .intro h r' b e p a c;rw[lT nd hr b e] at a;exact h p a (decide_eq_true c)
 .intro h p a c;exact h r hr rfl p a (of_decide_eq_true c)
theorem lU:∀{ls:↥Str} {ds:↥D} {z:Str},ds.length=ls.length->z∈ls->∃d,iD (ls.map Sum.inr) ds (.inr z)=!d
 |[],_,_,_,h=>nomatch h
 |a::ls,[],_,h,_=>by simp at h
 | a::ls,d::ds,z,h,b=>by
  unfold iD;rw[abT,acb,List.find?_cons];by_cases e:a=z
  .subst e;exact{d,by simp}
  .rw[show decide ((Sum.inr a:Key)=Sum.inr z)=false from decide_eq_false λy=>e (abh y)];exact lU (by exists h) ((abS.mp b).resolve_left λy=>e y.symm)
theorem o7:∀{ls:↥Str} {ds:↥D} {z:Str},ds.length=ls.length->∃b,mQ (ls.map Sum.inr) ds (.inr z)=((ls.filter λx=>decide (x≠z)).map Sum.inr,b)/\b.length=(ls.filter λx=>decide (x≠z)).length
 |[],[],_,_=>{[],rfl,rfl}
 |[],d::ds,_,h=>by simp at h
 |a::ls,[],_,h=>by simp at h
 | a::ls,d::ds,z,h=>by
  obtain⟨b,e,f⟩:=o7 (ls:=ls) (ds:=ds) (z:=z) (by exists h);unfold mQ at e ⊢;injection e with i g
  by_cases q:a=z
  .refine{b,?_,?_}
   .subst q;simp only[List.map_cons,List.zip_cons_cons,List.filter_cons,ne_eq,not_true_eq_false,decide_false,if_neg Bool.false_ne_true];exact congr (congrArg _ i) g
   .subst q;simpa using f
  .have j:decide ((Sum.inr a:Key)≠Sum.inr z)=true:=decide_eq_true λy=>q (abh y);have c:decide (a≠z)=true:=decide_eq_true q;refine{d::b,?_,?_}
   .simp only[List.map_cons,List.zip_cons_cons,List.filter_cons,j,c,if_pos];rw[i,g]
   .simp only[List.filter_cons,c,if_pos,List.length_cons,f]
def gk :(ls.filter λz=>decide (z∉([]:↥Str)))=ls:=-List.filter_eq_self.mpr λa _=>by simp
def qK(nd:E.Nodup)(h:E[i]?=!z):z∉E.take i:=-λb=>by
 obtain⟨hi,e⟩:=List.getElem?_eq_some_iff.mp h;obtain⟨k,c,a⟩:=abt b;rw[List.getElem_take] at a;rw[aao] at c;have:=(List.getElem_inj nd).mp (a.trans e.symm);nofun
def iX(h:E[i]?=!z):((ls.filter λz=>decide (z∉E.take i)).filter λx=>decide (x≠z))=ls.filter λz=>decide (z∉E.take (i+1)):=by
 rw[List.filter_filter];refine List.filter_congr λx _=>?_;rw[aap,h];simp only[Option.toList,List.mem_append,List.mem_singleton];by_cases h1:x=z <;> by_cases h2:x∈E.take i <;> simp[h1,h2]
section
variable {P:Program} {w:World} {K:Frag}  
abbrev lV:Stmt:=top 34
abbrev uW:FS:=
  (am (b9 1 (fCB DW (aa (ab 0) af)))
  (am (bX (fC (.bl true)) (ac 2))
  (am (iw (Dc (ab 2))
   (am (bX (tM [0,1] 1 1 (ac 0) (au (fOp aEq (fCB eR (aa (ar aX (aa (fFz (ab 1)) (aa (fFz (ab 0)) (aa (ab 2) af)))) af)) (fC (.int 0)))) (ab 0)) (ac 3))
  (am (jz (bQ (ab 3)) (ac 4)
   (bA (DS 1 (ab 4))))
  (bX (fOp (i8 (λi j=>decide (j<i)) λi j=>a8 j i) (fCB eR (aa (ab 3) af)) (fC (.int 0))) (ac 2)))))
  (bi (ab 1)))))
def uX:Hh aZ uW [] 5:=by
 intro os P h;unfold aZ at h;obtain⟨rows,zs,rfl,v,q⟩:=h;have sz:=dB;have few:=v.few;ext
 refine cY (λm ρ=>∃(ls:↥Str) (ds:↥D) (b:Bool) (w t:Option OV),ρ=[!(.fz (dR zs rows)),!(.fd (ls.map Sum.inr) ds),!(.fz (.bl b)),w,t]/\Away zs rows ls/\ds.length=ls.length/\(b=false->∀n∈ls,¬xF zs rows ls n)/\m=if b then ls.length+1 else 0)
  _ {rows.map (·.1),rows.map (dQ zs),true,none,none,rfl,{v.nd,λ_ h=>h,λS K n j=>?_},by rw[abP,abP],(λz=>nomatch z),rfl} ?_
 .obtain⟨r,hr,e,_⟩:=K n j;exact abW.mpr {(r),hr,e}
 .rintro m ρ R ⟨ls,ds,b,w,t,rfl,O,I,J,rfl⟩ G;have H:=O.len;revert(al (b=true) Iff.rfl (λe=>?_) (λe=>?_))
  .subst e;ext;rw[show L5 (ls.map Sum.inr) ds=ls.map D.str from lS ls];refine aL (λi as ρ=>∃x:Option OV,as=((ls.take i).filter (nb zs rows ls)).map .str/\ρ=[x,!(.fz (dR zs rows)),!(.fz (.dct (ls.map Sum.inr) ds)),!(.fz (.bl true)),fzo w,fzo t]) {none,by simp,rfl} ?_ ?_
   .rintro k d as ρ V hd ⟨x,rfl,rfl⟩ u;obtain⟨n,j,rfl⟩:=lQ hd;obtain⟨r,hr,rfl⟩:=abW.mp (O.sub n (List.mem_of_getElem? j));revert(qI v hr ?_){aS,?_}(al (xF zs rows ls r.1) ?_ (λB=>?_) (λB=>?_))
    .rw[bM,abP,← nc v.nd hr];constructor
     .intro h;exact aaA ()
     .intro h;rw[h];rfl
    .revert{?_,u _ _ {!(.fz (.str r.1)),?_,rfl}}
     .rw[abP];have:=aa6 (nb zs rows ls) (ls.take k);rw[aao] at this;nofun
     .rw[aap,j,aaY,aae];simp[fJ.mpr B]
    .refine u _ _ {!(.fz (.str r.1)),?_,rfl};rw[aap,j,aaY,aae];have:nb zs rows ls r.1=false:=ab9.mpr λz=>B (fJ.mp z);simp[this]
   .rintro as ρ ⟨x,rfl,rfl⟩;rw[abP,aai (aac _)];refine{{_,rfl},?_};ext;generalize o:ls.filter (nb zs rows ls)=E;have a:∀z∈E,z∈ls:=λz l=>by rw[← o] at l;exact(ab3.mp l).1
    have s:E.Nodup:=by rw[← o];exact O.nd.sublist List.filter_sublist
    have L:E.length<=ls.length:=by rw[← o];exact aa6 ..
    refine aW (λi ρ=>∃(c:↥D) (x:Option OV),ρ=[!(.fz (dR zs rows)),!(.fd ((ls.filter λz=>decide (z∉E.take i)).map Sum.inr) c),!(.fz (.bl true)),!(.fz (.lst (E.map .str))),x]/\c.length=(ls.filter λz=>decide (z∉E.take i)).length) {ds,t,?_,?_} ?_ ?_
    .rw[List.take_zero,gk]
    .rw[List.take_zero,gk,I]
    .rintro i d ρ V hd ⟨c,x,rfl,f⟩ u;obtain⟨z,l,rfl⟩:=lQ hd;have A:z∈ls.filter λz=>decide (z∉E.take i):=ab3.mpr {a z (List.mem_of_getElem? l),decide_eq_true (qK s l)};obtain⟨X,T⟩:=lU f A;obtain⟨F,Q,C⟩:=o7 (z:=z) f;revert{rfl,?_}(uV T ?_);refine u _ {F,!(.fz (.str z)),?_,?_}
     .rw[Q,iX l];rfl
     .rw[C,iX l]
    .rintro ρ ⟨c,x,rfl,f⟩;rw[abP,aai (aac _)] at *;have W:Away zs rows (ls.filter λz=>decide (z∉E)):=by rw[← o];exact O.next
     revert(G _ _ ?_ {_,c,_,_,_,rfl,W,f,?_,rfl})
     .rw[if_pos rfl];split
      .rename_i h;have p:(0:Int)<((E.map D.str).length:Nat):=of_decide_eq_true h;rw[abP] at p
       have:(ls.filter λz=>decide (z∉E)).length<ls.length:=by
        cases E with
        |nil=>simp at p
        | cons y E=>
         refine List.length_filter_lt_length_iff_exists.mpr {y,a y (aab ..),?_};simp
       nofun
      .nofun
     .intro h n j g;have M:¬(0:Int)<((E.map D.str).length:Nat):=of_decide_eq_false h;rw[abP] at M;have N:E=[]:=aaA ();subst N;rw[gk] at j g;rw[List.filter_eq_nil_iff] at o;exact o n j (fJ.mpr g)
  .have U:b=false:=by cases b with|true=>exact absurd rfl e|false=>rfl
   subst U;revert(q ls ds {O.nd,O.sub,Fh O.sub (J rfl),O.all})
end
structure BookR(rows:↥Rw):Prop where
 b:BookL rows
 rise:Mr rows
 free:∀zs:↥Str,(∀z,z∈zs↔Emp rows z)->Az zs rows
inductive a7:Ct
 |mk {rows:↥Rw} {P:Pk} (B:BookR rows) (h:P (.fz .non) [.fz (fI rows)]):a7 [.fz (fI rows)] P
abbrev JD:Stmt:=top 46
abbrev Mu:FS:=
  (am (fIf (kL (dU (ar eF (aa (fFz (ab 0)) af))))
   eU
   aH)
  (fIf (au (fOp lA (ar lR (aa (fFz (ab 0)) af)) (fC .non)))
   eU
   aH))
def Mv:Hh a7 Mu [] 1:=by
 intro os P h;obtain@⟨rows,_,B,q⟩:=h;have few:=B.b.few;revert ay(.mk () B.b.ok B.rise ?_) cP ay(.mk B.b B.free ?_) cP(q)
structure AskR(rows:↥Rw)(n z:Str)(k:Nat):Prop where
 b:BookR rows
 n:dX n
 t:Jv z
 s:z.length<sizeLine
 k:k<=z.length
abbrev F8(rows:↥Rw)(n z:Str)(k:Nat):↥OV:=[.fz (fI rows),.fz (.str n),.fz (.str z),.fz (.int k)]
inductive bL:Ct
 |mk {rows:↥Rw} {n z:Str} {k:Nat} {P:Pk} (A:AskR rows n z k) (h:P (.fz .non) (F8 rows n z k)):bL (F8 rows n z k) P
abbrev M8:Stmt:=top 47
abbrev f_rw:FS:=
  (am (bA (ar a7 (aa (fFz (ab 0)) af)))
  (am (fIf (kL (dU (ar cr (aa (fFz (ab 1)) af))))
   eU
   aH)
  (am (fIf (kL (dU (ar c7 (aa (fFz (ab 2)) af))))
   eU
   aH)
  (fIf (kL (dU (ar c6 (aa (fFz (ab 2)) (aa (fFz (ab 3)) af)))))
   eU
   aH))))
def h_rw:Hh bL f_rw [] 4:=by
 intro os P h;obtain@⟨rows,n,z,k,_,A,q⟩:=h;revert(.mk A.b ?_) ay(.mk A.n ?_) cP ay(.mk A.s A.t ?_) cP ay(.mk A.k (acg A.s) ?_) cP(q)
abbrev rsR(rows:↥Rw):↥(Str×D):=rows.map λr=>(r.1,aG r.2.1 r.2.2)
abbrev ksR(rows:↥Rw):↥Key:=(rsR rows).map λr=>.inr r.1
abbrev dsR(rows:↥Rw):↥D:=(rsR rows).map (·.2)
theorem lW:∀rows:↥Rw,mR (rows.map fj)=!(rsR rows)
 |[]=>rfl
 | r::rows=>by
  show (match mR (rows.map fj) with
   |some q=>!((r.1,aG r.2.1 r.2.2)::q)
   |none=>none)=_
  rw[lW rows];rfl
theorem uY{Q:↥(Str×D)->Prop}(h:Q (rsR rows)):match mR (rows.map fj) with
  |some a=>Q a
  |none=>False:=by rw [lW];exact h
def JE(nd:(rows.map (·.1)).Nodup):((rsR rows).map (·.1)).Nodup:=by rw[aav];exact nd
def rlR(w:Str)(p:↥Str):Rl:=if w = "none" then .leaf .none else if w = "any" then .leaf .any else if w = "signs" then .leaf (.signs (p.headD "")) else .comp w p
def bW(rows:↥Rw):Rls:=λn=>match rows.find? λr=>decide (r.1=n) with
 |none=>.leaf .lack
 |some r=>rlR r.2.1 r.2.2
def Mw(h:iO w p):aG w p=rlD (rlR w p):=by
 obtain⟨zs,_,h⟩:=h;unfold rlR;by_cases h1:w = "none"
 .rw[if_pos h1];subst h1;rcases h with ⟨_,rfl⟩|⟨y,_⟩|⟨y,_⟩|⟨y,_⟩
  .rfl
  .exact absurd y ∅
  .exact absurd y ∅
  .exact absurd y ∅
 rw[if_neg h1];by_cases h2:w = "any"
 .rw[if_pos h2];subst h2;rcases h with ⟨_,rfl⟩|⟨y,_⟩|⟨y,_⟩|⟨y,_⟩
  .rfl
  .exact absurd y ∅
  .exact absurd y ∅
  .exact absurd y ∅
 rw[if_neg h2];by_cases a:w = "signs"
 .rw[if_pos a];subst a;rcases h with ⟨y,_⟩|⟨_,z,rfl,_⟩|⟨y,_⟩|⟨y,_⟩
  .exact absurd y ∅
  .rfl
  .exact absurd y ∅
  .exact absurd y ∅
 rw[if_neg a];rfl
def zm{f:Str}{a:↥Str}(h:yF zs w p)(e:rlR w p=.comp f a):f ≠ "signs" /\ 1<=a.length/\a.length<=8/\∀x∈a,x∈zs:=by
 unfold rlR at e;split at e
 .cases e
 .rename_i h1;split at e
  .cases e
  .rename_i h2;split at e
   .cases e
   .rename_i c;cases e;rcases h with ⟨y|y,_⟩|⟨y,_⟩|⟨_,d,b⟩|⟨_,d,b,g⟩
    .exact absurd y h1
    .exact absurd y h2
    .exact absurd y c
    .exact{c,(),(),b}
    .exact{(c),d,b,g}
theorem uZ(f:Rw->D)(n:Str):∀rows:↥Rw,iD (rows.map λr=>(.inr r.1:Key)) (rows.map f) (.inr n)=(rows.find? λr=>decide (r.1=n)).map f
 |[]=>rfl
 | r::rows=>by
  unfold iD;rw[abT,abT,acb,List.find?_cons,List.find?_cons];by_cases e:r.1=n
  .rw[show decide ((Sum.inr r.1:Key)=Sum.inr n)=true from decide_eq_true (by rw[e]),show decide (r.1=n)=true from decide_eq_true e];rfl
  .rw[show decide ((Sum.inr r.1:Key)=Sum.inr n)=false from decide_eq_false λy=>e (abh y),show decide (r.1=n)=false from decide_eq_false e];exact uZ f n rows
def o8(B:BookL rows):gA (ksR rows) (dsR rows) (bW rows):=-λn=>by
 have e:iD (ksR rows) (dsR rows) (.inr n)=(rows.find? λr=>decide (r.1=n)).map λr=>aG r.2.1 r.2.2:=by
  have:=uZ (λr=>aG r.2.1 r.2.2) n rows;unfold ksR dsR rsR;rw[aav,aav];exact this
 rw[e];unfold bW
 cases h:rows.find? λr=>decide (r.1=n) with
 |none=>rfl
 |some r=>exact Mw (B.ok r (List.mem_of_find?_eq_some h)).2
def JF(h:∀r∈rows,ES zs r.2.1 r.2.2)(n:Str):gh (bW rows) (n::zs):=-λm w p e=>by
 unfold bW at e
 cases a:rows.find? λr=>decide (r.1=m) with
 |none=>rw[a] at e;cases e
 | some r=>
  rw[a] at e;obtain⟨h1,h2,d,c⟩:=zm (h r (List.mem_of_find?_eq_some a)).2 e;exact{h1,h2,d,λx b=>aad _ (c x b)}
def Mx(A:AskR rows n z k)(b:z.length<=10000)(a:f<sizeLine):∃zs:↥Str,zs.length<=46/\MkOk (bW rows) z zs n k f:=by
 obtain⟨zs,h1,h2⟩:=A.b.b.pool;refine{n::zs,by rw[abX];nofun,JF h2 n,aab ..,A.k,?_,?_,?_,a}
 .rw[sizeLine_eq];nofun
 .rw[sizeLine_eq,abX];have:(zs.length+1)*(z.length+1)<=46*10001:=Nat.mul_le_mul () ();nofun
 .rw[sizeLine_eq,abX];nofun
inductive cv:Ct
 |mk {rows:↥Rw} {n z:Str} {k f:Nat} {r:Res} {P:Pk} (A:AskR rows n z k) (hz:z.length<=10000) (hf:f<sizeLine) (hr:rdF (bW rows) z f n k=!r) (h:∀(zs:↥Str) (K:Kp),zs.length<=46->MkOk (bW rows) z zs n k f->KpOk (bW rows) z zs K->((n,k),r)∈K->P (m7 K) (F8 rows n z k)):cv (F8 rows n z k) P
abbrev va:Stmt:=top 48
abbrev Fi:FS:=
  (am (bA (ar bL (aa (fFz (ab 0)) (aa (fFz (ab 1)) (aa (fFz (ab 2)) (aa (fFz (ab 3)) af))))))
  (am (b9 4 oC)
  (am (bA (ar iT (aa (fFz (fCB oB (aa (ab 0) af))) (aa (fFz (ab 2)) (aa (ab 4) (aa (fFz (ab 1)) (aa (fFz (ab 3)) af)))))))
  (bi (ab 4)))))
def Fj:Hh cv Fi [] 5:=by
 intro os P h;obtain@⟨rows,n,z,k,f,r,_,A,c,d,hr,q⟩:=h;obtain⟨zs,a,M⟩:=Mx A c d;revert(.mk A ?_)(uY {JE A.b.b.nd,?_})(E6 (K:=[]) (o8 A.b.b) M {aaH,(λ_ y=>nomatch y),λ_ y=>nomatch y} hr λg e b=>?_)(q zs g a M e b)
inductive c9:Ct
 |mk {rows:↥Rw} {n z:Str} {k f:Nat} {r:Res} {P:Pk} (A:AskR rows n z k) (hz:z.length<=10000) (hf:f<sizeLine) (hr:rdF (bW rows) z f n k=!r) (h:∀a b,P (.ot [.fz (dD r.ln),.fz (.int ((r.far:Int) - (k:Int)+1)),.fl a ((b8 [] (eN (bW rows) z f (n,k))).map az),.fl b ((bF r.ls).map .str)]) (F8 rows n z k)):c9 (F8 rows n z k) P
abbrev lX:Stmt:=top 49
abbrev vb:FS:=
  (am (bX (ar cv (aa (fFz (ab 0)) (aa (fFz (ab 1)) (aa (fFz (ab 2)) (aa (fFz (ab 3)) af))))) (ac 4))
  (am (bX (fOp aIx (ab 4) (fX (aa (ab 1) (aa (ab 3) af)))) (jY 3 (b5 (ac 5) (b5 (ac 6) (b5 (ac 7) jX)))))
  (bi (Er (aa (ab 5) (aa (ab 6) (aa (ar cg (aa (fFz (fCB oB (aa (ab 0) af))) (aa (fFz (ab 2)) (aa (fFz (ab 4)) (aa (fFz (ab 1)) (aa (fFz (ab 3)) af)))))) (aa (fCB iG (aa (ab 7) af)) af))))))))
def vc:Hh c9 vb [] 8:=by
 intro os P h;obtain@⟨rows,n,z,k,f,r,_,A,d,e,hr,q⟩:=h;revert(.mk A d e hr λzs K c M b a=>?_);have T:=b.res M.r a;have g:r.ls.length<=zs.length:=aax T.nd T.sub;revert{(by rw[sizeLine_eq];exact(by decide:(2:Nat)<=16777216)),?_}(dF (show cI (kM K) (lL K) [.inr n,.inl (k:Int)]=↑(yN k r) from iS b.nd a) ?_){rfl,?_}(uY {JE A.b.b.nd,?_})(qF (o8 A.b.b) M b hr a ?_)(iI (zs:=r.ls) () ?_);ext;intro as;revert{(by rw[sizeLine_eq];exact(by decide:(4:Nat)<=16777216)),?_}(q _ _)
abbrev bo(b0 b1 b2:Int):OV:=.fl [.int b0,.int b1,.int b2]
def WellB(b1 b2 n:Int):Prop:=0<=b1/\b1<2 ^ 200/\0<=b2/\b2<=n
def WellB.mono{m n:Int}(h:WellB b1 b2 m)(e:m<=n):WellB b1 b2 n:=-{h.1,h.2.1,h.2.2.1,ach h.2.2.2 e}
@[irreducible] def bg:Ct:=λos P=>∃(ns:↥Int) (k:Nat),os=[.fz (.lst (ns.map .int)),.fz (.int k)]/\∀z:Int,P (.fz (.int z)) os
abbrev AB:Stmt:=top 51
abbrev JG:FS:=
  (am (fIf (au (fOp (i8 (λi j=>decide (i<j)) a8) (ab 1) (fCB eR (aa (ab 0) af))))
   (bi (fOp aIx (ab 0) (ab 1)))
   aH)
  (bi (fC (.int 0))))
def JH:Hh bg JG [] 2:=by
 intro os P h;unfold bg at h;obtain⟨ns,k,rfl,q⟩:=h;revert ay(al ((k:Int)<(ns.map D.int).length) (by simp) (λb=>?_) (λ_=>?_))
 .ext;have a:k<ns.length:=by rw[abP] at b;nofun
  have e:atI (ns.map D.int) (k:Int)=!(.int ns[k]):=cE (by simp[a])
  show match atI (ns.map D.int) (k:Int) with
   |some d=>_
   |none=>False
  rw[e];exact q _
 .revert(q _)
def vd{ns:↥Int}(h:∀z:Int,P (.fz (.int z)) [.fz (.lst (ns.map .int)),.fz (.int k)]):bg [.fz (.lst (ns.map .int)),.fz (.int k)] P:=by
 unfold bg;exact{(ns),k,rfl,h}
inductive cz:Ct
 |mk {a b:Int} {P:Pk} (a0:0<=a) (a1:a<2 ^ 200) (b0:0<=b) (b1:b<2 ^ 41) (h:∀z:Int,0<=z->P (.fz (.int z)) [.fz (.int a),.fz (.int b)]):cz [.fz (.int a),.fz (.int b)] P
abbrev AC:Stmt:=top 52
abbrev JI:FS:=
  (am (bX (fOp eM (fOp (aIC qz λi j=>.int (i*j)) (fOp eM (ab 0) (fC (.int 1))) (fC (.int 50219736400000000000000111))) (fOp (aIC qz λi j=>.int (i*j)) (fOp eM (ab 1) (fC (.int 1))) (fC (.int 7710038100000000000000040117)))) (ac 2))
  (bi (fOp (aIC (λ_ j=>0<j) λi j=>.int (i % j)) (fOp (aIC t4 λi j=>.int (i ^ j.toNat)) (ab 2) (fC (.int 5))) (fC (.int 9403300000000000000000000000000000000009043)))))
def kE{x:Int}(a:0<=x)(h:x<2 ^ 300):x.natAbs<2 ^ 1000:=by
 have:(2:Nat) ^ 300<2 ^ 1000:=∅
 nofun
def JJ:Hh cz JI [] 3:=by
 intro os P h;obtain@⟨a,b,_,d,c,b0,b1,q⟩:=h;revert{{kE (x:=a+1) () (),∅},?_}{{kE (x:=b+1) () (),∅},?_}{{by decide,by decide,kE (x:=(a+1)*50219736400000000000000111+(b+1)*7710038100000000000000040117) () ()},?_}{(by decide:(0:Int)<9403300000000000000000000000000000000009043),?_}(q _ (Int.emod_nonneg _ (by decide)))
inductive cA:Ct
 |mk {z:Int} {k:Nat} {P:Pk} (hk:k<=100) (h:∀b0 b1 b2,0<=b0->WellB b1 b2 0->P (bo b0 b1 b2) [.fz (.int z),.fz (.int k)]):cA [.fz (.int z),.fz (.int k)] P
abbrev AD:Stmt:=top 53
abbrev JK:FS:=
  (am (bX (fOp eM (fOp (aIC CMul λi j=>.int (i*j)) (fOp (aIC (λ_ j=>0<j) λi j=>.int (i % j)) (ab 0) (fC (.int 9403300000000000000000000000000000000009043))) (fC (.int 128))) (ab 1)) (ac 2))
  (am (fIf (au (fOp (i8 (λi j=>decide (j<=i)) λi j=>⇑(a8 i j)) (ab 0) (fOp (aIC FU λi j=>.int (i ^ j.toNat)) (fC (.int 10)) (fC (.int 18)))))
   (bi (gv (aa (fOp (aI0 λi j=>.int (i - j)) (ab 0) (fOp (aIC FU λi j=>.int (i ^ j.toNat)) (fC (.int 10)) (fC (.int 18)))) (aa (ab 2) (aa (fC (.int 0)) af)))))
   aH)
  (bi (gv (aa (ar cz (aa (fFz (ab 2)) (aa (fC (.int 0)) af))) (aa (ab 2) (aa (fC (.int 0)) af)))))))
def JL:Hh cA JK [] 3:=by
 intro os P h;obtain@⟨z,k,_,g,q⟩:=h;have f:=Int.emod_nonneg z (show (9403300000000000000000000000000000000009043:Int)≠0 by decide);have e:=Int.emod_lt_of_pos z (show (0:Int)<9403300000000000000000000000000000000009043 by decide);have b:0<=z % 9403300000000000000000000000000000000009043*128+(k:Int):=()
 have a:z % 9403300000000000000000000000000000000009043*128+(k:Int)<2 ^ 200:=()
 revert{(by decide:(0:Int)<9403300000000000000000000000000000000009043),?_}{.inr {by decide,by decide},?_} ay{{by decide,by decide,by decide},?_}(al ((10:Int) ^ (18:Int).toNat<=z) decide_eq_true_iff (λc=>?_) (λc=>?_))
 .revert{{by decide,by decide,by decide},?_}{by show 3<=sizeLine;decide,?_}(q _ _ _ (Int.sub_nonneg_of_le c) {b,a,Int.le_refl _,Int.le_refl _})
 .revert(.mk b a (Int.le_refl _) (by decide) λy d=>?_){by show 3<=sizeLine;decide,?_}(q _ _ _ d {b,a,Int.le_refl _,Int.le_refl _})
@[irreducible] def ak:Ct:=λos P=>∃(b0 b1 b2 m n:Int),os=[bo b0 b1 b2,.fz (.int m)]/\WellB b1 b2 n/\n<2 ^ 40/\0<m/\m<1000000/\∀r c b a,0<=r->r<m->WellB b a (n+1)->P (.fz (.int r)) [bo c b a,.fz (.int m)]
abbrev AE:Stmt:=top 54
abbrev JM:FS:=
  (am (fIf (au (fOp aEq (fOp aIx (ab 0) (fC (.int 0))) (fC (.int 0))))
   (am (n8 0 (fOp eM (fOp aIx (ab 0) (fC (.int 2))) (fC (.int 1))) (fC (.int 2)))
  (n8 0 (ar cz (aa (fFz (fOp aIx (ab 0) (fC (.int 1)))) (aa (fFz (fOp aIx (ab 0) (fC (.int 2)))) af))) (fC (.int 0))))
   aH)
  (am (bX (fOp (aIC (λ_ j=>0<j) λi j=>.int (i % j)) (fOp aIx (ab 0) (fC (.int 0))) (ab 1)) (ac 2))
  (am (n8 0 (fOp (aIC FR λi j=>.int (i / j)) (fOp aIx (ab 0) (fC (.int 0))) (ab 1)) (fC (.int 0)))
  (bi (ab 2)))))
def JN:Hh ak JM [0] 3:=by
 intro os P h;unfold ak at h;obtain⟨b0,b1,b2,m,n,rfl,⟨h1,a,h2,e⟩,g,b,c,q⟩:=h;revert ay{aS,?_}(al (b0=0) bM (λd=>?_) (λd=>?_))
 .revert{rfl,?_}(.mk h1 a (show 0<=b2+1 from ()) () λy f=>?_){rfl,?_}{b,?_}{{b,()},?_}{rfl,?_}(q _ _ _ _ (Int.emod_nonneg _ ()) (Int.emod_lt_of_pos _ b) {h1,a,(),()})
 .revert{b,?_}{{b,()},?_}{rfl,?_}(q _ _ _ _ (Int.emod_nonneg _ ()) (Int.emod_lt_of_pos _ b) {h1,a,h2,()})
def bc{m:Int}(n:Int)(g:WellB b1 b2 n)(e:n<2 ^ 40)(f:0<m)(c:m<1000000)(h:∀r d b a,0<=r->r<m->WellB b a (n+1)->P (.fz (.int r)) [bo d b a,.fz (.int m)]) :
  ak [bo b0 b1 b2,.fz (.int m)] P:=by
 unfold ak;exact{(b0),b1,b2,m,n,rfl,g,e,f,c,h}
def lez(n:Nat)(h:autoParam (n<=16777216) L2.aD._auto_1):n<=sizeLine:=by rw[sizeLine_eq];exact h
def JO(z:Str):Prop:=z.cps.toList.length=1/\∀c∈z.cps.toList,32<=c/\c<=126/\c≠37
inductive cB:Ct
 |mk {b0 b1 b2:Int} (n:Int) {P:Pk} (hb:WellB b1 b2 n) (hn:n<2 ^ 39) (h:∀(c:Nat) (b0' b1' b2':Int),c∈ul.cps.toList->WellB b1' b2' (n+1)->P (.fz (.str ⟨#[c]⟩)) [bo b0' b1' b2']):cB [bo b0 b1 b2] P
abbrev AG:Stmt:=top 56
abbrev JP:FS:=
  (am (bX (fC (.str " !\"#$&'()*+,-./0123456789:;<=>?\x40ABCDEFGHIJKLMNOPQRSTUVWXYZ[\\]^_`abcdefghijklmnopqrstuvwxyz{|}~")) (ac 1))
  (bi (fOp aIx (ab 1) (ar ak (aa (ab 0) (aa (fC (.int 94)) af))))))
def JQ:Hh cB JP [0] 2:=by
 intro os P h;obtain@⟨b0,b1,b2,n,_,c,i,q⟩:=h;have g:0<=n:=ach c.2.2.1 c.2.2.2;revert(bc n c () (by decide) (by decide) λr b0 b1 b2 f e b=>?_){∅,?_};refine ke f (by rw[show ul.cps.toList.length=94 from um];exact e) λd a=>?_;revert(q d _ _ _ a b)
@[irreducible] def bP:Ct:=λos P=>∃(b0 b1 b2 n:Int),os=[bo b0 b1 b2]/\WellB b1 b2 n/\n<2 ^ 38/\∀(z:Str) (c b a:Int),dP z->WellB b a (n+42)->P (.fz (aG "signs" [z])) [bo c b a]
abbrev ve:Stmt:=top 57
abbrev Fk:FS:=
  (am (bX (fOp eM (fC (.int 1)) (ar ak (aa (ab 0) (aa (fFz (fOp aIx (gv (aa (fC (.int 5)) (aa (fC (.int 40)) af))) (fOp (aIC FR λi j=>.int (i / j)) (ar ak (aa (ab 0) (aa (fC (.int 8)) af))) (fC (.int 7))))) af)))) (ac 1))
  (bi (fX (aa (fC (.str "signs")) (aa (xI (fC (.str "")) (kb (bT [0] 1 (dL (aa (ab 1) af)) (ac 0) jh (ar cB (aa (ab 1) af))))) af)))))
theorem My{a b:Int}{i:Int}(c:0<=i)(h:i<2)(q:∀m,(m=a∨m=b)->Q (.int m)):match atI [D.int a,D.int b] i with
  |some d=>Q d
  | none=>False:=cJ c h fun d hd=>by
 simp only[List.mem_cons,List.not_mem_nil,or_false] at hd;rcases hd with rfl|rfl
 .exact q a (.inl rfl)
 .exact q b (.inr rfl)
def Fl:Hh bP Fk [0] 2:=by
 intro os P h;unfold bP at h;obtain⟨b0,b1,b2,n,rfl,C,L,q⟩:=h;have sz:=dB;have H:0<=n:=ach C.2.2.1 C.2.2.2;revert{lez 2,?_}(bc n C () (by decide) (by decide) λr b0 b1 b2 K J B=>?_){{by decide,by decide},?_}(My () () λm M=>?_)(bc (n+1) B () () () λr3 b0 b1 b2 F E A=>?_){{(),()},?_};ext
 refine aL (λi as ρ=>∃(zs:↥Str) (x:Option OV) (b0 b1 b2:Int),as=zs.map .str/\zs.length=i/\(∀z∈zs,JO z)/\WellB b1 b2 (n+2+i) /\
   ρ=[x,!(bo b0 b1 b2),!(.fz (.int (1+r3)))])
  {[],none,b0,b1,b2,rfl,rfl,(λ_ h=>by cases h),A.mono (),rfl} ?_ ?_
 .rintro i d as ρ R hd ⟨zs,x,b0,b1,b2,rfl,u,p,b,rfl⟩ k;obtain⟨hi,rfl⟩:=bh hd;revert cw(.mk _ b () λd b0 b1 b2 v w=>?_){by rw[abP];nofun,k _ _ {zs++[{#[d]}],!(.fz (.int (0+i))),b0,b1,b2,by rw[aae];rfl,by simp[u],λz a=>?_,w.mono (),rfl}};rcases abQ.mp a with h|h
  .exact p z h
  .have:z={#[d]}:=(by exists h);rw[this]
   exact{rfl,λy G=>by
    have:y=d:=(by exists G);rw[this];exact oF d v}
 .rintro as ρ ⟨zs,x,b0,b1,b2,rfl,u,p,b,rfl⟩;rw[bS] at u b;have e:(mm zs).length<=zs.length:=xK zs;revert(kg {{by show _<4096;nofun,()},?_});have g:∀z∈mm zs,JO z:=λz a=>p z (ka.mp a)
  have f:1<=(mm zs).length:=by
   have I:1<=zs.length:=()
   cases zs with
   |nil=>simp at I
   |cons z zs=>exact abD (ka.mpr (aab ..))
  have l:=mO zs;have j:=jF zs;generalize mm zs=ss at e g f l j ⊢;obtain⟨cs,rfl⟩:=oG λz a=>(g z a).1;have s:=qE l j;rw[abP] at e f;ext
  have t:((cs.map λc=>({#[c]}:Str)).map (·.length)).sum=cs.length:=by
   rw[aav];exact gK cs
  refine kg {by rw[t,abP];show cs.length+cs.length*0<=_;nofun,?_};have o:(Builtin.Str.glued (Str.ofString "") (cs.map λc=>({#[c]}:Str))).cps.toList=cs:=(ig _).trans (jI cs);revert{lez 2,?_}(q _ _ _ _ {by rw[o];nofun,by rw[o];nofun,by rw[o];exact s,λc D=>?_} (b.mono ()));rw[o] at D;exact(g {#[c]} (abW.mpr {(c),D,rfl})).2 c (by simp)
def zn{n:Int}(e:WellB b1 b2 n)(d:n<2 ^ 38)(h:∀(z:Str) (c b a:Int),dP z->WellB b a (n+42)->P (.fz (aG "signs" [z])) [bo c b a]) :
  bP [bo b0 b1 b2] P:=by
 unfold bP;exact{(b0),b1,b2,n,rfl,e,d,h}
def JR(o:OV)(ns:↥Str):Prop:=o=.fl (ns.map .str)
inductive bp:Ct
 |mk {b0 b1 b2:Int} (n:Int) {ns:↥Str} {o:OV} {P:Pk} (ho:JR o ns) (hb:WellB b1 b2 n) (hn:n<2 ^ 38) (hns:∀z∈ns,dX z) (hl:ns.length<=45) (h:∀(z:Str) (b0' b1' b2':Int),dX z->z∉ns->WellB b1' b2' (n+13)->P (.fz (.str z)) [bo b0' b1' b2',o]):bp [bo b0 b1 b2,o] P
abbrev lY:Stmt:=top 55
abbrev vf:FS:=
  (am (bX (fC (.str "abcdefghijklmnopqrstuvwxyz")) (ac 2))
  (am (bX (ar ak (aa (ab 0) (aa (fC (.int 3)) af))) (ac 3))
  (am (bX (fOp aIx (ab 2) (ar ak (aa (ab 0) (aa (fC (.int 26)) af)))) (ac 4))
  (am (bX (xI (fC (.str "")) (bT [2,0] 1 (dL (aa (fOp eM (fC (.int 1)) (ar ak (aa (ab 0) (aa (fC (.int 8)) af)))) af)) (ac 0) jh (fOp aIx (ab 3) (ar ak (aa (ab 1) (aa (fC (.int 26)) af)))))) (ac 5))
  (am (fIf (Da (au (fOp (i8 (λi j=>decide (j<i)) λi j=>a8 j i) (ab 3) (fC (.int 0)))) (au (fOp aNe (ab 1) (gv af))))
   (am (bX (fOp aIx (ab 1) (ar ak (aa (ab 0) (aa (fFz (fCB eR (aa (ab 1) af))) af)))) (ac 6))
  (am (bX (ar ak (aa (ab 0) (aa (fFz (fOp eM (fCB eR (aa (ab 6) af)) (fC (.int 1)))) af))) (ac 7))
  (bX (fSl aSl (fOp eM (fOp eM (fSl aSl (ab 6) cH (ir (ab 7))) (ab 4)) (fSl aSl (ab 6) (ir (fOp (aI0 λi j=>.int (i - j)) (fOp eM (ab 7) (ab 3)) (fC (.int 1)))) cH)) cH (ir (fC (.int 8)))) (ac 5))))
   aH)
  (am (bX (fOp eM (fOp eM (gv (aa (ab 5) af)) (bT [2] 1 (dL (aa (fC (.int 26)) af)) (ac 0) jh (fOp aIx (ab 3) (ab 0)))) (bT [2] 1 (dL (aa (fC (.int 26)) af)) (ac 0) jh (fOp eM (fOp aIx (ab 3) (ab 0)) (fOp aIx (ab 3) (ab 0))))) (ac 8))
  (bi (fOp aIx (bT [1] 1 (bQ (ab 8)) (ac 0) (au (fOp oa (ab 0) (ab 2))) (ab 0)) (fC (.int 0))))))))))
def iY(zs:↥Str):okDs (zs.map D.str)=true:=by
 induction zs with
 |nil=>rfl
 |cons z zs a=>exact a
def e9(zs:↥Str):deps (toDVs (zs.map D.str))=0:=by
 induction zs with
 |nil=>rfl
 |cons z zs a=>exact(Nat.zero_max _).trans a
def zo(zs:↥Str):dep (nR (.lst (zs.map D.str)))<=40:=-aar (abJ (Nat.le_of_eq (e9 zs))) (by decide)
def zp :DL (.lst (zs.map D.str)) (.lst []):=-{iY zs,rfl,zo zs}
def Fm :(⇑(dEq (.lst (zs.map D.str)) (.lst [])))=true↔zs≠[]:=by
 cases zs with
 |nil=>exact{λh=>Bool.noConfusion (show false=true from h),λh=>absurd rfl h}
 |cons z zs=>exact{λ_=>List.cons_ne_nil z zs,λ_=>rfl}
abbrev ng:↥Str:=abc.cps.toList.map λc=>{#[c]}
def kF:ng.length=26:=-∅
def iZ(h:c∈abc.cps.toList):Ap [c]:=-λd hd=>by
 have:d=c:=(by exists hd);rw[this];exact ER c h
def vg(h:z∈ng):dX z:=by
 obtain⟨c,a,rfl⟩:=abW.mp h;exact{aac 1,(by decide:(1:Nat)<=8),iZ a}
abbrev o9:↥Str:=abc.cps.toList.map λc=>{#[c]}++{#[c]}
def pb:o9.length=26:=-∅
def vh(h:z∈o9):dX z:=by
 obtain⟨c,a,rfl⟩:=abW.mp h;exact{(by decide:(1:Nat)<=2),(by decide:(2:Nat)<=8),kr (iZ a) (iZ a)}
def Fn:(ng++o9).Nodup:=-∅
def zq(h:ns.length<=45):∃z∈ng++o9,z∉ns:=by
 refine Classical.byContradiction λh'=>?_;have hs:∀z∈ng++o9,z∈ns:=λz a=>Classical.byContradiction λe=>h' {(z),a,e};have:=aax Fn hs;rw[aag,kF,pb] at this;nofun
def AH(h:i<26):∃c,abc.cps.toList[i]?=!c/\c∈abc.cps.toList:=by
 have hi:i<abc.cps.toList.length:=by rw[mW];exact h
 exact{_,List.getElem?_eq_getElem hi,aaJ hi}
def vi:Hh bp vf [0,1] 9:=by
 intro os P h;obtain@⟨b0,b1,b2,n,ns,o,_,H,E,I,T,U,q⟩:=h;have sz:=dB;have hn0:0<=n:=ach E.2.2.1 E.2.2.2;revert(bc n E () (by decide) (by decide) λway b0 b1 b2 w0 w1 hb1=>?_)(bc (n+1) hb1 () (by decide) (by decide) λr b0 b1 b2 r0 r1 hb2=>?_){∅,?_};refine ke r0 (by rw[show (Str.ofString "abcdefghijklmnopqrstuvwxyz").cps.toList.length=26 from mW];exact r1) λc hcm=>?_;have cl1:=iZ hcm;revert(bc (n+1+1) hb2 () (by decide) (by decide) λr3 b0 b1 b2 r30 r31 hb3=>?_){{(),()},?_};ext
 refine aL (λi as ρ=>∃(zs:↥Str) (x:Option OV) (b0 b1 b2:Int),as=zs.map .str/\zs.length=i/\(∀z∈zs,z.cps.toList.length=1/\Ap z.cps.toList)/\WellB b1 b2 (n+3+i) /\
   ρ=[x,!(bo b0 b1 b2),!o,!(.fz (.str abc)),!(.fz (.int way)),!(.fz (.str {#[c]})),none,none,none,none])
  {[],none,b0,b1,b2,rfl,rfl,(λ_ h=>by cases h),hb3.mono (),rfl} ?_ ?_
 .rintro i d as ρ R hd ⟨zs,x,b0,b1,b2,rfl,X,g,f,rfl⟩ k;obtain⟨hi,rfl⟩:=bh hd;revert cw(bc _ f () (by decide) (by decide) λr5 b0 b1 b2 N M hb5=>?_){∅,?_};refine ke N (by rw[show (Str.ofString "abcdefghijklmnopqrstuvwxyz").cps.toList.length=26 from mW];exact M) λe m=>?_;revert{by rw[abP];nofun,k _ _ {zs++[{#[e]}],!(.fz (.int (0+i))),b0,b1,b2,by rw[aae];rfl,by simp[X],λz b=>?_,hb5.mono (),rfl}};rcases abQ.mp b with h|h
  .exact g z h
  .have:z={#[e]}:=(by exists h);rw[this];exact{rfl,iZ m}
 .rintro as ρ ⟨zs,x,b0,b1,b2,rfl,X,g,f,rfl⟩;rw[bS] at X f
  have B:(zs.map λz=>z.cps.toList).flatten.length=zs.length:=by
   rw[List.length_flatten,aav];have:zs.map ((λl:↥Nat=>l.length) ∘ λz:Str=>z.cps.toList)=zs.map λ_=>1:=abr λz b=>(g z b).1;rw[show (List.map (List.length ∘ λz:Str=>z.cps.toList) zs)=zs.map λ_=>1 from this];exact gK zs
  have V:(zs.map (·.length)).sum=zs.length:=by
   have:zs.map (·.length)=zs.map λ_=>1:=abr λz b=>by rw[cf];exact(g z b).1
   rw[this];exact gK zs
  have Y:(Builtin.Str.glued (Str.ofString "") zs).cps.toList=(zs.map λz=>z.cps.toList).flatten:=ig zs
  have hN:dX (Builtin.Str.glued (Str.ofString "") zs):=by
   refine{by rw[Y,B];nofun,by rw[Y,B];nofun,?_};rw[Y];intro y a;obtain⟨l,W,O⟩:=List.mem_flatten.mp a;obtain⟨z,b,rfl⟩:=abW.mp W;exact(g z b).2 y O
  revert(kg {by rw[V];show zs.length+zs.length*0<=_;nofun,?_});generalize Builtin.Str.glued (Str.ofString "") zs=nm at hN ⊢;revert(gc (λρ=>∃(z:Str) (b0 b1 b2:Int) (s p:Option OV),dX z/\WellB b1 b2 (n+13)/\ρ=[!(bo b0 b1 b2),!o,!(.fz (.str abc)),!(.fz (.int way)),!(.fz (.str {#[c]})),!(.fz (.str z)),s,p,none]) ?_ ?_)
  .rintro ρ ⟨z,b0,b1,b2,s,p,g,E,rfl⟩;revert{lez 1,?_}{{by decide,by decide},?_}(aL (λi as ρ=>∃(x:Option OV),as=(ng.take i).map .str/\ρ=[x,!(bo b0 b1 b2),!o,!(.fz (.str abc)),!(.fz (.int way)),!(.fz (.str {#[c]})),!(.fz (.str z)),s,p,none]) {(none),rfl,rfl} ?_ ?_)
   .rintro i d as ρ R hd ⟨x,rfl,rfl⟩ k;obtain⟨hi,rfl⟩:=bh hd;obtain⟨e,C,m⟩:=AH (i:=i) ();have J:atI abc.cps.toList ((0:Int)+i)=!e:=by rw[Int.zero_add];exact cE C
    revert cw{∅,?_};rw[J];revert{by rw[abP,aao];nofun,k _ _ {_,?_,rfl}};rw[aap,List.getElem?_map,C,aae];rfl
   .rintro as ρ ⟨x,rfl,rfl⟩;rw[bS,show ng.take (26:Int).toNat=ng from ∅];revert{by show 1+(ng.map D.str).length<=sizeLine;rw[abP,kF];nofun,?_}{{by decide,by decide},?_}(aL (λi as ρ=>∃(x:Option OV),as=(o9.take i).map .str/\ρ=[x,!(bo b0 b1 b2),!o,!(.fz (.str abc)),!(.fz (.int way)),!(.fz (.str {#[c]})),!(.fz (.str z)),s,p,none]) {(none),rfl,rfl} ?_ ?_)
    .rintro i d as ρ R hd ⟨x,rfl,rfl⟩ k;obtain⟨hi,rfl⟩:=bh hd;obtain⟨e,C,m⟩:=AH (i:=i) ();have J:atI abc.cps.toList ((0:Int)+i)=!e:=by rw[Int.zero_add];exact cE C
     revert cw{∅,?_};rw[J];revert{∅,?_};rw[J];revert{by show 1+1<=sizeLine;nofun,?_}{by rw[abP,aao];nofun,k _ _ {_,?_,rfl}};rw[aap,List.getElem?_map,C,aae];rfl
    .rintro as ρ ⟨x,rfl,rfl⟩;rw[bS,show o9.take (26:Int).toNat=o9 from ∅];have eL:[D.str z]++ng.map D.str++o9.map D.str=(z::(ng++o9)).map D.str:=by rw[abT,aae];rfl
     have G:∀y∈z::(ng++o9),dX y:=λy a=>by
      rcases abS.mp a with rfl|a
      .exact g
      .rcases abQ.mp a with a|a
       .exact vg a
       .exact vh a
     have F:∃y∈z::(ng++o9),y∉ns:=by
      obtain⟨y,a,I⟩:=zq U;exact{y,aad _ a,I}
     have hL3:(z::(ng++o9)).length<=60:=by rw[abX,aag,kF,pb];nofun
     revert{by rw[← aag,eL,abP];nofun,?_};rw[eL];generalize z::(ng++o9)=L at G F hL3;revert(aL (λi as ρ=>∃(x:Option OV),as=((L.take i).filter λy=>decide (y∉ns)).map .str/\ρ=[x,!(bo b0 b1 b2),!o,!(.fz (.str abc)),!(.fz (.int way)),!(.fz (.str {#[c]})),!(.fz (.str z)),s,p,!(.fz (.lst (L.map .str)))]) {(none),rfl,rfl} ?_ ?_)
     .rintro i d as ρ R hd ⟨x,rfl,rfl⟩ k
      obtain⟨y,a,rfl⟩:∃y,L[i]?=!y/\d=.str y:=by
       rw[List.getElem?_map,aaj] at hd;obtain⟨r,h1,h2⟩:=hd;exact{(r),h1,h2.symm}
      have Z:=aa6 (λy=>decide (y∉ns)) (L.take i);rw[aao] at Z;subst H
      all_goals
       revert{{rfl,gM ns},?_}(al (y∉ns) (by rw[aaV,abI,Ne,b6]) (λS=>?_) (λS=>?_))
       .revert{by rw[abP];nofun,k _ _ {_,?_,rfl}};rw[aap,a,aaY,aae];simp[S]
       .refine k _ _ {_,?_,rfl};rw[aap,a,aaY,aae];have Q:=Classical.not_not.mp S;simp[Q]
     .rintro as ρ ⟨x,rfl,rfl⟩;rw[abP,aai (aac _)]
      obtain⟨y,r,e⟩:∃y r,L.filter (λy=>decide (y∉ns))=y::r:=by
       cases h:L.filter (λy=>decide (y∉ns)) with
       | nil=>
        obtain⟨y,a,I⟩:=F;have:y∈L.filter (λy=>decide (y∉ns)):=ab3.mpr {a,decide_eq_true I};rw[h] at this;cases this
       |cons y r=>exact{(y),r,rfl}
      have hm:y∈L.filter (λy=>decide (y∉ns)):=by rw[e];exact aab ..
      obtain⟨m1,m2⟩:=ab3.mp hm;rw[e,abT];revert bN(q _ _ _ _ (G y m1) (of_decide_eq_true m2) E)
  .intro rest;revert(al (0<way) decide_eq_true_iff (λhw=>?_) (λhw=>?_))
   .subst H
    all_goals
     revert{aan _,?_}{zp,?_}(al (ns≠[]) Fm (λA=>?_) (λA=>rest _ {nm,b0,b1,b2,_,_,hN,f.mono (),rfl}));have hlp:0<ns.length:=List.length_pos_iff.mpr A;have hlm:(ns.map D.str).length=ns.length:=abP ..;revert(bc _ f () () () λr6 b0 b1 b2 K r61 hb6=>?_)(cJ K () λd hd=>?_);obtain⟨old,H,rfl⟩:=abW.mp hd;obtain⟨o1,o2,o3⟩:=T old H;have hol:old.length=old.cps.toList.length:=cf old;revert{(),?_}(bc _ hb6 () () () λat' b0 b1 b2 a0 a1 hb7=>?_);obtain⟨k,rfl⟩:=abC a0;revert{(),?_};have w:=(ku old none !(k:Int)).trans (se old.cps.toList k);have l1:(j7 old none !(k:Int)).length=k:=by rw[sg w,aao];nofun
     revert{by rw[l1];show k+1<=sizeLine;nofun,?_}{(),?_};obtain⟨j,ej⟩:∃j:Nat,(k:Int)+way - 1=j:={((k:Int)+way - 1).toNat,()};have v:(j7 old ↑((k:Int)+way - 1) none).cps.toList=old.cps.toList.drop j:=(ku ..).trans (by rw[ej];exact cG ..);have l2:(j7 old ↑((k:Int)+way - 1) none).length=old.cps.toList.length - j:=by rw[sg v,aaN]
     have t:(j7 old none ↑(k:Int)++({#[c]}:Str)).length=k+1:=by rw[cf,fQ,aag,← cf,l1];rfl
     revert{by rw[t,l2];nofun,?_};have l3:(j7 old none ↑(k:Int)++({#[c]}:Str)++j7 old ↑((k:Int)+way - 1) none).length=k+1+(old.cps.toList.length - j):=by rw[cf,fQ,aag,← cf,← cf,t,l2]
     have h3:Ap (j7 old none ↑(k:Int)++({#[c]}:Str)++j7 old ↑((k:Int)+way - 1) none).cps.toList:=by
      rw[fQ,fQ,w,v];exact kr (kr (λd hd=>o3 d (abm hd)) cl1) λd hd=>o3 d (abN hd)
     generalize j7 old none ↑(k:Int)++({#[c]}:Str)++j7 old ↑((k:Int)+way - 1) none=y at l3 h3 ⊢;revert{(),?_};have u:=(ku y none !((8:Nat):Int)).trans (se y.cps.toList 8);have hyl:=cf y;refine rest _ {j7 y none !8,b0,b1,b2,_,_,{?_,?_,?_},hb7.mono (),rfl}
     .exact(by rw[u,aao];nofun:1<=(j7 y none !((8:Nat):Int)).cps.toList.length)
     .exact(by rw[u,aao];nofun:(j7 y none !((8:Nat):Int)).cps.toList.length<=8)
     .exact λd hd=>h3 d (wL (by rw[← ku];exact hd))
   .revert(cP (rest _ {nm,b0,b1,b2,_,_,hN,f.mono (),rfl}))
abbrev bE(rows:↥Rw):OV:=.fd ((rows.map (·.1)).map Sum.inr) (rows.map λr=>aG r.2.1 r.2.2)
inductive da:Ct
 |mk {b0 b1 b2:Int} (n:Int) {rows:↥Rw} {P:Pk} (hb:WellB b1 b2 n) (hn:n<2 ^ 38) {M:Nat} (hM:M<=24) (hr:∀r∈rows,r.2.1 = "signs" -> ∃y,r.2.2=[y]/\dP y) (hl:rows.length<=30) (h:∀(z:Str) (b0' b1' b2':Int),z.length<=M->(∀c∈z.cps.toList,32<=c/\c<=126/\c≠37)->WellB b1' b2' (n+100)->P (.fz (.str z)) [bo b0' b1' b2',bE rows,.fz (.int M)]):da [bo b0 b1 b2,bE rows,.fz (.int M)] P
abbrev AI:Stmt:=top 61
abbrev JS:FS:=
  (am (bX (xI (fC (.str "")) (tN [] 1 1 (ac 0) (au (fOp aEq (fOp aIx (ab 0) (fC (.int 0))) (fC (.str "signs")))) (fOp aIx (ab 0) (fC (.int 1))))) (ac 3))
  (am (bX (fC (.str "")) (ac 4))
  (am (jz (dL (aa (ar ak (aa (ab 0) (aa (fFz (fOp eM (ab 2) (fC (.int 1)))) af))) af)) (ac 5)
   (am (bX (ar cB (aa (ab 0) af)) (ac 6))
  (am (fIf (Da (au (fOp aNe (ab 3) (fC (.str "")))) (au (fOp (i8 (λi j=>decide (j<i)) λi j=>a8 j i) (ar ak (aa (ab 0) (aa (fC (.int 8)) af))) (fC (.int 0)))))
   (bX (fOp aIx (ab 3) (ar ak (aa (ab 0) (aa (fFz (fCB eR (aa (ab 3) af))) af)))) (ac 6))
   aH)
  (bX (fOp eM (ab 4) (ab 6)) (ac 4)))))
  (bi (ab 4)))))
theorem pc:∀{zs:↥Str},(∀y∈zs,dP y)->(zs.map (·.length)).sum<=40*zs.length
 |[],_=>aac _
 | z::zs,h=>by
  have h1:=(h z (aab ..)).2.1;have h2:=pc (zs:=zs) λy a=>h y (aad _ a);have b:=cf z;rw[abT,List.sum_cons,abX];nofun
def Fo(h:∀y∈zs,dP y):∀c∈(zs.map λz=>z.cps.toList).flatten,32<=c/\c<=126/\c≠37:=-λc e=>by
 obtain⟨l,d,b⟩:=List.mem_flatten.mp e;obtain⟨z,a,rfl⟩:=abW.mp d;exact(h z a).2.2.2 c b
theorem vj:∀{zs:↥Str},(∀y∈zs,dP y)->(zs.map λz=>z.cps.toList).flatten.length<=40*zs.length
 |[],_=>aac _
 | z::zs,h=>by
  have h1:=(h z (aab ..)).2.1;have h2:=vj (zs:=zs) λy a=>h y (aad _ a);rw[abT,List.flatten_cons,aag,abX];nofun
def JT:Hh da JS [0,1] 7:=by
 intro os P h;obtain@⟨b0,b1,b2,n,rows,_,F,hn,M,hM,hr,hl,q⟩:=h;have sz:=dB;have V:0<=n:=ach F.2.2.1 F.2.2.2;ext
 refine aL (λi as ρ=>∃(x:Option OV) (zs:↥Str),as=zs.map .str/\zs.length<=i/\(∀y∈zs,dP y)/\ρ=[x,fzo !(bo b0 b1 b2),!(.fz (.dct ((rows.map (·.1)).map Sum.inr) (rows.map λr=>aG r.2.1 r.2.2))),fzo !(.fz (.int M)),fzo none,fzo none,fzo none,fzo none])
  {none,[],rfl,aac _,(λ_ h=>nomatch h),rfl} ?_ ?_
 .rintro i d as ρ R hd ⟨x,zs,rfl,j,g,rfl⟩ k
  obtain⟨r,l,rfl⟩:∃r,rows[i]?=!r/\d=aG r.2.1 r.2.2:=by
   have hd:(rows.map λr=>aG r.2.1 r.2.2)[i]?=!d:=hd;rw[List.getElem?_map,aaj] at hd;obtain⟨r,h1,h2⟩:=hd;exact{(r),h1,h2.symm}
  have hi:=(List.getElem?_eq_some_iff.mp l).1;revert bN{ai,?_}(al (r.2.1 = "signs") aq (λI=>?_) (λI=>?_))
  .obtain⟨y,Q,hs⟩:∃y,r.2.2=[y]/\dP y:=hr r (List.mem_of_getElem? l) I;rw[Q];revert{by rw[abP];nofun,k _ _ {_,zs++[y],by rw[aae];rfl,by rw[aag,aaQ];nofun,λv S=>?_,rfl}};rcases abQ.mp S with h|h
   .exact g v h
   .rw[abR.mp h];exact hs
  .exact k _ _ {_,zs,rfl,(),g,rfl}
 .rintro as ρ ⟨x,zs,rfl,j,g,rfl⟩
  have H:zs.length<=30:=by
   have e:(L6 ((rows.map (·.1)).map Sum.inr) (rows.map λr=>aG r.2.1 r.2.2)).length=rows.length:=by show (rows.map _).length=_;rw[abP]
   rw[e] at j;nofun
  have h1:=pc g;have W:(Builtin.Str.glued (Str.ofString "") zs).cps.toList=(zs.map λz=>z.cps.toList).flatten:=ig zs;have h2:=vj g;have G:=Fo g;rw[← W] at h2 G;refine{{_,rfl},?_};revert(kg {by show _+zs.length*0<=_;nofun,?_});generalize Builtin.Str.glued (Str.ofString "") zs=own at h2 G ⊢;have U:=cf own;revert(bc n F () () () λm b0 b1 b2 m0 Z E=>?_){{(),()},?_};ext
  refine aW (λi ρ=>∃(t:Str) (w u:Option OV) (b0 b1 b2:Int),t.cps.toList.length=i/\(∀c∈t.cps.toList,32<=c/\c<=126/\c≠37)/\WellB b1 b2 (n+1+3*i)/\ρ=[!(bo b0 b1 b2),!(bE rows),!(.fz (.int M)),!(.fz (.str own)),!(.fz (.str t)),w,u])
   {"", _,_,b0,b1,b2,rfl,(λ_ h=>nomatch h),E.mono (),rfl} ?_ ?_
  .rintro i d ρ R hd ⟨t,w,u,b0,b1,b2,f,B,b,rfl⟩ k;obtain⟨hi,rfl⟩:=bh hd;have J:=cf t;revert(.mk _ b () λc b0 b1 b2 C p=>?_);have o:=oF c C;revert(gc (λρ=>∃(c:Nat) (b0 b1 b2:Int),(32<=c/\c<=126/\c≠37)/\WellB b1 b2 (n+1+3*i+3)/\ρ=[!(bo b0 b1 b2),!(bE rows),!(.fz (.int M)),!(.fz (.str own)),!(.fz (.str t)),!(.fz (.int (0+i))),!(.fz (.str {#[c]}))]) ?_ ?_)
   .rintro ρ ⟨c,b0,b1,b2,C,a,rfl⟩;revert{by show t.length+1<=sizeLine;nofun,?_};refine k _ {t++{#[c]},_,_,b0,b1,b2,by rw[fQ,aag,f];rfl,λe s=>?_,a.mono (),rfl};rw[fQ] at s;rcases abQ.mp s with h|h
    .exact B e h
    .have:e=c:=(by exists h);rw[this];exact C
   .intro rest;revert{ai,?_}(al (own ≠ "") oj (λX=>?_) (λ_=>?_))
    .have T:0<own.cps.toList.length:=by
      refine Nat.pos_of_ne_zero λz=>X (ie ?_);rw[aaA z];rfl
     revert(bc _ p () (by decide) (by decide) λO b0 b1 b2 N L a=>?_)(al (0<O) decide_eq_true_iff (λ_=>?_) (λ_=>?_))
     .revert{(),?_}(bc _ a () () () λY b0 b1 b2 A K D=>?_){(),?_};refine ke A () λe s=>?_;exact rest _ {e,b0,b1,b2,G e s,D.mono (),rfl}
     .exact rest _ {c,b0,b1,b2,o,a.mono (),rfl}
    .revert(cP (rest _ {c,b0,b1,b2,o,p.mono (),rfl}))
  .rintro ρ ⟨t,w,u,b0,b1,b2,f,B,b,rfl⟩;rw[bS] at f b;revert(q t b0 b1 b2 (by rw[cf];nofun) B (b.mono ()))
def eS(rows:↥Rw)(n:Str):Option Rw:=rows.find? λr=>decide (r.1=n)
def cD(h:n∈rows.map (·.1)):∃r∈rows,r.1=n/\eS rows n=!r:=by
 obtain⟨r,hr,e⟩:=abW.mp h
 cases q:eS rows n with
 | none=>
  have:=List.find?_eq_none.mp q r hr;simp[e] at this
 | some r'=>
  have h1:=List.find?_some q;exact{r',List.mem_of_find?_eq_some q,of_decide_eq_true h1,rfl}
def ah(rows:↥Rw):↥Rw:=(bF (rows.map (·.1))).filterMap (eS rows)
inductive bV:Ct
 |mk {rows:↥Rw} {P:Pk} (nd:(rows.map (·.1)).Nodup) (hl:rows.length<=30) (h:P (.fl ((ah rows).map fj)) [bE rows]):bV [bE rows] P
abbrev pd:Stmt:=top 62
abbrev zr:FS:=
  (bi (bT [0] 1 (bQ (fCB iG (aa (ab 0) af))) (ac 0) jh (fX (aa (ab 0) (aa (fOp aIx (ab 1) (ab 0)) af)))))
def gl{r:Rw}(h:eS rows n=!r):iD ((rows.map (·.1)).map Sum.inr) (rows.map λr=>aG r.2.1 r.2.2) (.inr n)=!(aG r.2.1 r.2.2):=by
 unfold eS at h
 induction rows with
 |nil=>cases h
 | cons a rows b=>
  unfold iD at b ⊢;rw[abT,abT,abT,acb,List.find?_cons];rw[List.find?_cons] at h;by_cases e:a.1=n
  .rw[decide_eq_true e] at h;cases h;rw[decide_eq_true (congrArg Sum.inr e)];rfl
  .rw[decide_eq_false e] at h;rw[show decide ((Sum.inr a.1:Key)=Sum.inr n)=false from decide_eq_false λz=>e (abh z)];exact b h
def Fp{f:α->Option β}{l:↥α}{a:α}{b:β}(h:l[i]?=!a)(c:f a=!b):(l.take (i+1)).filterMap f=(l.take i).filterMap f++[b]:=by
 rw[aap,h,List.filterMap_append];simp[c]
def zt:Hh bV zr [0] 1:=by
 intro os P h;obtain@⟨rows,_,nd,g,q⟩:=h;have sz:=dB;revert(iI (by rw[abP];nofun) ?_);have c:(bF (rows.map (·.1))).length=rows.length:=by rw[(aB _).length_eq,abP]
 have a:∀z∈bF (rows.map (·.1)),z∈rows.map (·.1):=λz b=>(aB _).mem_iff.mp b;unfold ah at q;generalize bF (rows.map (·.1))=ss at c a q ⊢;revert(aL (λi as ρ=>∃(x:Option OV),as=((ss.take i).filterMap (eS rows)).map fj/\ρ=[x,!(bE rows)]) {(none),rfl,rfl} ?_ ?_)
 .rintro i d as ρ R hd ⟨x,rfl,rfl⟩ k
  obtain⟨z,b,rfl⟩:∃y,ss[i]?=!y/\d=.str y:=by
   rw[List.getElem?_map,aaj] at hd;obtain⟨r,h1,h2⟩:=hd;exact{(r),h1,h2.symm}
  obtain⟨r,hr,rfl,e⟩:=cD (a z (List.mem_of_getElem? b));have f:=List.length_filterMap_le (eS rows) (ss.take i);rw[aao] at f;revert cw;ext;rw[gl e];revert{lez 2,?_}{by rw[abP];nofun,k _ _ {_,?_,rfl}};rw[Fp b e,aae];rfl
 .rintro as ρ ⟨x,rfl,rfl⟩;rw[abP,aai (aac _)];revert(q)
def gB :(ah rows).map (·.1)=bF (rows.map (·.1)):=by
 unfold ah;have a:∀z∈bF (rows.map (·.1)),z∈rows.map (·.1):=λz c=>(aB _).mem_iff.mp c;generalize bF (rows.map (·.1))=ss at a ⊢
 induction ss with
 |nil=>rfl
 | cons z ss b=>
  obtain⟨r,hr,f,e⟩:=cD (a z (aab ..));rw[abu,e];show r.1::_=_;rw[b λy d=>a y (aad _ d),f]
def ci{r:Rw}(h:r∈ah rows):r∈rows:=by
 unfold ah at h;obtain⟨n,_,e⟩:=List.mem_filterMap.mp h;exact List.mem_of_find?_eq_some e
def zu{a b:Str}(h:cR a b=true)(ne:a≠b):a8 a b=true:=by
 cases e:a8 a b with
 |true=>rfl
 |false=>exact absurd (fZ h (by show (⇑(a8 a b))=true;rw[e];rfl)) ne
theorem pf:∀{ps zs:↥Str} {x:Str},x∈kN zs ps->x∈ps
 |[],_,_,h=>nomatch h
 | p::ps,zs,x,h=>by
  unfold kN at h;split at h
  .rcases abS.mp h with y|y
   .rw[y];exact aab ..
   .exact aad _ (pf y)
  .rw[abR.mp h];exact aab ..
def eP{rest:↥Str}(h:x∈bG zs w rest):x∈bU w rest:=by
 unfold bG at h;split at h
 .rename_i h1;unfold bU;rw[if_neg (by rw[h1];decide +kernel)];exact pf h
 .exact h
structure RulesB(rows:↥Rw)(pool:↥Str)(rank:Str->Nat):Prop where
 nd:(rows.map (·.1)).Nodup
 ok:∀r∈rows,dX r.1/\yF pool r.2.1 r.2.2
 few:rows.length<=30
 pn:∀z∈pool,dX z
 pl:pool.length<=45
 dw:∀zs:↥Str,(∀z,z∈zs↔Emp (ah rows) z)->∀r∈rows,∀p∈bG zs r.2.1 r.2.2,rank p<rank r.1
def lZ{rank:Str->Nat}(R:RulesB rows pool rank):BookR (ah rows):=by
 have f:=gB (rows:=rows);have b:((ah rows).map (·.1)).Nodup:=by rw[f];exact(aB _).nodup_iff.mpr R.nd
 have o:(ah rows).length=rows.length:=by
  have:=congrArg List.length f;rw[abP,(aB _).length_eq,abP] at this;exact this
 refine{{b,λr hr=>?_,by rw[o];have:=R.few;nofun,{pool,R.pl,λr hr=>{R.pn,(R.ok r (ci hr)).2}}},λi r s hr hs=>?_,λzs j S q=>?_}
 .have:=R.ok r (ci hr);exact{(this.1),pool,R.pn,this.2}
 .have h1:((ah rows).map (·.1))[i]?=!r.1:=by rw[List.getElem?_map,hr];rfl
  have h2:((ah rows).map (·.1))[i+1]?=!s.1:=by rw[List.getElem?_map,hs];rfl
  have hs:=bR (rows.map (·.1));rw[← f] at hs;obtain⟨g1,u⟩:=List.getElem?_eq_some_iff.mp h1;obtain⟨g2,t⟩:=List.getElem?_eq_some_iff.mp h2;have c:=ab7.mp hs i (i+1) g1 g2 (aaD i);have a:=ab7.mp b i (i+1) g1 g2 (aaD i);rw[u,t] at c a;exact zu c a
 .cases S with
  |nil=>rfl
  | cons n S=>
   have go:∀(m:Nat) (x:Str),x∈n::S->rank x<m->False:=by
    intro m
    induction m with
    |zero=>intro x _ h;nofun
    | succ m g=>
     intro x k h;obtain⟨r,hr,e,p,l,d⟩:=q x k;have:=R.dw zs j r (ci hr) p l;rw[e] at this;exact g p d ()
   exact(go (rank n+1) n (aab ..) (aaD _)).elim
def l0(nd:(rows.map (·.1)).Nodup):eS (ah rows) n=eS rows n:=by
 by_cases h:n∈rows.map (·.1)
 .obtain⟨r,hr,d,e⟩:=cD h;obtain⟨r',b,c,f⟩:=cD (rows:=ah rows) (n:=n) (by rw[gB];exact(aB _).mem_iff.mpr h);rw[e,f,lT nd hr (ci b) (c.trans d.symm)]
 .have g:∀a:↥Rw,(∀r∈a,r∈rows)->eS a n=none:=λa hs=>List.find?_eq_none.mpr λr hr=>by
   have:r.1≠n:=λe=>h (abW.mpr {r,hs r hr,e});simpa using this
  rw[g _ λr hr=>ci hr,g _ λr hr=>hr]
theorem i3(nd:(rows.map (·.1)).Nodup):bW (ah rows) n=match eS rows n with
  |none=>.leaf .lack
  | some r=>rlR r.2.1 r.2.2:=by
 show (match eS (ah rows) n with
  |none=>Rl.leaf .lack
  |some r=>rlR r.2.1 r.2.2)=_
 rw[l0 nd]
def vk(h:R n=.leaf l):rdF R z (f+1) n k=!{ky l z k,k,[n]}:=by
 show goF R z (f+1) (bO R z n k) k [n]=_;rw[show bO R z n k={.leaf l,n,k,k,0,[],true,ky l z k} by unfold bO;rw[h]];exact gG rfl
def zv(h:y∉zs):iA (zs.map Sum.inr) ds (.inr y) d=(zs.map Sum.inr++[.inr y],ds++[d]):=by
 unfold iA;rw[if_neg];intro e;obtain⟨x,b,a⟩:=List.any_eq_true.mp e;obtain⟨v,c,rfl⟩:=abW.mp b;exact h (abh (of_decide_eq_true a) ▸ c)
def vm{rest:↥Str}(h:y∉rows.map (·.1)):bE (rows++[(y,w,rest)])=.fd (iA ((rows.map (·.1)).map Sum.inr) (rows.map λr=>aG r.2.1 r.2.2) (.inr y) (aG w rest)).1 (iA ((rows.map (·.1)).map Sum.inr) (rows.map λr=>aG r.2.1 r.2.2) (.inr y) (aG w rest)).2:=by
 rw[zv h];unfold bE;rw[aae,aae,aae];rfl
abbrev ce(ln:Option Nat)(m:Int)(st:↥Sp2)(ls:↥Str):D:=.tup [dD ln,.int m,.lst (st.map az),.lst (ls.map .str)]
inductive db:Ct
 |mk {ln:Option Nat} {m:Int} {st:↥Sp2} {ls:↥Str} {P:Pk} (hs:st.length<=1000) (h:P (.fz (.bl true)) [.fz (ce ln m st ls),.fz (ce ln m st ls)]):db [.fz (ce ln m st ls),.fz (ce ln m st ls)] P
abbrev AJ:Stmt:=top 65
abbrev JU:FS:=
  (am (fIf (fOr (kL (dU (fCB cIs (aa (ab 0) (aa (fC (.ty "tuple")) af))))) (fOr (au (fOp aNe (fCB eR (aa (ab 0) af)) (fC (.int 4)))) (au (fOp aNe (ab 0) (ab 1)))))
   (bi (fC (.bl false)))
   aH)
  (am (b9 2 (fOp eM (gv (aa (fOp aIx (ab 0) (fC (.int 1))) af)) (bT [] 2 (bQ (fOp aIx (ab 0) (fC (.int 2)))) (jY 2 (b5 (ac 0) (b5 (ac 1) jX))) jh (ab 1))))
  (am (fIf (au (fOp lA (fOp aIx (ab 0) (fC (.int 0))) (fC .non)))
   (bA (qm 2 (fOp aIx (ab 0) (fC (.int 0)))))
   aH)
  (bi (C9 (fCB F6 (aa (bT [] 1 (bQ (ab 2)) (ac 0) jh (fCB cIs (aa (ab 0) (aa (fC (.ty "bool")) af)))) af)))))))
theorem gm:∀st:↥Sp2,okDs (st.map az)=true
 |[]=>rfl
 |_::st=>ab1.mpr {rfl,gm st}
theorem gn:∀st:↥Sp2,deps (toDVs (st.map az))<=1
 |[]=>aan _
 |_::st=>Nat.max_le.mpr {aac 1,gn st}
def Fq(ln:Option Nat)(m:Int)(st:↥Sp2)(ls:↥Str):DL (ce ln m st ls) (ce ln m st ls):=by
 have a:okD (dD ln)=true:=by cases ln <;> rfl
 have ok:okD (ce ln m st ls)=true:=by
  show okDs [dD ln,.int m,.lst (st.map az),.lst (ls.map .str)]=true;exact ab1.mpr {a,ab1.mpr {rfl,ab1.mpr {gm st,ab1.mpr {iY ls,rfl}}}}
 have b:dep (nR (dD ln))=0:=by cases ln <;> rfl
 have h1:=gn st;have h2:=e9 ls;refine{ok,ok,?_};show max (dep (nR (dD ln))) (max 0 (max (deps (toDVs (st.map az))+1) (max (deps (toDVs (ls.map D.str))+1) 0)))+1<=_;rw[b,h2];refine aar (abJ (Nat.max_le.mpr {aan _,Nat.max_le.mpr {aan _,Nat.max_le.mpr {abJ h1,Nat.max_le.mpr {(by decide:0+1<=2),aan _}}}})) ?_;exact Nat.le_of_ble_eq_true rfl
def dG(d:D):dEq d d=true:=-nM _
def JV:Hh db JU [] 3:=by
 intro os P h;obtain@⟨ln,m,st,ls,_,o,q⟩:=h;revert ay{{(rfl),rfl},?_} cP{aS,?_} cP{Fq ln m st ls,?_}(al False {λh=>(by rw[dG] at h;exact Bool.noConfusion h),False.elim} False.elim (λ_=>?_)){lez 1,?_}(aL (λi as ρ=>∃f c:Option OV,as=(st.take i).map (λs=>D.int s.2)/\ρ=[f,c,!(.fz (ce ln m st ls)),!(.fz (ce ln m st ls)),none]) {(none),none,rfl,rfl} ?_ ?_)
 .rintro i d as ρ R hd ⟨f,c,rfl,rfl⟩ n;rw[List.getElem?_map] at hd
  cases b:st[i]? with
  |none=>rw [b] at hd;cases hd
  | some e=>
   rw[b] at hd;cases hd;have hi:=(List.getElem?_eq_some_iff.mp b).1;revert{rfl,?_} cw{by rw[abP,aao];exact aaq (by nofun:min i st.length<1001) (lez 1001),n _ _ {_,_,?_,rfl}};rw[aap,b,aae];rfl
 rintro as ρ ⟨f,c,rfl,rfl⟩;rw[abP,aai (aac _)];ext;have l:([D.int m]++st.map λs=>D.int s.2)=((m::st.map λs=>(s.2:Int)).map D.int):=by rw[abT,aav];rfl
 refine{by rw[abP];exact aar (by show 1+st.length<=1001;nofun) (lez 1001),?_};rw[l];have g:(m::st.map λs=>(s.2:Int)).length<=1001:=by rw[abX,abP];nofun
 generalize (m::st.map λs=>(s.2:Int))=a at g;revert(gc (λρ=>∃is:↥Int,is.length<=1002/\ρ=[!(.fz (ce ln m st ls)),!(.fz (ce ln m st ls)),!(.fl (is.map .int))]) ?_ ?_)
 .rintro ρ ⟨is,l,rfl⟩;revert(aL (λi as ρ=>∃(x:Option OV),as=(List.replicate i false).map .bl/\ρ=[x,!(.fz (ce ln m st ls)),!(.fz (ce ln m st ls)),!(.fz (.lst (is.map .int)))]) {(none),rfl,rfl} ?_ ?_)
  .rintro i d as ρ R hd ⟨x,rfl,rfl⟩ k
   obtain⟨j,p,rfl⟩:∃j,is[i]?=!j/\d=.int j:=by
    rw[List.getElem?_map,aaj] at hd;obtain⟨r,h1,h2⟩:=hd;exact{(r),h1,h2.symm}
   have hi:=(List.getElem?_eq_some_iff.mp p).1;revert cw{{(rfl),rfl},?_}{by rw[abP,aaE];exact aaq (by nofun:i<1003) (lez 1003),k _ _ {_,?_,rfl}};rw[List.replicate_succ',aae];rfl
  .rintro as ρ ⟨x,rfl,rfl⟩;revert iH;ext;rw[show ((List.replicate (is.map D.int).length false).any id)=false from by simp];exact q
 .intro rest
  cases ln with
  | none=>
   revert cP;exact rest _ {a,(),rfl}
  | some i=>
   revert cw{rfl,?_}{by rw[abP];exact aaq (by nofun:a.length<1002) (lez 1002),?_};exact rest _ {a++[(i:Int)],by rw[aag];show a.length+1<=_;nofun,by rw[aae];rfl}
def JW(later a rest:↥Str):Prop:=∀i x,rest[i]?=!x->(∀y∈rest.take i,y∉a)->x∈later
def nh(later every a:↥Str)(w:Str)(rest:↥Str):Prop:=
 ((w = "none" ∨ w = "any")/\rest=[])∨(w = "signs" /\ ∃z,rest=[z]/\dP z)∨((w = "again" ∨ w = "ahead" ∨ w = "not")/\∃x,rest=[x]/\x∈later)∨(w = "first" /\ 1<=rest.length/\rest.length<=8/\∀x∈rest,x∈later)∨(w = "row" /\ 1<=rest.length/\rest.length<=8/\(∀x∈rest,x∈every)/\JW later a rest)
def i4(a:↥Str)(w:Str)(rest:↥Str):Prop:=if w = "row" then ∃x∈rest,x∈a else if w = "first" then ∀x∈rest,x∈a else w = "signs" ∨ w = "any"
inductive cO:Ct
 |mk {w:Str} {rest solid:↥Str} {P:Pk} (hr0:(w = "row" ∨ w = "first")->1<=rest.length) (hr:rest.length<=8) (hs:solid.length<=100) (h:∀b:Bool,(b=true↔i4 solid w rest)->P (.fz (.bl b)) [.fz (aG w rest),.fl (solid.map .str)]):cO [.fz (aG w rest),.fl (solid.map .str)] P
abbrev vn:Stmt:=top 59
abbrev Fs:FS:=
  (am (fIf (au (fOp aEq (fOp aIx (ab 0) (fC (.int 0))) (fC (.str "row"))))
   (bi (fCB F6 (aa (bT [1] 1 (sS (fSl aSl (ab 0) (ir (fC (.int 1))) cH)) (ac 0) jh (fOp aIn (ab 0) (ab 2))) af)))
   aH)
  (am (fIf (au (fOp aEq (fOp aIx (ab 0) (fC (.int 0))) (fC (.str "first"))))
   (bi (fCB vU (aa (bT [1] 1 (sS (fSl aSl (ab 0) (ir (fC (.int 1))) cH)) (ac 0) jh (fOp aIn (ab 0) (ab 2))) af)))
   aH)
  (bi (LM (fOp aEq (fOp aIx (ab 0) (fC (.int 0))) (fC (.str "signs"))) (fOp aEq (fOp aIx (ab 0) (fC (.int 0))) (fC (.str "any")))))))
def Ft:Hh cO Fs [1] 2:=by
 intro os P h;obtain@⟨w,rest,a,_,f,hr,hs,q⟩:=h;have sz:=sizeLine_eq;revert ay bN{ai,?_}(al (w = "row") aq (λh=>?_) (λh=>?_))
 .have g:=f (.inl h);have c:fR (D.str w::rest.map D.str) ↑1 none=rest.map .str:=cG _ 1;revert{by show cU (List.length (D.str w::rest.map D.str)) ↑((1:Nat):Int) none;unfold cU;rw[HT.sIx_nat,abX];nofun,?_};rw[c];revert(aL (λi as ρ=>∃x:Option OV,as=(rest.take i).map (λz=>D.bl (inD (.str z) (a.map D.str)))/\ρ=[x,!(.fz (aG w rest)),!(.fl (a.map .str))]) {(none),rfl,rfl} ?_ ?_)
  .rintro i d as ρ R hd ⟨x,rfl,rfl⟩ k;rw[List.getElem?_map,aaj] at hd;obtain⟨z,e,rfl⟩:=hd;revert cw{{rfl,gM _},?_}{by rw[abP,aao];nofun,k _ _ {!(.fz (.str z)),by rw[aap,e,aae];rfl,rfl}}
  .rintro as ρ ⟨x,rfl,rfl⟩;rw[abP,aai (aac _),show rest.map (λz=>D.bl (inD (.str z) (a.map D.str)))=(rest.map λz=>inD (.str z) (a.map D.str)).map D.bl by rw[aav];rfl];revert iH(q _ ?_);unfold i4;rw[if_pos h,abw,aaK];exact{fun⟨z,h1,h2⟩=>{z,h1,b6.mp h2},fun⟨z,h1,h2⟩=>{z,h1,b6.mpr h2}}
 revert ay bN{ai,?_}(al (w = "first") aq (λh2=>?_) (λh2=>?_))
 .have g:=f (.inr h2);have c:fR (D.str w::rest.map D.str) ↑1 none=rest.map .str:=cG _ 1;revert{by show cU (List.length (D.str w::rest.map D.str)) ↑((1:Nat):Int) none;unfold cU;rw[HT.sIx_nat,abX];nofun,?_};rw[c];revert(aL (λi as ρ=>∃x:Option OV,as=(rest.take i).map (λz=>D.bl (inD (.str z) (a.map D.str)))/\ρ=[x,!(.fz (aG w rest)),!(.fl (a.map .str))]) {(none),rfl,rfl} ?_ ?_)
  .rintro i d as ρ R hd ⟨x,rfl,rfl⟩ k;rw[List.getElem?_map,aaj] at hd;obtain⟨z,e,rfl⟩:=hd;revert cw{{rfl,gM _},?_}{by rw[abP,aao];nofun,k _ _ {!(.fz (.str z)),by rw[aap,e,aae];rfl,rfl}}
  .rintro as ρ ⟨x,rfl,rfl⟩;rw[abP,aai (aac _),show rest.map (λz=>D.bl (inD (.str z) (a.map D.str)))=(rest.map λz=>inD (.str z) (a.map D.str)).map D.bl by rw[aav];rfl];revert iH(q _ ?_);unfold i4;rw[if_neg h,if_pos h2,List.all_map,abM];exact{λe z h1=>b6.mp (e z h1),λe z h1=>b6.mpr (e z h1)}
 revert bN{ai,?_};ext;have l:∀b:Bool,(b=true↔w = "signs" ∨ w = "any")->P (.fz (.bl b)) [.fz (aG w rest),.fl (a.map .str)]:=λb m=>q b (by unfold i4;rw[if_neg h,if_neg h2];exact m);refine al (w = "signs") aq (λj=>?_) (λj=>?_)
 .revert(l true {λ_=>.inl j,λ_=>rfl})
 .revert bN{ai,?_}(l _ (aq.trans {.inr,λy=>y.resolve_left j}))
@[irreducible] def cj:Ct:=λos P=>∃(b0 b1 b2 n:Int) (later every a:↥Str),os=[bo b0 b1 b2,.fz (.lst (later.map .str)),.fz (.lst (every.map .str)),.fl (a.map .str)]/\WellB b1 b2 n/\n<2 ^ 37/\1<=later.length/\later.length<=100/\every.length<=100/\a.length<=100/\(∀x∈later,x∈every) /\
 ∀(w:Str) (rest:↥Str) (d c b:Int),nh later every a w rest->WellB c b (n+60)->P (.fz (aG w rest)) [bo d c b,.fz (.lst (later.map .str)),.fz (.lst (every.map .str)),.fl (a.map .str)]
abbrev vo:Stmt:=top 58
abbrev Fu:FS:=
  (am (bX (gv (aa (fC (.str "row")) (aa (fC (.str "first")) (aa (fC (.str "again")) (aa (fC (.str "row")) (aa (fC (.str "not")) (aa (fC (.str "ahead")) (aa (fC (.str "row")) (aa (fC (.str "first")) (aa (fC (.str "signs")) (aa (fC (.str "any")) (aa (fC (.str "none")) (aa (fC (.str "again")) af))))))))))))) (ac 4))
  (am (bX (fOp aIx (ab 4) (ar ak (aa (ab 0) (aa (fC (.int 12)) af)))) (ac 5))
  (am (fIf (au (fOp (i8 (λi j=>decide (i<j)) a8) (fCB eR (aa (ab 1) af)) (fC (.int 4))))
   (bX (fOp aIx (gv (aa (fC (.str "signs")) (aa (fC (.str "any")) (aa (fC (.str "signs")) (aa (fC (.str "none")) (aa (ab 5) af)))))) (ar ak (aa (ab 0) (aa (fC (.int 5)) af)))) (ac 5))
   aH)
  (am (fIf (au (fOp aEq (ab 5) (fC (.str "signs"))))
   (bi (ar bP (aa (ab 0) af)))
   aH)
  (am (fIf (fOr (au (fOp aEq (ab 5) (fC (.str "any")))) (au (fOp aEq (ab 5) (fC (.str "none")))))
   (bi (fX (aa (ab 5) af)))
   aH)
  (am (fIf (fOr (au (fOp aEq (ab 5) (fC (.str "again")))) (fOr (au (fOp aEq (ab 5) (fC (.str "ahead")))) (au (fOp aEq (ab 5) (fC (.str "not"))))))
   (bi (fX (aa (ab 5) (aa (fOp aIx (ab 1) (ar ak (aa (ab 0) (aa (fFz (fCB eR (aa (ab 1) af))) af)))) af))))
   aH)
  (am (b9 6 (gv af))
  (am (jz (dL (aa (fOp eM (fC (.int 1)) (ar ak (aa (ab 0) (aa (fFz (fOp aIx (gv (aa (fC (.int 3)) (aa (fC (.int 3)) (aa (fC (.int 3)) (aa (fC (.int 8)) af))))) (ar ak (aa (ab 0) (aa (fC (.int 4)) af))))) af)))) af)) (ac 7)
   (am (bX (ab 1) (ac 8))
  (am (fIf (Da (au (fOp aEq (ab 5) (fC (.str "row")))) (dU (fCB F6 (aa (tL [3] 1 6 (ac 0) jh (fOp aIn (ab 0) (ab 4))) af))))
   (bX (ab 2) (ac 8))
   aH)
  (bA (qm 6 (fOp aIx (ab 8) (ar ak (aa (ab 0) (aa (fFz (fCB eR (aa (ab 8) af))) af)))))))))
  (bi (fOp eM (fX (aa (ab 5) af)) (fCB Ai (aa (ab 6) af))))))))))))
abbrev ph:↥Str:=["row", "first", "again", "not", "ahead", "signs", "any", "none"]
def Fv:Hh cj Fu [0,3] 9:=by
 intro os P h;unfold cj at h;obtain⟨b0,b1,b2,n,later,every,a,rfl,c,hn,h1,h2,h3,h4,v,q⟩:=h;have sz:=sizeLine_eq;have hn0:0<=n:=ach c.2.2.1 c.2.2.2
 have X:1<=every.length:=by
  cases later with
  |nil=>exact absurd h1 (by decide)
  |cons y _=>exact abD (v y (aab ..))
 have g:∀zs:↥Str,(zs.map D.str).length=zs.length:=λ_=>abP ..;revert{lez 12,?_}(bc n c () (by decide) (by decide) λr b0 b1 b2 r0 r1 c=>?_)(cJ r0 r1 λe l=>?_)
 obtain⟨word,f,rfl⟩:∃word:Str,word∈ph/\e=.str word:=by
  simp only[List.mem_cons,List.not_mem_nil,or_false] at l;rcases l with h|h|h|h|h|h|h|h|h|h|h|h <;> exact{_,by simp,h}
 revert(gc (λρ=>∃(word:Str) (b0 b1 b2:Int),word∈ph/\WellB b1 b2 (n+2)/\ρ=[!(bo b0 b1 b2),!(.fz (.lst (later.map .str))),!(.fz (.lst (every.map .str))),!(.fl (a.map .str)),!(.fz (.lst [.str "row", .str "first", .str "again", .str "row", .str "not", .str "ahead", .str "row", .str "first", .str "signs", .str "any", .str "none", .str "again"])),!(.fz (.str word)),none,none,none]) ?_ ?_)
 .rintro ρ ⟨word,b0,b1,b2,f,c,rfl⟩;revert ay{ai,?_}(al (word = "signs") aq (λs=>?_) (λs=>?_))
  .revert(zn c () λz b0 b1 b2 Q c=>?_)(q _ _ _ _ _ (.inr (.inl {(rfl),z,rfl,Q})) (c.mono ()))
  revert(gL (word ≠ "any" /\ word ≠ "none") (λA=>?_) (λrest=>?_))
  .revert(gL (word ≠ "again" /\ word ≠ "ahead" /\ word ≠ "not") (λE=>?_) (λrest=>?_))
   .have S:word = "row" ∨ word = "first" := by
     simp only[ph,List.mem_cons,List.not_mem_nil,or_false] at f;rcases f with h|h|h|h|h|h|h|h
     .exact .inl h
     .exact .inr h
     .exact absurd h E.1
     .exact absurd h E.2.2
     .exact absurd h E.2.1
     .exact absurd h s
     .exact absurd h A.1
     .exact absurd h A.2
    revert{aan _,?_}{lez 4,?_}(bc _ c () (by decide) (by decide) λr2 b0 b1 b2 C B c=>?_)(cJ C B λe l=>?_)
    obtain⟨L,hmx,rfl⟩:∃L:Int,(L=3∨L=8)/\e=.int L:=by
     simp only[List.mem_cons,List.not_mem_nil,or_false] at l;rcases l with h|h|h|h
     .exact{3,.inl rfl,h}
     .exact{3,.inl rfl,h}
     .exact{3,.inl rfl,h}
     .exact{8,.inr rfl,h}
    revert(bc _ c () () () λr3 b0 b1 b2 r30 r31 c=>?_){{(),()},?_};ext
    refine aW (λi ρ=>∃(parts:↥Str) (N M:Option OV) (b0 b1 b2:Int),parts.length=i/\i<=8/\WellB b1 b2 (n+4+i)/\(∀x∈parts,x∈every)/\(word = "first" -> ∀x∈parts,x∈later)/\(word = "row" -> JW later a parts) /\
     ρ=[!(bo b0 b1 b2),!(.fz (.lst (later.map .str))),!(.fz (.lst (every.map .str))),!(.fl (a.map .str)),!(.fz (.lst [.str "row", .str "first", .str "again", .str "row", .str "not", .str "ahead", .str "row", .str "first", .str "signs", .str "any", .str "none", .str "again"])),!(.fz (.str word)),!(.fl (parts.map .str)),N,M])
     {[],none,none,b0,b1,b2,rfl,aan _,c.mono (),(λ_ h=>nomatch h),(λ_ _ h=>nomatch h),(λ_ i x u=>by cases u),rfl} ?_ ?_
    .rintro i d ρ R hd ⟨parts,N,M,b0,b1,b2,F,Z,c,I,H,G,rfl⟩ kk;obtain⟨hi,rfl⟩:=bh hd;ext
     refine gc (λρ=>∃(b:↥Str),1<=b.length/\b.length<=100/\(∀x∈b,x∈every)/\(word = "first" -> ∀x∈b,x∈later)/\(word = "row" -> (∀y∈parts,y∉a)->∀x∈b,x∈later) /\
      ρ=[!(bo b0 b1 b2),!(.fz (.lst (later.map .str))),!(.fz (.lst (every.map .str))),!(.fl (a.map .str)),!(.fz (.lst [.str "row", .str "first", .str "again", .str "row", .str "not", .str "ahead", .str "row", .str "first", .str "signs", .str "any", .str "none", .str "again"])),!(.fz (.str word)),!(.fl (parts.map .str)),!(.fz (.int (0+(i:Int)))),!(.fz (.lst (b.map .str)))]) ?_ ?_
     .rintro ρ ⟨b,hs1,hs2,V,U,T,rfl⟩;revert{rfl,?_}(bc _ c () (by rw[g];nofun) (by rw[g];nofun) λO b0 b1 b2 o m c=>?_)(cJ o m λe l=>?_);obtain⟨y,t,rfl⟩:=abW.mp l;revert{by rw[g];nofun,kk _ {parts++[y],!(.fz (.int (0+(i:Int)))),!(.fz (.lst (b.map .str))),b0,b1,b2,by rw[aag,F];rfl,(),c.mono (),λx u=>?_,λs x u=>?_,λs j x u w=>?_,?_}}
      .rcases abQ.mp u with h|h
       .exact I x h
       .rw[abR.mp h];exact V y t
      .rcases abQ.mp u with h|h
       .exact H s x h
       .rw[abR.mp h];exact U s y t
      .by_cases hj:j<parts.length
       .rw[List.getElem?_append_left hj] at u;rw[List.take_append_of_le_length ()] at w;exact G s j x u w
       .have Y:=(List.getElem?_eq_some_iff.mp u).1;rw[aag,aaQ] at Y;obtain rfl:j=parts.length:=()
        rw[List.getElem?_append_right (aac _),Nat.sub_self] at u;cases u;rw[List.take_left] at w;exact T s w y t
      .rw[show (parts++[y]).map D.str=parts.map D.str++[D.str y] from aae];rfl
     .intro rest;revert{ai,?_}(al (word = "row") aq (λs=>?_) (λs=>?_))
      .revert(tE (λj as ρ=>∃x:Option OV,as=(parts.take j).map (λz=>D.bl (inD (.str z) (a.map D.str)))/\ρ=[x,!(bo b0 b1 b2),!(.fz (.lst (later.map .str))),!(.fz (.lst (every.map .str))),!(.fl (a.map .str)),!(.fz (.lst [.str "row", .str "first", .str "again", .str "row", .str "not", .str "ahead", .str "row", .str "first", .str "signs", .str "any", .str "none", .str "again"])),!(.fz (.str word)),!(.fl (parts.map .str)),!(.fz (.int (0+(i:Int)))),!(.fz (.lst (later.map .str)))]) (by rintro j as ρ ⟨x,_,rfl⟩;rfl) {(none),rfl,rfl} ?_ ?_)
       .rintro j d as ρ R hd ⟨x,rfl,rfl⟩ k;rw[List.getElem?_map,aaj] at hd;obtain⟨z,Q,rfl⟩:=hd;revert cw{{rfl,gM _},?_}{by rw[abP,aao];nofun,k _ _ {!(.fz (.str z)),by rw[aap,Q,aae];rfl,rfl}}
       .rintro as ρ ⟨x,rfl,rfl⟩;rw[abP,aai (aac _),show parts.map (λz=>D.bl (inD (.str z) (a.map D.str)))=(parts.map λz=>inD (.str z) (a.map D.str)).map D.bl by rw[aav];rfl];revert iH(al (∃y∈parts,y∈a) (by rw[abw,aaK];exact{fun⟨z,h1,h2⟩=>{z,h1,b6.mp h2},fun⟨z,h1,h2⟩=>{z,h1,b6.mpr h2}}) (λhs=>?_) (λhs=>?_))
        .refine rest [!(bo b0 b1 b2),!(.fz (.lst (later.map .str))),!(.fz (.lst (every.map .str))),!(.fl (a.map .str)),!(.fz (.lst [.str "row", .str "first", .str "again", .str "row", .str "not", .str "ahead", .str "row", .str "first", .str "signs", .str "any", .str "none", .str "again"])),!(.fz (.str word)),!(.fl (parts.map .str)),!(.fz (.int (0+(i:Int)))),!(.fz (.lst (every.map .str)))] {every,X,h3,λ_ h=>h,(λh=>by rw[s] at h;exact absurd h ∅),(λ_ h=>by obtain⟨y,y1,y2⟩:=hs;exact absurd y2 (h y y1)),rfl}
        .exact rest _ {later,h1,h2,v,λ_ _ h=>h,λ_ _ _ h=>h,rfl}
      .revert cP;exact rest _ {later,h1,h2,v,λ_ _ h=>h,λh=>absurd h s,rfl}
    .rintro ρ ⟨parts,N,M,b0,b1,b2,F,Z,c,I,H,G,rfl⟩;rw[bS] at F c;revert{lez 1,?_}{(λy=>nomatch y),by rw[g];show 1+_<=_;nofun,?_}(q word parts b0 b1 b2 ?_ (c.mono ()));rcases S with h|h
     .exact .inr (.inr (.inr (.inr {h,(),(),I,G h})))
     .exact .inr (.inr (.inr (.inl {h,(),(),H h})))
   .have W:∀y,y∈later->(word = "again" ∨ word = "ahead" ∨ word = "not")->nh later every a word [y]:=λy t s=>.inr (.inr (.inl {(s),y,rfl,t}));revert{ai,?_}(al (word = "again") aq (λJ=>?_) (λJ=>?_))
    .revert cw(bc _ c () (by rw[g];nofun) (by rw[g];nofun) λO b0 b1 b2 o m c=>?_)(cJ o m λe l=>?_);obtain⟨y,t,rfl⟩:=abW.mp l;revert{lez 2,?_}(q word [y] b0 b1 b2 (W y t (.inl J)) (c.mono ()))
    revert{ai,?_}(al (word = "ahead") aq (λp=>?_) (λp=>?_))
    .revert cw(bc _ c () (by rw[g];nofun) (by rw[g];nofun) λO b0 b1 b2 o m c=>?_)(cJ o m λe l=>?_);obtain⟨y,t,rfl⟩:=abW.mp l;revert{lez 2,?_}(q word [y] b0 b1 b2 (W y t (.inr (.inl p))) (c.mono ()))
    revert{ai,?_}(al (word = "not") aq (λhc=>?_) (λhc=>?_))
    .revert(bc _ c () (by rw[g];nofun) (by rw[g];nofun) λO b0 b1 b2 o m c=>?_)(cJ o m λe l=>?_);obtain⟨y,t,rfl⟩:=abW.mp l;revert{lez 2,?_}(q word [y] b0 b1 b2 (W y t (.inr (.inr hc))) (c.mono ()))
    exact rest {(J),p,hc}
  .revert{ai,?_}(al (word = "any") aq (λJ=>?_) (λJ=>?_))
   .revert cw{lez 1,?_}(q word [] _ _ _ (.inl {.inr J,rfl}) (c.mono ()))
   revert{ai,?_}(al (word = "none") aq (λp=>?_) (λp=>?_))
   .revert{lez 1,?_}(q word [] _ _ _ (.inl {.inl p,rfl}) (c.mono ()))
   exact rest {(J),p}
 .intro rest;revert(al ((later.map D.str).length<(4:Int)) decide_eq_true_iff (λ_=>?_) (λ_=>?_))
  .revert{lez 5,?_}(bc _ c () (by decide) (by decide) λr2 b0 b1 b2 C B c=>?_)(cJ C B λe l=>?_)
   obtain⟨K,A,rfl⟩:∃K:Str,K∈ph/\e=.str K:=by
    simp only[List.mem_cons,List.not_mem_nil,or_false] at l;rcases l with h|h|h|h|h
    .exact{_,by simp,h}
    .exact{_,by simp,h}
    .exact{_,by simp,h}
    .exact{_,by simp,h}
    .exact{(word),f,h}
   exact rest _ {K,b0,b1,b2,A,c.mono (),rfl}
  .exact rest _ {word,b0,b1,b2,f,c.mono (),rfl}
def zw(n:Int){a:↥Str}(g:WellB b1 b2 n)(f:n<2 ^ 37)(h1:1<=later.length)(h2:later.length<=100)(j:every.length<=100)(i:a.length<=100)(b:∀x∈later,x∈every)
  (h:∀(w:Str) (rest:↥Str) (e d c:Int),nh later every a w rest->WellB d c (n+60)->P (.fz (aG w rest)) [bo e d c,.fz (.lst (later.map .str)),.fz (.lst (every.map .str)),.fl (a.map .str)]):cj [bo b0 b1 b2,.fz (.lst (later.map .str)),.fz (.lst (every.map .str)),.fl (a.map .str)] P:=by
 unfold cj;exact{(b0),b1,b2,n,later,every,a,rfl,g,f,h1,h2,j,i,b,h}
inductive Sol(nn:↥Str)(rows:↥Rw):Str->Prop
 |lack {x:Str}:x∈nn->Sol nn rows x
 |leaf {x w:Str} {rest:↥Str}:(x,w,rest)∈rows->(w = "signs" ∨ w = "any")->Sol nn rows x
 |row {x y:Str} {rest:↥Str}:(x,("row" : Str),rest)∈rows->y∈rest->Sol nn rows y->Sol nn rows x
 |first {x:Str} {rest:↥Str}:(x,("first" : Str),rest)∈rows->(∀y∈rest,Sol nn rows y)->rest≠[]->Sol nn rows x
def Sol.mono(h:∀r∈rows,r∈rows')(s:Sol nn rows x):Sol nn rows' x:=by
 induction s with
 |lack h1=>exact .lack h1
 |leaf h1 h2=>exact .leaf (h _ h1) h2
 |row h1 h2 _ a=>exact .row (h _ h1) h2 a
 |first h1 _ b a=>exact .first (h _ h1) a b
def JX{s:↥Str}{rest:↥Str}(hs:∀y∈s,Sol nn rows y)(hr:(x,w,rest)∈rows)(c:(w = "row" ∨ w = "first")->1<=rest.length)(h:i4 s w rest):Sol nn rows x:=by
 unfold i4 at h;by_cases h1:w = "row"
 .rw[if_pos h1] at h;subst h1;obtain⟨y,b,a⟩:=h;exact .row hr b (hs y a)
 .rw[if_neg h1] at h;by_cases h2:w = "first"
  .rw[if_pos h2] at h;subst h2;exact .first hr (λy b=>hs y (h y b)) (λe=>by have:=c (.inr rfl);rw[e] at this;exact absurd this (by decide))
  .rw[if_neg h2] at h;exact .leaf hr h
structure BkW(ns nn:↥Str)(rows:↥Rw):Prop where
 nd:(ns++nn).Nodup
 nm:∀z∈ns++nn,dX z
 l2:2<=ns.length
 l30:ns.length<=30
 nl:nn.length=2
 names:rows.map (·.1)=ns.reverse
 fm:∀r∈rows,∃(j:Nat) (s:↥Str),ns[j]?=!r.1/\(∀x∈s,Sol nn rows x)/\nh (ns.drop (j+1)++nn) (ns++nn) s r.2.1 r.2.2
def WellsOk(ps:↥FV)(N:Nat)(n:Int):Prop:=ps.length=N/\∀i,i<N->∃(b:Addr) (b0 b1 b2:Int),ps[i]?=!(.fl b [.int b0,.int b1,.int b2])/\WellB b1 b2 n
def WellsOk.mono{ps:↥FV}{n m:Int}(h:WellsOk ps N n)(a:n<=m):WellsOk ps N m:=-{h.1,λi hi=>by
 obtain⟨b,b0,b1,b2,e,w⟩:=h.2 i hi;exact{b,b0,b1,b2,e,w.mono a}}
def WellsOk.set{ps:↥FV}{n m:Int}(h:WellsOk ps N n)(a:n<=m)(w:WellB b1 b2 m):WellsOk (ps.set k (.fl b [.int b0,.int b1,.int b2])) N m:=-{by rw[aaF];exact h.1,λi hi=>by
 by_cases e:k=i
 .subst e;exact{b,b0,b1,b2,List.getElem?_set_self (by rw[h.1];exact hi),w}
 .rw[List.getElem?_set_ne e];exact(h.mono a).2 i hi}
def WellsOk.snoc{ps:↥FV}{n:Int}(h:WellsOk ps N n)(w:WellB b1 b2 n):WellsOk (ps++[.fl b [.int b0,.int b1,.int b2]]) (N+1) n:=-{by rw[aag,h.1];rfl,λi hi=>by
 by_cases e:i<N
 .rw[List.getElem?_append_left (by rw[h.1];exact e)];exact h.2 i e
 .obtain rfl:i=N:=()
  exact{b,b0,b1,b2,by rw[List.getElem?_append_right (by rw[h.1];exact aac _),h.1,Nat.sub_self];rfl,w}}
abbrev Mz(a b c:Addr)(ns nn:↥Str)(rows:↥Rw):OV:=.ot [.fl a (ns.map .str),.fl b (nn.map .str),.fd c ((rows.map (·.1)).map Sum.inr) (rows.map λr=>aG r.2.1 r.2.2)]
inductive dc:Ct
 |mk {cells:↥Int} {M:Nat} {P:Pk} (h1:cells.length<=63) (h2:2<=M) (h3:M<=30) (h:∀(ns nn:↥Str) (rows:↥Rw) (a b c:Addr),BkW ns nn rows->ns.length<=M->P (Mz a b c ns nn rows) [.fz (.lst (cells.map .int)),.fz (.int M)]):dc [.fz (.lst (cells.map .int)),.fz (.int M)] P
abbrev AK:Stmt:=top 60
abbrev JY:FS:=
  (am (bX (fCB M0 (aa (ab 1) (aa (fCB KN (aa (fC (.int 2)) (aa (fCB eR (aa (ab 0) af)) af))) af))) (ac 2))
  (am (b9 3 (Am [0] 1 (dL (aa (ab 2) af)) (ac 0) (ar cA (aa (fFz (ar bg (aa (fFz (ab 1)) (aa (fFz (ab 0)) af)))) (aa (fFz (ab 0)) af)))))
  (am (b9 4 (gv af))
  (am (jz (dL (aa (ab 2) af)) (ac 5)
   (bA (qm 4 (lG bp 3 (ab 5) (aa (ab 4) af)))))
  (am (b9 6 (gv af))
  (am (jz (dL (aa (fC (.int 2)) af)) (ac 5)
   (bA (qm 6 (lG bp 3 (ab 5) (aa (fOp eM (ab 4) (ab 6)) af)))))
  (am (b9 7 xl)
  (am (b9 8 (fCB DM (aa (ab 6) af)))
  (am (jz (An (aa (ab 2) af)) (ac 5)
   (am (sX 7 (lG cj 3 (ab 5) (aa (fFz (fOp eM (fSl aSl (ab 4) (ir (fOp eM (ab 5) (fC (.int 1)))) cH) (ab 6))) (aa (fFz (fOp eM (ab 4) (ab 6))) (aa (ab 8) af)))) (fOp aIx (ab 4) (ab 5)))
  (fIf (dU (ar cO (aa (fFz (fOp aIx (ab 7) (fOp aIx (ab 4) (ab 5)))) (aa (ab 8) af))))
   (bA (qm 8 (fOp aIx (ab 4) (ab 5))))
   aH)))
  (bi (Er (aa (ab 4) (aa (ab 6) (aa (ab 7) af))))))))))))))
def JZ:Hh dc JY [] 9:=by
 intro os P h;obtain@⟨f,M,_,hcl,hM2,hM,q⟩:=h;have sz:=sizeLine_eq;have hlm:(f.map D.int).length=f.length:=abP ..;ext;generalize hN:(if (if ((f.map D.int).length:Int) > 2 then ((f.map D.int).length:Int) else 2)<(M:Int) then (if ((f.map D.int).length:Int) > 2 then ((f.map D.int).length:Int) else 2) else (M:Int))=Ni
 have hNi:2<=Ni/\Ni<=M:=by
  rw[hlm] at hN;split at hN <;> split at hN <;> nofun
 obtain⟨N,rfl⟩:=abC (show 0<=Ni from ());clear hN;revert{{(),()},?_}(ua (λi ps ρ=>∃x:Option OV,WellsOk ps i 0/\ρ=[x,!(.fz (.lst (f.map .int))),!(.fz (.int M)),!(.fz (.int N)),none,none,none,none,none,none]) {none,{rfl,λ_ h=>absurd h (Nat.not_lt_zero _)},rfl} ?_ ?_)
 .rintro i d ps ρ R hd ⟨x,l,rfl⟩ E;obtain⟨hi,rfl⟩:=bh hd;ext;rw[Int.zero_add];refine vd λc=>?_;revert(.mk () λb0 b1 b2 _ Q=>?_){by rw[l.1];nofun,λb=>E _ _ {!(.fz (.int i)),l.snoc Q,rfl}}
 .rintro ps ρ ⟨x,l,rfl⟩;rw[bS,ab6] at l;revert{aan _,?_}{{(),()},?_}(aW (λi ρ=>∃(ps:↥FV) (ns:↥Str) (n:Option OV),WellsOk ps N (13*i)/\ns.length=i/\ns.Nodup/\(∀z∈ns,dX z)/\ρ=[!(.fz (.lst (f.map .int))),!(.fz (.int M)),!(.fz (.int N)),!(.ol ps),!(.fl (ns.map .str)),n,none,none,none]) {ps,[],none,l.mono (),rfl,aaH,(λ_ h=>nomatch h),rfl} ?_ ?_)
  .rintro i d ρ R hd ⟨ps,ns,n,l,B,C,t,rfl⟩ E;obtain⟨hi,rfl⟩:=bh hd;obtain⟨b,b0,b1,b2,e,Q⟩:=l.2 i ();have e':ps[(0+(i:Int)).toNat]?=!(.fl b [.int b0,.int b1,.int b2]):=by rw[Int.zero_add,ab6];exact e
   revert{rfl,?_}{(),?_};rw[e'];revert(.mk _ rfl Q () t () λy b0 b1 b2 o K v=>?_){rfl,?_}{by rw[abP];nofun,E _ {ps.set (0+(i:Int)).toNat (.fl b [.int b0,.int b1,.int b2]),ns++[y],!(.fz (.int (0+(i:Int)))),l.set () (v.mono ()),by rw[aag,B];rfl,KS.nodup_snoc C K,λz A=>?_,?_}}
   .rcases abQ.mp A with h|h
    .exact t z h
    .rw[abR.mp h];exact o
   .rw[show (ns++[y]).map D.str=ns.map D.str++[D.str y] from aae];rfl
  .rintro ρ ⟨ps,ns,n,l,B,C,t,rfl⟩;rw[bS,ab6] at l B;revert{aan _,?_}{{by decide,by decide},?_}(aW (λi ρ=>∃(ps:↥FV) (nn:↥Str) (n:Option OV),WellsOk ps N (13*N+13*i)/\nn.length=i/\(ns++nn).Nodup/\(∀z∈nn,dX z)/\ρ=[!(.fz (.lst (f.map .int))),!(.fz (.int M)),!(.fz (.int N)),!(.ol ps),!(.fl (ns.map .str)),n,!(.fl (nn.map .str)),none,none]) {ps,[],n,l.mono (),rfl,by rw[aaw];exact C,(λ_ h=>nomatch h),rfl} ?_ ?_)
   .rintro i d ρ R hd ⟨ps,nn,n,l,V,X,G,rfl⟩ E;obtain⟨hi,rfl⟩:=bh hd;have hi2:i<2:=hi;obtain⟨b,b0,b1,b2,e,Q⟩:=l.2 i ();have e':ps[(0+(i:Int)).toNat]?=!(.fl b [.int b0,.int b1,.int b2]):=by rw[Int.zero_add,ab6];exact e
    revert{rfl,?_}{(),?_};rw[e'];revert{by rw[abP,abP];nofun,?_};rw[← aae];revert(.mk _ (ns:=ns++nn) rfl Q () (λz A=>(abQ.mp A).elim (t z) (G z)) (by rw[aag];nofun) λy b0 b1 b2 o K v=>?_){rfl,?_}{by rw[abP];nofun,E _ {ps.set (0+(i:Int)).toNat (.fl b [.int b0,.int b1,.int b2]),nn++[y],!(.fz (.int (0+(i:Int)))),l.set () (v.mono ()),by rw[aag,V];rfl,by rw[← aay];exact KS.nodup_snoc X K,λz A=>?_,?_}}
    .rcases abQ.mp A with h|h
     .exact G z h
     .rw[abR.mp h];exact o
    .rw[show (nn++[y]).map D.str=nn.map D.str++[D.str y] from aae];rfl
   .rintro ρ ⟨ps,nn,n,l,u,I,U,rfl⟩;have u:nn.length=2:=u;have l:WellsOk ps N (13*N+26):=l.mono (by show (13*N+13*2:Int)<=_;nofun);clear C;revert{{(),()},?_};ext
    refine aW (λi ρ=>∃(ps:↥FV) (rows:↥Rw) (a:↥Str) (n:Option OV),WellsOk ps N (13*N+26+60*i)/\rows.map (·.1)=(ns.drop (N - i)).reverse/\i<=N/\a.length<=2+i/\(∀x∈a,Sol nn rows x) /\
     (∀r∈rows,∃(j:Nat) (s:↥Str),ns[j]?=!r.1/\(∀x∈s,Sol nn rows x)/\nh (ns.drop (j+1)++nn) (ns++nn) s r.2.1 r.2.2) /\
     ρ=[!(.fz (.lst (f.map .int))),!(.fz (.int M)),!(.fz (.int N)),!(.ol ps),!(.fl (ns.map .str)),n,!(.fl (nn.map .str)),!(bE rows),!(.fl (a.map .str))])
     {ps,[],nn,n,l.mono (),by rw[Nat.sub_zero,← B,aaO];rfl,aan _,(),λx S=>.lack S,(λ_ h=>nomatch h),rfl} ?_ ?_
    .rintro i d ρ R hd ⟨ps,rows,a,n,l,p,hiN,hsl,m,O,rfl⟩ E;obtain⟨hi,rfl⟩:=uf hd;rw[ab6] at hi;obtain⟨k,hk⟩:∃k,N=k+i+1:={N - 1 - i,()};have ek:((N:Int).toNat:Int) - 1 - (i:Int)=(k:Int):=by rw[ab6];nofun
     rw[ek];obtain⟨b,b0,b1,b2,e,Q⟩:=l.2 k ();obtain⟨x,S⟩:∃x,ns[k]?=!x:={_,List.getElem?_eq_getElem ()};have ex:atI (ns.map D.str) (k:Int)=!(.str x):=cE (by rw[List.getElem?_map,S];rfl)
     have ecut:fR (ns.map D.str) ↑((k:Int)+1) none=(ns.drop (k+1)).map D.str:=by
      rw[show (k:Int)+1=((k+1:Nat):Int) from (),cG,List.map_drop]
     revert{(),?_};rw[show ((k:Int)).toNat=k from ab6 k,e];ext;rw[ecut];refine{by rw[abP,abP,aaN];nofun,?_};rw[← aae];revert{by rw[abP,abP];nofun,?_};rw[← aae];revert(zw _ Q () (by rw[aag];nofun) (by rw[aag,aaN];nofun) (by rw[aag];nofun) () (λy o=>(abQ.mp o).elim (λh=>abQ.mpr (.inl (abN h))) λh=>abQ.mpr (.inr h)) λw rest b0 b1 b2 hf v=>?_)
     have L:rest.length<=8/\((w = "row" ∨ w = "first")->1<=rest.length):=by
      rcases hf with ⟨h,rfl⟩|⟨h,z,rfl,_⟩|⟨h,z,rfl,_⟩|⟨_,h1,h2,_⟩|⟨_,h1,h2,_⟩
      .exact{by decide,λh2=>by rcases h with rfl|rfl <;> rcases h2 with h2|h2 <;> exact absurd h2 ∅}
      .exact{(by decide:1<=8),λ_=>aac _}
      .exact{(by decide:1<=8),λ_=>aac _}
      .exact{h2,λ_=>h1}
      .exact{h2,λ_=>h1}
     have H:x∉rows.map (·.1):=by
      rw[p,abK,show N - i=k+1 from ()];intro h;obtain⟨j,hj,e2⟩:=acd.mp h;rw[aaN] at hj;rw[List.getElem_drop] at e2;have h5:=(List.getElem?_eq_some_iff.mp S).2;have W:=(ab0.mp I).1;exact ab7.mp W k (k+1+j) () () () (h5.trans e2.symm)
     have er:=vm (w:=w) (rest:=rest) H
     have hlr:rows.length=i:=by
      have:=congrArg List.length p;rw[abP,aa3,aaN] at this;nofun
     revert{rfl,?_}{rfl,?_};ext;rw[ex];revert{by rw[abP,abP];nofun,?_}
     erw [← er]
     have T:eS (rows++[(x,w,rest)]) x=!(x,w,rest):=by
      unfold eS
      rw[List.find?_append,List.find?_eq_none.mpr (λr hr=>by
       have:r.1≠x:=λe=>H (e ▸ abW.mpr {(r),hr,rfl});simp[this])]
      simp
     have Y:=gl T;have g:∀{y:Str},Sol nn rows y->Sol nn (rows++[(x,w,rest)]) y:=λs=>s.mono λr hr=>abQ.mpr (.inl hr);have hin:(x,w,rest)∈rows++[(x,w,rest)]:=abQ.mpr (.inr (abR.mpr rfl))
     have F:(rows++[(x,w,rest)]).map (·.1)=(ns.drop (N - (i+1))).reverse:=by
      rw[aae,p,show N - (i+1)=k from (),show N - i=k+1 from (),aat (show k<ns.length from ()),abG,(List.getElem?_eq_some_iff.mp S).2];rfl
     have J:∀r∈rows++[(x,w,rest)],∃(j:Nat) (s:↥Str),ns[j]?=!r.1/\(∀y∈s,Sol nn (rows++[(x,w,rest)]) y)/\nh (ns.drop (j+1)++nn) (ns++nn) s r.2.1 r.2.2:=λr hr=>by
      rcases abQ.mp hr with h|h
      .obtain⟨j,s,g1,g2,g3⟩:=O r h;exact{j,s,g1,λy o=>g (g2 y o),g3}
      .rw[abR.mp h];exact{k,a,S,λy o=>g (m y o),hf}
     have Z:WellsOk (ps.set k (.fl b [.int b0,.int b1,.int b2])) N (13*N+26+60*((i+1:Nat):Int)):=(l.set () v).mono ();revert ay;ext;rw[ex];ext
     erw [Y]
     revert(.mk L.2 L.1 () λbb hbb=>?_)(al (i4 a w rest) hbb (λhs=>?_) (λhs=>?_))
     .revert{rfl,?_};ext;rw[ex];revert{by rw[abP];nofun,E _ {_,rows++[(x,w,rest)],a++[x],!(.fz (.int k)),Z,F,(),by rw[aag,aaQ];nofun,λy o=>?_,J,?_}}
      .rcases abQ.mp o with h|h
       .exact g (m y h)
       .rw[abR.mp h];exact JX (λz A=>g (m z A)) hin L.2 hs
      .rw[show (a++[x]).map D.str=a.map D.str++[D.str x] from aae];rfl
     .exact E _ {_,rows++[(x,w,rest)],a,!(.fz (.int k)),Z,F,(),(),λy o=>g (m y o),J,rfl}
    .rintro ρ ⟨ps,rows,a,n,l,p,hiN,hsl,m,O,rfl⟩;rw[qB,ab6,Nat.sub_self,aaR] at p;ext;intro as;revert{lez 3,?_}(q ns nn rows _ _ _ {I,λz A=>(abQ.mp A).elim (t z) (U z),(),(),u,p,O} ())
def qL{xs ys:↥Str}(hx:xs.Nodup)(a:ys.Nodup)(h:∀v,v∈xs↔v∈ys):bF xs=bF ys:=-
 (eX (zs:=ys) ((aB _).nodup_iff.mpr hx) (λv=>by rw[(aB _).mem_iff,h]) (bR _)).trans (eX ((aB _).nodup_iff.mpr a) (λv=>(aB _).mem_iff) (bR _)).symm
section
variable    {x:Option Nat}
def fK(h:w = "row"):bJ w ps s x=mY ps { s with st:=s.st++[ae ps s] } x:=-if_pos h
def dH(h:w = "first"):bJ w ps s x=cq ps { s with st:=s.st++[ae ps s] } x:=-(if_neg (by rw[h];decide +kernel)).trans (if_pos h)
def i5(h:w = "again"):bJ w ps s x=cZ { s with st:=s.st++[ae ps s] } x:=-(if_neg (by rw[h];decide +kernel)).trans ((if_neg (by rw[h];decide +kernel)).trans (if_pos h))
def i6(h:w = "ahead"):bJ w ps s x=gg { s with st:=s.st++[ae ps s] } (if x=none then none else !0):=-(if_neg (by rw[h];decide +kernel)).trans ((if_neg (by rw[h];decide +kernel)).trans ((if_neg (by rw[h];decide +kernel)).trans (if_pos h)))
def l5(h:w = "not"):bJ w ps s x=gg { s with st:=s.st++[ae ps s] } (if x=none then ↑0 else none):=-(if_neg (by rw[h];decide +kernel)).trans ((if_neg (by rw[h];decide +kernel)).trans ((if_neg (by rw[h];decide +kernel)).trans (if_neg (by rw[h];decide +kernel))))
end
def NZ(R:Rls)(t:Str)(x:Str):Prop:=∀f k r,rdF R t f x k=!r->r.ln≠!0
def kG(h:s.tn<ps.length):ps[s.tn]?=!(ae ps s).1:=by
 show _=!(ps.getD s.tn "");rw[List.getD_eq_getElem?_getD,List.getElem?_eq_getElem h];rfl
def gT(h:s.tn<ps.length):(ae ps s).1∈ps:=-List.mem_of_getElem? (kG h)
def ni(h:R x=.leaf l)(a:∀k,ky l t k≠!0):NZ R t x:=-λf k r e=>by
 cases f with
 |zero=>cases e
 |succ f=>rw[vk h] at e;cases e;exact a k
theorem AL{ps:↥Str}:∀(f:Nat) (s:As) (far:Nat) (ls:↥Str) (r:Res),goF R t f s far ls=!r->s.fm=.comp "row" ps->s.dn=false->s.k<=s.t->s.tn<ps.length->(s.k<s.t∨∃y∈ps.drop s.tn,NZ R t y)->r.ln≠!0
 |0,s,far,ls,r,e,_,_,_,_,_=>by cases e
 | f+1,s,far,ls,r,e,n,hd,v,i,u=>by
  obtain⟨w,p,q,h1,h2,b⟩:=jl hd e;rw[n] at h1;cases h1;rw[fK rfl] at b;have g:NZ R t (ae ps s).1->q.ln≠!0:=λh=>h _ _ _ h2
  cases k:q.ln with
  | none=>
   rw[k] at b
   cases f with
   |zero=>cases b
   | succ f=>
    rw[gG rfl] at b;cases b;exact λz=>nomatch z
  | some l=>
   rw[k] at b g
   have j:∀y∈ps.drop s.tn,y=(ae ps s).1∨y∈ps.drop (s.tn+1):=λy d=>by
    rw[aat i] at d;have:=kG i;rw[List.getElem?_eq_getElem i] at this;rcases abS.mp d with h|h
    .exact .inl (h.trans (aak this))
    .exact .inr h
   have c:s.k<s.t+l∨∃y∈ps.drop (s.tn+1),NZ R t y:=by
    rcases u with h|⟨y,d,m⟩
    .exact .inl ()
    .by_cases o:l=0
     .rcases j y d with h|h
      .exact absurd (by rw[o]) (g (h ▸ m))
      .exact .inr {(y),h,m}
     .exact .inl ()
   by_cases a:s.tn+1=ps.length
   .rw[show mY ps { s with st:=s.st++[ae ps s] } ↑l=gg { s with st:=s.st++[ae ps s],t:=s.t+l,tn:=s.tn+1 } ↑(s.t+l - s.k) from if_pos a] at b
    cases f with
    |zero=>cases b
    | succ f=>
     rw[gG rfl] at b;cases b;rcases c with h|⟨y,d,_⟩
     .exact λz=>by have:=aak z;nofun
     .rw[a,aaO] at d;cases d
   .rw[show mY ps { s with st:=s.st++[ae ps s] } ↑l={ s with st:=s.st++[ae ps s],t:=s.t+l,tn:=s.tn+1 } from if_neg a] at b;exact AL f _ _ _ r b n hd (by show s.k<=s.t+l;nofun) (by show s.tn+1<_;nofun) c
theorem pi{ps:↥Str}(c:∀y∈ps,NZ R t y):∀(f:Nat) (s:As) (far:Nat) (ls:↥Str) (r:Res),goF R t f s far ls=!r->s.fm=.comp "first" ps->s.dn=false->s.tn<ps.length->r.ln≠!0
 |0,s,far,ls,r,e,_,_,_=>by cases e
 | f+1,s,far,ls,r,e,d,hd,g=>by
  obtain⟨w,p,q,h1,h2,b⟩:=jl hd e;rw[d] at h1;cases h1;rw[dH rfl] at b;by_cases a:q.ln≠none∨s.tn+1=ps.length
  .rw[show cq ps { s with st:=s.st++[ae ps s] } q.ln=gg { s with st:=s.st++[ae ps s],tn:=s.tn+1 } q.ln from if_pos a] at b
   cases f with
   |zero=>cases b
   | succ f=>
    rw[gG rfl] at b;cases b;exact(c _ (gT g) _ _ _ h2:q.ln≠!0)
  .rw[show cq ps { s with st:=s.st++[ae ps s] } q.ln={ s with st:=s.st++[ae ps s],tn:=s.tn+1 } from if_neg a] at b;exact pi c f _ _ _ r b d hd (by show s.tn+1<_;nofun)
structure CompOk(pool:↥Str)(lt sol:Str->Prop)(w:Str)(ps:↥Str):Prop where
 l1:1<=ps.length
 l8:ps.length<=8
 pl:∀p∈ps,p∈pool
 wd:w = "row" ∨ w = "first" ∨ w = "again" ∨ w = "ahead" ∨ w = "not"
 nr:w ≠ "row" -> ∀p∈ps,lt p
 rw:w = "row" -> ∀i p,ps[i]?=!p->(∀y∈ps.take i,¬sol y)->lt p
 on:(w = "again" ∨ w = "ahead" ∨ w = "not")->ps.length=1
structure RkOk(R:Rls)(t:Str)(pool:↥Str)(rk:Str->Nat)(sol:Str->Prop):Prop where
 cp:∀x w ps,R x=.comp w ps->CompOk pool (λy=>rk y<rk x) sol w ps
 sl:∀x,sol x->NZ R t x
 bd:∀x,rk x<=60
 tl:t.length<=30
def RkOk.rls{rk:Str->Nat}(h:RkOk R t pool rk sol):gh R pool:=-λn w p e=>by
 have C:=h.cp n w p e;exact{λy=>by rcases C.wd with z|z|z|z|z <;> (rw[z] at y;exact absurd y ∅),C.l1,C.l8,C.pl}
def nj(t w:Str)(ps:↥Str)(s:As):Nat:=if s.dn=true then 0 else if w = "again" then t.length - s.t+1 else ps.length - s.tn
def MA{rk:Str->Nat}(h:RkOk R t pool rk sol):∀(M:Nat) (x:Str) (k:Nat),(t.length - k)*64+rk x<=M->x∈pool->k<=t.length->∃r,rdF R t (40*M+40) x k=!r:=by
 intro M
 induction M using Nat.strongRecOn with
 | _ M H=>
 intro x k T Q L
 cases E:R x with
 |leaf l=>exact{_,vk (f:=40*M+39) E}
 | comp w ps=>
 have C:=h.cp x w ps E;have I:=h.tl
 -- G is F is read,by less
 have ask:∀(s:As),s.k=k->k<=s.t->s.t<=t.length->s.tn<ps.length->(s.t=k->w = "row" -> ∀y∈ps.take s.tn,¬sol y)->1<=M/\∃q,rdF R t (40*(M - 1)+40) (ae ps s).1 (ae ps s).2=!q:=λs h1 h2 u p B=>by
  have J:=C.pl _ (gT p)
  have S:(t.length - s.t)*64+rk (ae ps s).1<(t.length - k)*64+rk x:=by
   by_cases e:s.t=k
   .have:rk (ae ps s).1<rk x:=by
     by_cases b:w = "row"
     .exact C.rw b _ _ (kG p) (B e b)
     .exact C.nr b _ (gT p)
    rw[e];nofun
   .have:=h.bd (ae ps s).1;have:(t.length - s.t)+1<=t.length - k:=()
    have:((t.length - s.t)+1)*64<=(t.length - k)*64:=Nat.mul_le_mul_right _ this;nofun
  exact{(),H (M - 1) () _ _ (by show (t.length - s.t)*64+_<=_;nofun) J u}
 have go:∀(n:Nat) (s:As) (far:Nat) (ls:↥Str),s.fm=.comp w ps->s.k=k->k<=s.t->s.t<=t.length->(s.dn=false->s.tn<ps.length)->(s.t=k->w = "row" -> ∀y∈ps.take s.tn,¬sol y)->nj t w ps s<=n->∃r,goF R t (40*(M - 1)+40+n+1) s far ls=!r:=by
  intro n
  induction n with
  | zero=>
   intro s far ls A h1 h2 u p B i
   cases hd:s.dn with
   |true=>exact{_,gG hd}
   | false=>
    unfold nj at i;rw[if_neg (by rw[hd];decide)] at i;have:=p hd;split at i <;> nofun
  | succ n o=>
   intro s far ls A h1 h2 u p B i
   cases hd:s.dn with
   |true=>exact{_,gG hd}
   | false=>
    have j:=p hd;obtain⟨N,q,D⟩:=ask s h1 h2 u j B;have m:=uw h.rls (C.pl _ (gT j)) u D;rw[show 40*(M - 1)+40+(n+1)+1=(40*(M - 1)+40+n+1)+1 from (),i9 hd A (mZ () D)];unfold nj at i;rw[if_neg (by rw[hd];decide)] at i;have fin:∀s':As,s'.dn=true->∃r,goF R t (40*(M - 1)+40+n+1) s' (max far q.far) (mo ls q.ls)=!r:=λs' hs=>{_,gG hs};rcases C.wd with b|b|b|b|b
    .rw[fK b];rw[if_neg (by rw[b];decide +kernel)] at i
     cases d:q.ln with
     |none=>exact fin _ rfl
     | some l=>
      have g:=m.ln l d;by_cases a:s.tn+1=ps.length
      .rw[show mY ps { s with st:=s.st++[ae ps s] } ↑l=gg { s with st:=s.st++[ae ps s],t:=s.t+l,tn:=s.tn+1 } ↑(s.t+l - s.k) from if_pos a];exact fin _ rfl
      .rw[show mY ps { s with st:=s.st++[ae ps s] } ↑l={ s with st:=s.st++[ae ps s],t:=s.t+l,tn:=s.tn+1 } from if_neg a];refine o _ _ _ A h1 (by show k<=s.t+l;nofun) g (λ_=>by show s.tn+1<_;nofun) (λe _ y v=>?_) ?_
       .have U:s.t+l=k:=e;have c:y∈ps.take (s.tn+1):=v;rw[aap,kG j] at c;rcases abQ.mp c with c|c
        .exact B () b y c
        .have:y=(ae ps s).1:=(by exists c);rw[this];exact λz=>h.sl _ z _ _ _ D (by rw[d];congr 1;nofun)
       .unfold nj;split
        .nofun
        .rw[if_neg (by rw[b];decide +kernel)];show ps.length - (s.tn+1)<=n;nofun
    .rw[dH b];rw[if_neg (by rw[b];decide +kernel)] at i;by_cases a:q.ln≠none∨s.tn+1=ps.length
     .rw[show cq ps { s with st:=s.st++[ae ps s] } q.ln=gg { s with st:=s.st++[ae ps s],tn:=s.tn+1 } q.ln from if_pos a];exact fin _ rfl
     .rw[show cq ps { s with st:=s.st++[ae ps s] } q.ln={ s with st:=s.st++[ae ps s],tn:=s.tn+1 } from if_neg a];refine o _ _ _ A h1 h2 u (λ_=>by show s.tn+1<_;nofun) (λ_ z=>by rw[b] at z;exact absurd z ∅) ?_;unfold nj;split
      .nofun
      .rw[if_neg (by rw[b];decide +kernel)];show ps.length - (s.tn+1)<=n;nofun
    .rw[i5 b];rw[if_pos b] at i;by_cases a:q.ln=none∨q.ln=!0
     .rw[show cZ { s with st:=s.st++[ae ps s] } q.ln=gg { s with st:=s.st++[ae ps s] } ↑(s.t - s.k) from if_pos a];exact fin _ rfl
     .rw[show cZ { s with st:=s.st++[ae ps s] } q.ln={ s with st:=s.st++[ae ps s],t:=s.t+q.ln.getD 0 } from if_neg a]
      cases d:q.ln with
      |none=>exact absurd (.inl d) a
      | some l=>
       have g:=m.ln l d;have K:l≠0:=λz=>a (.inr (by rw[d,z]));refine o _ _ _ A h1 (by show k<=s.t+l;nofun) g (λ_=>j) (λ_ z=>by rw[b] at z;exact absurd z ∅) ?_;unfold nj;split
       .nofun
       .first|rw[if_pos b]|skip
        show t.length - (s.t+l)+1<=n;have:s.t+l<=t.length:=g;nofun
    .rw[i6 b];exact fin _ rfl
    .rw[l5 b];exact fin _ rfl
 have P:bO R t x k={.comp w ps,x,k,k,0,[],false,none}:=by unfold bO;rw[E]
 have h1:1<=M:=by
  have O:ps[0]?=!(ps[0]'(by have:=C.l1;nofun)):=List.getElem?_eq_getElem _
  have:rk (ps[0]'(by have:=C.l1;nofun))<rk x:=by
   by_cases b:w = "row"
   .exact C.rw b 0 _ O (λy v=>nomatch v)
   .exact C.nr b _ (aaJ _)
  nofun
 obtain⟨r,hr⟩:=go 33 {.comp w ps,x,k,k,0,[],false,none} k [x] rfl rfl (aac _) L (λ_=>by have:=C.l1;show 0<_;nofun) (λ_ _ y v=>nomatch v) (by
  unfold nj;rw[if_neg (show ¬((false:Bool)=true) from abU)];have:=C.l8;split
  .show t.length - k+1<=33;nofun
  .show ps.length - 0<=33;nofun)
 refine{r,?_};show goF R t (40*M+40) (bO R t x k) k [x]=!r;rw[P];exact mZ () hr
def vp(nd:(rows.map (·.1)).Nodup){r:Rw}(hr:r∈rows):bW (ah rows) r.1=rlR r.2.1 r.2.2:=by
 rw[i3 nd];obtain⟨r',a,b,e⟩:=cD (rows:=rows) (n:=r.1) (abW.mpr {(r),hr,rfl});rw[e,lT nd hr a b]
def pj :ky .any z k=if k<z.length then ↑1 else none:=by
 simp only[ky,lJ];by_cases h:k<z.length
 .rw[if_pos h,if_pos h];rfl
 .rw[if_neg h,if_neg h]
def fL:↥Str->Str->Nat
 |[],_=>0
 |y::r,x=>if x=y then r.length+1 else fL r x
theorem kH:∀(l:↥Str) (x:Str),fL l x<=l.length
 |[],_=>aac _
 | y::r,x=>by
  unfold fL;split
  .exact aac _
  .exact Nat.le_succ_of_le (kH r x)
theorem l6:∀{l:↥Str} {x:Str},x∉l->fL l x=0
 |[],_,_=>rfl
 | y::r,x,h=>by
  unfold fL;rw[if_neg λe=>h (by rw[e];exact aab ..)];exact l6 λz=>h (aad _ z)
theorem kI:∀{l:↥Str} {j:Nat} {x:Str},l.Nodup->l[j]?=!x->fL l x=l.length - j
 |[],j,x,_,h=>by cases h
 |y::r,0,x,_,h=>by cases h;unfold fL;rw[if_pos rfl];rfl
 | y::r,j+1,x,nd,h=>by
  obtain⟨b,a⟩:=abV.mp nd;have h':r[j]?=!x:=h;have c:x≠y:=λe=>b (e ▸ List.mem_of_getElem? h');unfold fL;rw[if_neg c,kI a h',abX];nofun
def jM(nd:(ns++nn).Nodup)(hx:ns[j]?=!x)(c:y∈ns.drop (j+1)++nn):fL ns y<fL ns x:=by
 obtain⟨a,f,b⟩:=ab0.mp nd;have g:=(List.getElem?_eq_some_iff.mp hx).1;rw[kI a hx];rcases abQ.mp c with h|h
 .obtain⟨m,d,e⟩:=acd.mp h;rw[aaN] at d;rw[List.getElem_drop] at e;rw[kI (j:=j+1+m) a (by rw[List.getElem?_eq_getElem (),e])];nofun
 .rw[l6 λz=>b y z y h rfl];nofun
def BkW.ndr(B:BkW ns nn rows):(rows.map (·.1)).Nodup:=by
 rw[B.names];exact(List.reverse_perm ns).nodup_iff.mpr (ab0.mp B.nd).1
def BkW.few(B:BkW ns nn rows):rows.length=ns.length:=by
 have:=congrArg List.length B.names
 rwa [abP,aa3] at this
def BkW.lack(B:BkW ns nn rows){x:Str}(h:x∉ns):bW (ah rows) x=.leaf .lack:=by
 rw[i3 B.ndr]
 have:eS rows x=none:=by
  unfold eS;refine List.find?_eq_none.mpr λr hr=>?_;have:r.1≠x:=λe=>h (by rw[← abK,← B.names];exact e ▸ abW.mpr {(r),hr,rfl});simp[this]
 rw[this]
def BkW.has(B:BkW ns nn rows){x:Str}(h:x∈ns):∃w rest,(x,w,rest)∈rows:=by
 rw[← abK,← B.names] at h;obtain⟨⟨y,w,rest⟩,hr,rfl⟩:=abW.mp h;exact{(w),rest,hr}
def vq{s:↥Str}{rest:↥Str}(c:∀x∈later,x∈every)(h:nh later every s w rest):yF every w rest:=by
 rcases h with h|h|⟨h,x,rfl,d⟩|⟨h,h1,h2,b⟩|⟨h,h1,h2,b,_⟩
 .exact .inl h
 .exact .inr (.inl h)
 .exact .inr (.inr (.inl {h,rfl,λz a=>by rw[abR.mp a];exact c x d}))
 .exact .inr (.inr (.inr {.inr h,h1,h2,λz a=>c z (b z a)}))
 .exact .inr (.inr (.inr {.inl h,h1,h2,b}))
def fM :∀x∈ns.drop (j+1)++nn,x∈ns++nn:=-λx a=>(abQ.mp a).elim (λh=>abQ.mpr (.inl (abN h))) λh=>abQ.mpr (.inr h)
def J0(B:BkW ns nn rows)(s:Sol nn rows x):NZ (bW (ah rows)) t x:=by
 induction s with
 |lack h=>exact ni (B.lack λz=>(ab0.mp B.nd).2.2 _ z _ h rfl) λk=>by simp[ky,lJ]
 | @leaf x w rest h1 h2=>
  have a:=vp B.ndr h1;rcases h2 with h2|h2
  .subst h2;refine ni (a:bW (ah rows) x=.leaf (.signs (rest.headD ""))) λk=>?_
   cases j:t.cps.toList[k]? with
   |none=>unfold ky;rw[kx j];exact λz=>nomatch z
   | some c=>
    unfold ky;rw[mX j];by_cases i:c∈(rest.headD "").cps.toList
    .rw[if_pos i];exact λz=>by cases z
    .rw[if_neg i];exact λz=>nomatch z
  .subst h2;refine ni (a:bW (ah rows) x=.leaf .any) λk=>?_;rw[pj];split <;> exact λz=>by cases z
 | @row x y rest h1 h2 _ d=>
  have a:bW (ah rows) x=.comp "row" rest:=vp B.ndr h1;intro f k r e;have g:bO (bW (ah rows)) t x k={.comp "row" rest,x,k,k,0,[],false,none}:=by unfold bO;rw[a]
  have b:goF (bW (ah rows)) t f (bO (bW (ah rows)) t x k) k [x]=!r:=e;rw[g] at b;exact AL f _ _ _ r b rfl rfl (aac _) (abD h2) (.inr {(y),h2,d})
 | @first x rest h1 _ l d=>
  have a:bW (ah rows) x=.comp "first" rest:=vp B.ndr h1;intro f k r e;have g:bO (bW (ah rows)) t x k={.comp "first" rest,x,k,k,0,[],false,none}:=by unfold bO;rw[a]
  have b:goF (bW (ah rows)) t f (bO (bW (ah rows)) t x k) k [x]=!r:=e;rw[g] at b;exact pi d f _ _ _ r b rfl rfl (List.length_pos_iff.mpr l)
def Fx(B:BkW ns nn rows)(s:Sol nn rows x):¬Emp (ah rows) x:=by
 have key:∀{r r':Rw},r∈rows->r'∈ah rows->r'.1=r.1->r'=r:=λhr c e=>lT B.ndr hr (ci c) e
 induction s with
 | @lack x h=>
  intro e
  have d:∀r∈ah rows,r.1≠x:=λr hr y=>by
   have:r.1∈ns:=by rw[← abK,← B.names];exact abW.mpr {r,ci hr,rfl}
   exact(ab0.mp B.nd).2.2 _ this _ h y
  cases e with
  |base h1 _=>exact d _ h1 rfl
  |row h1 _ _=>exact d _ h1 rfl
  |first h1 _ _ _=>exact d _ h1 rfl
 | @leaf x w rest h1 h2=>
  intro e;generalize a:x=z at e
  cases e with
  | base g1 g2=>
   rw[key h1 g1 a.symm] at g2;rcases h2 with rfl|rfl
   .exact absurd (show qP "signs" from g2) (by unfold qP;decide +kernel)
   .exact absurd (show qP "any" from g2) (by unfold qP;decide +kernel)
  | row g1 g2 _=>
   rw[key h1 g1 a.symm] at g2;rcases h2 with rfl|rfl
   .exact absurd (show ("signs" : Str) = "row" from g2) ∅
   .exact absurd (show ("any" : Str) = "row" from g2) ∅
  | first g1 g2 _ _=>
   rw[key h1 g1 a.symm] at g2;rcases h2 with rfl|rfl
   .exact absurd (show ("signs" : Str) = "first" from g2) ∅
   .exact absurd (show ("any" : Str) = "first" from g2) ∅
 | @row x y rest h1 h2 _ b=>
  intro e;generalize a:x=z at e
  cases e with
  |base g1 g2=>rw [key h1 g1 a.symm] at g2;exact absurd (show qP "row" from g2) (by unfold qP;decide +kernel)
  |row g1 g2 g3=>rw [key h1 g1 a.symm] at g3;exact b (g3 y h2)
  |first g1 g2 _ _=>rw [key h1 g1 a.symm] at g2;exact absurd (show ("row" : Str) = "first" from g2) ∅
 | @first x rest h1 _ g b=>
  intro e;generalize a:x=z at e
  cases e with
  |base g1 g2=>rw [key h1 g1 a.symm] at g2;exact absurd (show qP "first" from g2) (by unfold qP;decide +kernel)
  |row g1 g2 g3=>rw [key h1 g1 a.symm] at g2;exact absurd (show ("first" : Str) = "row" from g2) ∅
  |first g1 g2 g3 f=>rw [key h1 g1 a.symm] at g3;exact b _ g3 f
def BkW.bk(B:BkW ns nn rows):BookR (ah rows):=by
 have m:=B.l30;have n:=B.few;have l:=B.nl;refine lZ (pool:=ns++nn) (rank:=fL ns) {B.ndr,λr hr=>?_,(),B.nm,by rw[aag];nofun,λzs g r hr x a=>?_}
 .obtain⟨j,s,g1,_,g3⟩:=B.fm r hr;exact{B.nm _ (abQ.mpr (.inl (List.mem_of_getElem? g1))),vq fM g3}
 .obtain⟨j,s,g1,g2,g3⟩:=B.fm r hr;refine jM B.nd g1 ?_;rcases g3 with ⟨h,e⟩|⟨h,z,e,_⟩|⟨h,y,e,b⟩|⟨h,_,_,d⟩|⟨h,_,_,_,d⟩
  .have:=eP a;unfold bU at this;rw[e] at this;split at this <;> cases this
  .have:=eP a;unfold bU at this;rw[if_pos h] at this;cases this
  .have:=eP a;unfold bU at this;rw[if_neg (by rcases h with h|h|h <;> (rw[h];decide +kernel)),e] at this;rw[abR.mp this];exact b
  .have:=eP a;unfold bU at this;rw[if_neg (by rw[h];decide +kernel)] at this;exact d x this
  .unfold bG at a;rw[if_pos h] at a
   obtain⟨i,hi,c⟩:∃i,r.2.2[i]?=!x/\∀y∈r.2.2.take i,y∈zs:=by
    generalize r.2.2=ps at a;clear d
    induction ps with
    |nil=>cases a
    | cons p ps f=>
     unfold kN at a;split at a
     .rename_i k;rcases abS.mp a with e|e
      .exact{0,by rw[e];rfl,λy b=>nomatch b}
      .obtain⟨i,h1,h2⟩:=f e;exact{i+1,h1,λy b=>(abS.mp b).elim (λe=>e ▸ k) (h2 y)}
     .exact{0,by rw[abR.mp a];rfl,λy b=>nomatch b}
   exact d i x hi λy b hs=>Fx B (g2 y hs) ((g y).mp (c y b))
def BkW.rk(B:BkW ns nn rows)(u:t.length<=30):RkOk (bW (ah rows)) t (ns++nn) (fL ns) (Sol nn rows):=by
 refine{λx w ps e=>?_,λx o=>J0 B o,λx=>aar (kH ns x) (by have:=B.l30;nofun),u};have o:x∈ns:=Classical.byContradiction λy=>by rw[B.lack y] at e;cases e
 obtain⟨c,rest,hr⟩:=B.has o;obtain⟨j,s,g1,g2,g3⟩:=B.fm _ hr;have r:=vp B.ndr hr;rw[e] at r;have f:∀y∈ns.drop (j+1)++nn,fL ns y<fL ns x:=λy g=>jM B.nd g1 g;have b:∀{l:Str} {q:↥Str},l ≠ "none" -> l ≠ "any" -> l ≠ "signs" -> rlR l q=.comp l q:=λh1 h2 k=>by unfold rlR;rw[if_neg h1,if_neg h2,if_neg k]
 have a:Rl.comp w ps=rlR c rest:=r;rcases g3 with ⟨h,m⟩|⟨h,z,m,_⟩|⟨h,y,m,g⟩|⟨h,h1,h2,k⟩|⟨h,h1,h2,k,v⟩
 .rcases h with h|h
  .have h:c = "none" := h;subst h;exact nomatch a
  .have h:c = "any" := h;subst h;exact nomatch a
 .have h:c = "signs" := h;subst h;exact nomatch a
 .have h:c = "again" ∨ c = "ahead" ∨ c = "not" := h;have m:rest=[y]:=m;rw[b (by rcases h with h|h|h <;> (rw[h];decide +kernel)) (by rcases h with h|h|h <;> (rw[h];decide +kernel)) (by rcases h with h|h|h <;> (rw[h];decide +kernel))] at a;cases a;subst m;exact{aac _,(by decide:1<=8),λp d=>by rw[abR.mp d];exact fM y g,.inr (.inr h),λ_ p d=>by rw[abR.mp d];exact f y g,λz=>by rcases h with h|h|h <;> exact absurd (z.symm.trans h) ∅,λ_=>rfl}
 .have h:c = "first" := h;subst h;rw[b ∅ ∅ ∅] at a;cases a;exact{h1,h2,λp d=>fM p (k p d),.inr (.inl rfl),λ_ p d=>f p (k p d),λz=>absurd z ∅,λz=>by rcases z with z|z|z <;> exact absurd z ∅}
 .have h:c = "row" := h;subst h;rw[b ∅ ∅ ∅] at a;cases a;exact{h1,h2,k,.inl rfl,λz=>absurd rfl z,λ_ i p hi g=>f p (v i p hi λy n hs=>g y n (g2 y hs)),λz=>by rcases z with z|z|z <;> exact absurd z ∅}
def qM(R:Rls)(t:Str)(ks:↥↥Key)(ds:↥D)(b:↥Sp2):Prop:=∀q∈b,∃(f:Nat) (a:Res) (st:↥Sp2),rdF R t f q.1 q.2=!a/\cI ks ds (gQ q)=!(ce a.ln ((a.far:Int) - (q.2:Int)+1) st (bF a.ls))
@[irreducible] def bx:Ct:=λos P=>∃(R:Rls) (t x w:Str) (rest:↥Str) (ks:↥↥Key) (ds:↥D) (k f:Nat) (r:Res),os=[.fz (aG w rest),.fz (.str t),.ft ks ds,.fz (.int k)]/\R x=rlR w rest/\iO w rest/\k<=t.length/\t.length<=1000/\rdF R t f x k=!r/\qM R t ks ds (eN R t f (x,k))/\(eN R t f (x,k)).length<=1000/\P (.fz (.tup [dD r.ln,.lst ((eN R t f (x,k)).map az)])) os
abbrev AM:Stmt:=top 63
abbrev J1:FS:=
  (am (bX (fOp aIx (ab 0) (fC (.int 0))) (ac 4))
  (am (fIf (fOr (au (fOp aEq (ab 4) (fC (.str "any")))) (au (fOp aEq (ab 4) (fC (.str "signs")))))
   (am (bX (fW (fOp (i8 (λi j=>decide (i<j)) a8) (ab 3) (fCB eR (aa (ab 1) af))) (LM (fOp aEq (ab 4) (fC (.str "any"))) (fOp aIn (fOp aIx (ab 1) (ab 3)) (fOp aIx (ab 0) (fC (.int 1)))))) (ac 5))
  (bi (fX (aa (fOp aIx (gv (aa (fC .non) (aa (fC (.int 1)) af))) (fCB KQ (aa (ab 5) af))) (aa (gv af) af)))))
   aH)
  (am (b9 6 (gv af))
  (am (bX (ab 3) (ac 7))
  (am (bX (fOp aEq (ab 4) (fC (.str "again"))) (ac 8))
  (am (iw (Dc (ab 8))
   (am (bA (qm 6 (fX (aa (fOp aIx (ab 0) (fC (.int 1))) (aa (ab 7) af)))))
  (am (bX (fOp aIx (fOp aIx (ab 2) (fX (aa (fOp aIx (ab 0) (fC (.int 1))) (aa (ab 7) af)))) (fC (.int 0))) (ac 9))
  (am (bX (fW (fOp lA (ab 9) (fC .non)) (fOp (i8 (λi j=>decide (j<i)) λi j=>a8 j i) (ab 9) (fC (.int 0)))) (ac 8))
  (fIf (Dc (ab 8))
   (bX (fOp eM (ab 7) (ab 9)) (ac 7))
   aH)))))
  (am (fIf (fOr (au (fOp aEq (ab 4) (fC (.str "again")))) (au (fOp aEq (ab 4) (fC (.str "none")))))
   (bi (fX (aa (fOp (aI0 λi j=>.int (i - j)) (ab 7) (ab 3)) (aa (ab 6) af))))
   aH)
  (am (jz (sS (fSl aSl (ab 0) (ir (fC (.int 1))) cH)) (ac 10)
   (am (bA (qm 6 (fX (aa (ab 10) (aa (ab 7) af)))))
  (am (bX (fOp aIx (fOp aIx (ab 2) (fX (aa (ab 10) (aa (ab 7) af)))) (fC (.int 0))) (ac 9))
  (am (fIf (fOr (Da (au (fOp aEq (ab 4) (fC (.str "first")))) (au (fOp lA (ab 9) (fC .non)))) (Da (au (fOp aEq (ab 4) (fC (.str "row")))) (au (fOp xM (ab 9) (fC .non)))))
   (bi (fX (aa (ab 9) (aa (ab 6) af))))
   aH)
  (fIf (au (fOp aEq (ab 4) (fC (.str "row"))))
   (bX (fOp eM (ab 7) (ab 9)) (ac 7))
   aH)))))
  (am (fIf (au (fOp aEq (ab 4) (fC (.str "row"))))
   (bi (fX (aa (fOp (aI0 λi j=>.int (i - j)) (ab 7) (ab 3)) (aa (ab 6) af))))
   aH)
  (am (bX (fOp lA (fOp aIx (fOp aIx (ab 2) (fOp aIx (ab 6) (fC (.int 0)))) (fC (.int 0))) (fC .non)) (ac 11))
  (bi (fX (aa (fOp aIx (gv (aa (fC .non) (aa (fC (.int 0)) af))) (fCB KQ (aa (fW (fOp aNe (ab 4) (fC (.str "first"))) (fOp aEq (ab 11) (fOp aEq (ab 4) (fC (.str "ahead"))))) af))) (aa (ab 6) af))))))))))))))
section
variable   {ks:↥↥Key}      {E:As}  
def vt(T:qM R t ks ds E.st)(j:goF R t m s far ls=!r)(hd:s.dn=false)(k:s.fm=.comp w ps)(f:cy R t m s=E):∃(c:Nat) (q:Res),c<m/\goF R t c (bJ w ps s q.ln) (max far q.far) (mo ls q.ls)=!r/\cy R t c (bJ w ps s q.ln)=E/\(∀l,q.ln=!l->∃g,rdF R t g (ae ps s).1 (ae ps s).2=!q)/\∃(a:Int) (st:↥Sp2) (b:↥Str),cI ks ds [.inr (ae ps s).1,.inl ((ae ps s).2:Int)]=!(ce q.ln a st b):=by
 obtain⟨c,rfl⟩:∃c,m=c+1:=by
  cases m with
  |zero=>cases j
  |succ c=>exact {(c),rfl}
 obtain⟨p,u,q,h1,h2,n⟩:=jl hd j;rw[k] at h1;cases h1;rw[iR hd k h2] at f
 have d:ae ps s∈E.st:=by
  rw[← f];refine ux ?_;obtain⟨_,_,_,_,e,_⟩:=dE w ps s q.ln;rw[e];exact aal _ (aab ..)
 obtain⟨g,i,st,g1,g2⟩:=T _ d;have o:i=q:=gz g1 h2;subst o;exact{c,i,aaD _,n,f,λ_ _=>{(g),g1},_,st,_,g2}
theorem nk:∀(f:Nat) (s:As),s.st.length<=(cy R t f s).st.length
 |0,s=>aac _
 | f+1,s=>by
  unfold cy;split
  .exact aac _
  .split
   .exact aac _
   .split
    .exact aac _
    .refine aar ?_ (nk f _);obtain⟨_,_,_,_,e,_⟩:=dE _ _ s _;rw[e];show s.st.length<=(s.st++[_]).length;rw[aag];exact Nat.le_add_right _ _
def eG(a:goF R t m s far ls=!r)(hd:s.dn=true)(b:cy R t m s=E):r.ln=s.ln/\E.st=s.st:=by
 cases m with
 |zero=>cases a
 | succ m=>
  rw[gG hd] at a;cases a;exact{rfl,by rw[← b,iQ hd]}
end
def zy{l:Nat}(h:l≠0):cZ s ↑l={ s with t:=s.t+l }:=-if_neg λz=>z.elim (λy=>nomatch y) λy=>h (aak y)
def J2:Hh bx J1 [2] 12:=by
  intro os P h;unfold bx at h;obtain⟨R,t,x,w,rest,ks,ds,k,f,r,rfl,hR,hN,hk,htl,hr,T,hle,q⟩:=h;have sz:=sizeLine_eq;have M:goF R t f (bO R t x k) k [x]=!r:=hr;revert bN(gL (w ≠ "any" /\ w ≠ "signs") (λhw=>?_) (λC=>?_))
  · ext
    refine{aan _,?_};revert{ai,?_};ext;have hE:(cy R t f (bO R t x k)).st=eN R t f (x,k):=rfl;generalize W:cy R t f (bO R t x k)=E at hE;rw[← hE] at T q hle;by_cases hag:w = "again"
    · subst hag
      obtain⟨p,rfl⟩:∃p,rest=[p]:=by
        obtain⟨zs,_,h⟩:=hN;rcases h with ⟨h|h,_⟩|⟨h,_⟩|⟨_,h,_⟩|⟨h|h,_⟩
        · exact absurd h ∅
        · exact absurd h ∅
        · exact absurd h ∅
        · match rest,h with
          |[p],_=>exact{(p),rfl}
        · exact absurd h ∅
        · exact absurd h ∅
      have hR':R x=.comp "again" [p]:=hR;have eb:bO R t x k={.comp "again" [p],x,k,k,0,[],false,none}:=by unfold bO;rw[hR']
      rw[eb] at M W;rw[dG]
      refine cY (λm ρ=>∃(g:Bool) (j:Nat) (st:↥Sp2) (x9:Option OV),ρ=[!(.fz (aG "again" [p])),!(.fz (.str t)),!(.ft ks ds),!(.fz (.int k)),!(.fz (.str "again")),none,!(.fl (st.map az)),!(.fz (.int j)),!(.fz (.bl g)),x9,none,none]/\k<=j /\
          ((g=true/\∃far ls,goF R t m {.comp "again" [p],x,k,j,0,st,false,none} far ls=!r/\cy R t m {.comp "again" [p],x,k,j,0,st,false,none}=E)∨(g=false/\r.ln=!(j - k)/\E.st=st))) f
        {true,k,[],none,rfl,aac _,.inl {rfl,k,[x],M,W}} ?_
      rintro m ρ Q ⟨g,j,st,x9,rfl,O,hh⟩ kk;ext;rcases hh with ⟨rfl,far,ls,hg,he⟩|⟨rfl,hln,hst⟩
      · refine cw ?_
        obtain⟨m',S,hm',n,s,_,a,I,b,K⟩:=vt T hg rfl rfl he;have H:cI ks ds [.inr p,.inl (j:Int)]=!(ce S.ln a I b):=K;have hsl:st.length<=1000:=aar (he ▸ nk m {.comp "again" [p],x,k,j,0,st,false,none}:st.length<=E.st.length) hle;have hlm:(st.map az).length=st.length:=abP ..;rw[i5 rfl] at n s;revert{rfl,?_}{lez 2,?_}{(),?_}{lez 2,?_}(dF H ?_);ext;have B:(st++[(p,j)]).map az=st.map az++[az (p,j)]:=aae
        cases hq:S.ln with
        | none=>
          rw[hq] at n s;obtain⟨f1,f2⟩:=eG n rfl s;refine cP ?_;revert ay cP;exact kk m' _ hm' {false,j,st++[(p,j)],!(.fz .non),by rw[B];rfl,O,.inr {(rfl),f1,f2}}
        | some l=>
          rw[hq] at n s;refine cw ?_;revert ay(al ((0:Int)<(l:Int)) decide_eq_true_iff (λhl=>?_) (λhl=>?_))
          · rw[zy ()] at n s
            revert(kk m' _ hm' {true,j+l,st++[(p,j)],!(.fz (.int l)),by rw[B];simp only[decide_eq_true hl];rfl,(),.inl {rfl,_,_,n,s}})
          · have hl0:l=0:=()
            subst hl0;obtain⟨f1,f2⟩:=eG n rfl s;exact kk m' _ hm' {false,j,st++[(p,j)],!(.fz (.int ((0:Nat):Int))),by rw[B];rfl,O,.inr {(rfl),f1,f2}}
      · refine cP ?_
        revert ay{ai,?_}(al True {λ_=>trivial,λ_=>dG _} (λ_=>?_) (λh=>absurd trivial h)) cw{lez 2,?_};ext;rw[hln,hst] at q;have Y:P (.fz (.tup [.int ((j - k:Nat):Int),.lst (st.map az)])) [.fz (aG "again" [p]),.fz (.str t),.ft ks ds,.fz (.int k)]:=q;rw[show ((j - k:Nat):Int)=(j:Int) - (k:Int) from ()] at Y;exact Y
    · rw[show dEq (.str w) (.str "again")=false from ab9.mpr λy=>hag (aq.mp y)]
      refine cY (λm ρ=>ρ=[!(.fz (aG w rest)),!(.fz (.str t)),!(.ft ks ds),!(.fz (.int k)),!(.fz (.str w)),none,!(.fl []),!(.fz (.int k)),!(.fz (.bl false)),none,none,none]) 0 rfl ?_;rintro m ρ Q rfl kk;revert cP ay{ai,?_}(al False {λy=>hag (aq.mp y),False.elim} False.elim (λ_=>?_)){ai,?_}(al (w = "none") aq (λhno=>?_) (λhno=>?_))
      · subst hno
        have hR':R x=.leaf .none:=hR;have eb:bO R t x k={.leaf .none,x,k,k,0,[],true,!0}:=by unfold bO;rw[hR'];rfl
        rw[eb] at M W;obtain⟨f1,f2⟩:=eG M rfl W;revert{lez 2,?_};ext;rw[f1,f2] at q;show P (.fz (.tup [.int ((k:Int) - (k:Int)),.lst []])) _;rw[show (k:Int) - (k:Int)=((0:Nat):Int) from ()];exact q
      have hps:1<=rest.length/\rest.length<=8/\(w = "row" ∨ w = "first" ∨ w = "ahead" ∨ w = "not")/\((w = "ahead" ∨ w = "not")->rest.length=1):=by
        obtain⟨zs,_,h⟩:=hN;rcases h with ⟨h|h,_⟩|⟨h,_⟩|⟨h,h2,_⟩|⟨h,h2,h3,_⟩
        · exact absurd h hno
        · exact absurd h hw.1
        · exact absurd h hw.2
        · rcases h with h|h|h
          · exact absurd h hag
          · exact{(),(),.inr (.inr (.inl h)),λ_=>h2}
          · exact{(),(),.inr (.inr (.inr h)),λ_=>h2}
        · rcases h with h|h
          · exact{h2,h3,.inl h,λz=>by rcases z with z|z <;> exact absurd (h.symm.trans z) ∅}
          · exact{h2,h3,.inr (.inl h),λz=>by rcases z with z|z <;> exact absurd (h.symm.trans z) ∅}
      obtain⟨hp1,hp8,hwd,hone⟩:=hps
      have hR':R x=.comp w rest:=by
        rw[hR];unfold rlR;rw[if_neg hno,if_neg hw.1,if_neg hw.2]
      have eb:bO R t x k={.comp w rest,x,k,k,0,[],false,none}:=by unfold bO;rw[hR']
      rw[eb] at M W;have ecut:fR (D.str w::rest.map D.str) ↑1 none=rest.map .str:=cG _ 1;revert{by show cU (List.length (D.str w::rest.map D.str)) ↑((1:Nat):Int) none;unfold cU;rw[HT.sIx_nat,abX];nofun,?_};rw[ecut];ext
      refine aW (λi ρ=>∃(j:Nat) (st:↥Sp2) (x9 x10:Option OV),ρ=[!(.fz (aG w rest)),!(.fz (.str t)),!(.ft ks ds),!(.fz (.int k)),!(.fz (.str w)),none,!(.fl (st.map az)),!(.fz (.int j)),!(.fz (.bl false)),x9,x10,none]/\k<=j /\
        ((i<rest.length/\(i=0->st=[])/\(∀p A,st=p::A->∃J a I b,cI ks ds (gQ p)=!(ce J a I b))/\∃m far ls,goF R t m {.comp w rest,x,k,j,i,st,false,none} far ls=!r/\cy R t m {.comp w rest,x,k,j,i,st,false,none}=E) ∨
         (i=rest.length/\E.st=st/\∃p A J a I b,st=p::A/\cI ks ds (gQ p)=!(ce J a I b)/\(w = "row" -> r.ln=!(j - k))/\(w = "first" -> r.ln=none)/\(w = "ahead" -> r.ln=if J=none then none else !0)/\(w = "not" -> r.ln=if J=none then ↑0 else none))))
        {k,[],none,none,rfl,aac _,.inl {(),λ_=>rfl,(λ_ _ h=>nomatch h),f,k,[x],M,W}} ?_ ?_
      · rintro i d ρ Q' hd ⟨j,st,x9,x10,rfl,O,hh⟩ V
        rw[List.getElem?_map,aaj] at hd;obtain⟨p,hp,rfl⟩:=hd;have hi:=(List.getElem?_eq_some_iff.mp hp).1;rcases hh with ⟨_,h0,hfst,m,far,ls,hg,he⟩|⟨rfl,_⟩
        · obtain⟨m',S,hm',n,s,_,a,I,b,K⟩:=vt T hg rfl rfl he
          have F:ae rest ⟨.comp w rest,x,k,j,i,st,false,none⟩=(p,j):=by
            show (rest.getD i "", j)=_;rw[List.getD_eq_getElem?_getD,hp];rfl
          rw[F] at K;have H:cI ks ds [.inr p,.inl (j:Int)]=!(ce S.ln a I b):=K;have hsl:st.length<=1000:=aar (he ▸ nk m {.comp w rest,x,k,j,i,st,false,none}:st.length<=E.st.length) hle;have hlm:(st.map az).length=st.length:=abP ..;have B:(st++[(p,j)]).map az=st.map az++[az (p,j)]:=aae
          have L:∀Z A,st++[(p,j)]=Z::A->∃J a I b,cI ks ds (gQ Z)=!(ce J a I b):=λZ A e=>by
            cases st with
            |nil=>cases e;exact{_,_,_,_,H}
            |cons y ys=>cases e;exact hfst _ _ rfl
          have hcons:∃Z A,st++[(p,j)]=Z::A:=by
            cases st with
            |nil=>exact{_,_,rfl}
            |cons y ys=>exact{_,_,rfl}
          revert{rfl,?_}{lez 2,?_}{(),?_}{lez 2,?_}(dF H ?_)(gL ((w = "first" -> S.ln=none)/\(w = "row" -> S.ln≠none)) (λhc=>?_) (λC=>?_))
          · ext
            refine ay ?_;revert{ai,?_}(al (w = "row") aq (λu=>?_) (λu=>?_))
            · have hq:=hc.2 u
              rw[fK u,F] at n s
              cases N:S.ln with
              |none=>exact absurd N hq
              | some l=>
                rw[N] at n s;ext;obtain⟨Z,A,hpc⟩:=hcons;obtain⟨X,a2,st2,b2,hg2⟩:=L Z A hpc;by_cases G:i+1=rest.length
                · rw[show mY rest { ({.comp w rest,x,k,j,i,st,false,none}:As) with st:=st++[(p,j)] } ↑l=gg {.comp w rest,x,k,j+l,i+1,st++[(p,j)],false,none} ↑(j+l - k) from if_pos G] at n s
                  obtain⟨f1,f2⟩:=eG n rfl s;exact V _ {j+l,st++[(p,j)],!(.fz (.int l)),!(.fz (.str p)),by rw[B];rfl,(),.inr {G,f2,Z,A,X,a2,st2,b2,hpc,hg2,λ_=>f1,λz=>absurd (u.symm.trans z) ∅,λz=>absurd (u.symm.trans z) ∅,λz=>absurd (u.symm.trans z) ∅}}
                · rw[show mY rest { ({.comp w rest,x,k,j,i,st,false,none}:As) with st:=st++[(p,j)] } ↑l={.comp w rest,x,k,j+l,i+1,st++[(p,j)],false,none} from if_neg G] at n s
                  exact V _ {j+l,st++[(p,j)],!(.fz (.int l)),!(.fz (.str p)),by rw[B];rfl,(),.inl {(),λz=>absurd z (Nat.succ_ne_zero i),L,m',_,_,n,s}}
            · rcases hwd with v|v|v|v
              · exact absurd v u
              · have hq:=hc.1 v
                rw[dH v,F,hq] at n s;obtain⟨Z,A,hpc⟩:=hcons;obtain⟨X,a2,st2,b2,hg2⟩:=L Z A hpc;by_cases G:i+1=rest.length
                · rw[show cq rest { ({.comp w rest,x,k,j,i,st,false,none}:As) with st:=st++[(p,j)] } none=gg {.comp w rest,x,k,j,i+1,st++[(p,j)],false,none} none from if_pos (.inr G)] at n s
                  obtain⟨f1,f2⟩:=eG n rfl s;exact V _ {j,st++[(p,j)],!(.fz (dD S.ln)),!(.fz (.str p)),by rw[B];rfl,O,.inr {G,f2,Z,A,X,a2,st2,b2,hpc,hg2,λz=>absurd z u,λ_=>f1,λz=>absurd (v.symm.trans z) ∅,λz=>absurd (v.symm.trans z) ∅}}
                · rw[show cq rest { ({.comp w rest,x,k,j,i,st,false,none}:As) with st:=st++[(p,j)] } none={.comp w rest,x,k,j,i+1,st++[(p,j)],false,none} from if_neg λz=>z.elim (λy=>y rfl) G] at n s
                  exact V _ {j,st++[(p,j)],!(.fz (dD S.ln)),!(.fz (.str p)),by rw[B];rfl,O,.inl {(),λz=>absurd z (Nat.succ_ne_zero i),L,m',_,_,n,s}}
              · have hl1:=hone (.inl v)
                obtain rfl:i=0:=()
                have hs0:=h0 rfl;subst hs0;rw[i6 v,F] at n s;obtain⟨f1,f2⟩:=eG n rfl s;exact V _ {j,[(p,j)],!(.fz (dD S.ln)),!(.fz (.str p)),rfl,O,.inr {hl1.symm,f2,(p,j),[],S.ln,a,I,b,rfl,H,λz=>absurd z u,λz=>absurd (v.symm.trans z) ∅,λ_=>f1,λz=>absurd (v.symm.trans z) ∅}}
              · have hl1:=hone (.inr v)
                obtain rfl:i=0:=()
                have hs0:=h0 rfl;subst hs0;rw[l5 v,F] at n s;obtain⟨f1,f2⟩:=eG n rfl s;exact V _ {j,[(p,j)],!(.fz (dD S.ln)),!(.fz (.str p)),rfl,O,.inr {hl1.symm,f2,(p,j),[],S.ln,a,I,b,rfl,H,λz=>absurd z u,λz=>absurd (v.symm.trans z) ∅,λz=>absurd (v.symm.trans z) ∅,λ_=>f1}}
          · ext
            refine{ai,?_};revert(al (w = "first") aq (λU=>?_) (λU=>?_))
            · have hnr:w ≠ "row" := λz=>absurd (U.symm.trans z) ∅
              rw[dH U,F] at n s
              cases N:S.ln with
              | none=>
                revert cP{ai,?_}(al False {λy=>hnr (aq.mp y),False.elim} False.elim (λ_=>?_));rw[N] at C;refine cP ?_;exact C {λ_=>rfl,λz=>absurd z hnr}
              | some l=>
                rw[N,show cq rest { ({.comp w rest,x,k,j,i,st,false,none}:As) with st:=st++[(p,j)] } ↑l=gg {.comp w rest,x,k,j,i+1,st++[(p,j)],false,none} ↑l from if_pos (.inl λz=>nomatch z)] at n s;obtain⟨f1,f2⟩:=eG n rfl s;revert cw cw{lez 2,?_};ext;rw[f1,f2] at q;have Y:P (.fz (.tup [.int l,.lst ((st++[(p,j)]).map az)])) [.fz (aG w rest),.fz (.str t),.ft ks ds,.fz (.int k)]:=q;rw[B] at Y;exact Y
            · ext
              refine cP ?_;revert{ai,?_}(al (w = "row") aq (λu=>?_) (λu=>?_))
              · rw[fK u,F] at n s
                cases N:S.ln with
                | none=>
                  rw[N] at n s;obtain⟨f1,f2⟩:=eG n rfl s;revert cw{lez 2,?_};ext;rw[f1,f2] at q;have Y:P (.fz (.tup [.non,.lst ((st++[(p,j)]).map az)])) [.fz (aG w rest),.fz (.str t),.ft ks ds,.fz (.int k)]:=q;rw[B] at Y;exact Y
                | some l=>
                  ext;rw[N] at C;refine cP ?_;exact C {λz=>absurd z U,λ_ z=>by cases z}
              · refine cP ?_
                exact C {λz=>absurd z U,λz=>absurd z u}
        · nofun
      · rintro ρ ⟨j,st,x9,x10,rfl,O,hh⟩
        rw[abP] at hh;rcases hh with ⟨h,_⟩|⟨_,hst,p,A,J,a,I,b,rfl,K,h1,h2,h3,h4⟩
        · exact absurd h (aaZ _)
        revert ay{ai,?_}(al (w = "row") aq (λu=>?_) (λu=>?_))
        · ext
          refine{lez 2,?_};ext;rw[h1 u,hst] at q;have Y:P (.fz (.tup [.int ((j - k:Nat):Int),.lst ((p::A).map az)])) [.fz (aG w rest),.fz (.str t),.ft ks ds,.fz (.int k)]:=q;rw[show ((j - k:Nat):Int)=(j:Int) - (k:Int) from ()] at Y;exact Y
        revert bN(dF K ?_){lez 2,?_}{ai,?_}(al (w ≠ "first") oj (λhnf=>?_) (λhnf=>?_))
        · ext
          refine{ai,?_};revert{{rfl,rfl,aan _},?_};have bft:dEq (.bl false) (.bl true)=false:=∅
          have btf:dEq (.bl true) (.bl false)=false:=∅
          have hA:∀o:Option Nat,r.ln=o->P (.fz (.tup [dD o,.lst ((p::A).map az)])) [.fz (aG w rest),.fz (.str t),.ft ks ds,.fz (.int k)]:=λo ho=>by
            rw[← ho,← hst];exact q
          rcases hwd with v|v|v|v
          · exact absurd v u
          · exact absurd v hnf
          · have h3':=h3 v
            rw[show dEq (.str w) (.str "ahead")=true from aq.mpr v]
            cases J with
            | none=>
              rw[show (⇑(iJ (dD none)))=false from rfl,bft];revert{lez 2,?_}(hA none h3')
            | some l=>
              rw[show (⇑(iJ (dD !l)))=true from rfl,dG];revert{lez 2,?_}(hA ↑0 h3')
          · have h4':=h4 v
            rw[show dEq (.str w) (.str "ahead")=false from ab9.mpr λy=>absurd (v.symm.trans (aq.mp y)) ∅]
            cases J with
            | none=>
              rw[show (⇑(iJ (dD none)))=false from rfl,dG];revert{lez 2,?_}(hA ↑0 h4')
            | some l=>
              rw[show (⇑(iJ (dD !l)))=true from rfl,btf];revert{lez 2,?_}(hA none h4')
        · have U:w = "first" := Classical.not_not.mp hnf
          rw[h2 U,hst] at q;revert{lez 2,?_}(q)
  · have hlc:=cf t
    have leaf:∀l,R x=.leaf l->P (.fz (.tup [dD (ky l t k),.lst []])) [.fz (aG w rest),.fz (.str t),.ft ks ds,.fz (.int k)]:=λl hl=>by
      have eb:bO R t x k={.leaf l,x,k,k,0,[],true,ky l t k}:=by unfold bO;rw[hl]
      obtain⟨f1,f2⟩:=eG (E:=cy R t f (bO R t x k)) (by rw[eb] at M;rw[eb];exact M) (by rw[eb]) rfl
      have f3:eN R t f (x,k)=[]:=by
        show (cy R t f (bO R t x k)).st=[];rw[f2,eb]
      rw[f3] at q;rw[eb] at f1;rw[f1] at q;exact q
    revert{ai,?_}(al (w = "any") aq (λha=>?_) (λha=>?_))
    · subst ha
      have q1:=leaf .any hR;rw[pj] at q1;revert cw{(),?_}(al ((k:Int)<(t.length:Int)) decide_eq_true_iff (λhkl=>?_) (λhkl=>?_))
      · rw[if_pos ()] at q1
        revert{ai,?_}(al True {λ_=>trivial,λ_=>dG _} (λ_=>?_) (λh=>absurd trivial h)){lez 2,?_}{aan _,?_}{lez 2,?_}(q1)
      · rw[if_neg ()] at q1
        revert{lez 2,?_}{aan _,?_}{lez 2,?_}(q1)
    revert{ai,?_}(al (w = "signs") aq (λhb=>?_) (λhb=>C {(ha),hb}));subst hb
    obtain⟨z,rfl⟩:∃z,rest=[z]:=by
      obtain⟨zs,_,h⟩:=hN;rcases h with ⟨h|h,_⟩|⟨_,z,h,_⟩|⟨h|h|h,_⟩|⟨h|h,_⟩
      · exact absurd h ∅
      · exact absurd h ∅
      · exact{(z),h}
      · exact absurd h ∅
      · exact absurd h ∅
      · exact absurd h ∅
      · exact absurd h ∅
      · exact absurd h ∅
    have q1:=leaf (.signs z) hR;revert{(),?_}(al ((k:Int)<(t.length:Int)) decide_eq_true_iff (λhkl=>?_) (λhkl=>?_))
    · obtain⟨c,hc⟩:∃c,t.cps.toList[k]?=!c:={_,List.getElem?_eq_getElem ()}
      have ec:atI t.cps.toList (k:Int)=!c:=cE hc;revert{ai,?_}(al False {λy=>ha (aq.mp y),False.elim} False.elim (λ_=>?_)){(),?_};rw[ec];revert{lez 2,?_}
      have hln:ky (.signs z) t k=if c∈z.cps.toList then ↑1 else none:=by
        unfold ky;rw[mX hc];by_cases hz:c∈z.cps.toList
        · rw[if_pos hz,if_pos hz];rfl
        · rw[if_neg hz,if_neg hz]
      rw[hln] at q1
      have ea:atI [D.non,D.int 1] (if decide (c∈z.cps.toList)=true then 1 else 0)=!(dD (if c∈z.cps.toList then ↑1 else none)):=by
        by_cases hz:c∈z.cps.toList
        · rw[if_pos (decide_eq_true hz),if_pos hz];rfl
        · rw[if_neg (by rw[decide_eq_false hz];decide),if_neg hz];rfl
      ext;rw[ea];revert{aan _,?_}{lez 2,?_}(q1)
    · have:ky (.signs z) t k=none:=by unfold ky;rw[kx (List.getElem?_eq_none ())]
      rw[this] at q1;revert{lez 2,?_}{aan _,?_}{lez 2,?_}(q1)
def Fy{rest:↥Str}{ks:↥↥Key}(d:R x=rlR w rest)(e:iO w rest)(c:k<=t.length)(a:t.length<=1000)(hr:rdF R t f x k=!r)(T:qM R t ks ds (eN R t f (x,k)))(b:(eN R t f (x,k)).length<=1000)
  (h:P (.fz (.tup [dD r.ln,.lst ((eN R t f (x,k)).map az)])) [.fz (aG w rest),.fz (.str t),.ft ks ds,.fz (.int k)]):bx [.fz (aG w rest),.fz (.str t),.ft ks ds,.fz (.int k)] P:=by
 unfold bx;exact{(R),t,x,w,rest,ks,ds,k,f,r,rfl,d,e,c,a,hr,T,b,h}
def pp{a b:Sp2}:dEq (az a) (az b)=true↔a=b:=by
 show (dEq (.str a.1) (.str b.1)&&(dEq (.int a.2) (.int b.2)&&true))=true↔_;rw[Bool.and_true,ab2,aq,bM];constructor
 .rintro⟨h1,h2⟩;obtain⟨d,c⟩:=a;obtain⟨b1,b2⟩:=b;have:c=b2:=Int.ofNat.inj h2;rw[show d=b1 from h1,this]
 .rintro rfl;exact{(rfl),rfl}
def vv{l:↥Sp2}:((l.map az).any λx=>dEq x (az q))=true↔q∈l:=by
 rw[aaK];constructor
 .rintro⟨x,b,h⟩;obtain⟨a,c,rfl⟩:=abW.mp b;exact pp.mp h ▸ c
 .intro h;exact{_,abW.mpr {(q),h,rfl},pp.mpr rfl}
def l7(rows:↥Rw):okDs (rows.map fj)=true:=by
 induction rows with
 |nil=>rfl
 |cons r rows a=>exact ab1.mpr {ab1.mpr {iY r.2.2,rfl},a}
def zz(r:Rw):dep (nR (fj r))<=2:=by
 have h:=e9 r.2.2;show max 0 (max (max 0 (deps (toDVs (r.2.2.map D.str)))+1) 0)+1<=2;rw[h];decide
def vx(rows:↥Rw):deps (toDVs (rows.map fj))<=2:=by
 induction rows with
 |nil=>exact aan _
 |cons r rows a=>exact Nat.max_le.mpr {zz r,a}
def vy :DL (.lst (rows.map fj)) (.lst (rows'.map fj)):=-{l7 rows,l7 rows',aar (abJ (vx rows)) (by decide)}
def zB :∀(es:Kp) {e:Sp2×Res},e∈es->e.2.far<=cb k es:=-λes=>by
 have mono:∀(es:Kp) (a b:Nat),a<=b->a<=cb b es:=λes=>by
  induction es with
  |nil=>exact fun a b h=>h
  |cons y es c=>exact fun a b h=>c a (max b y.2.far) ()
 induction es generalizing k with
 |nil=>intro e h;cases h
 | cons y es c=>
  intro e h;rcases abS.mp h with z|z
  .rw[z];exact mono es _ (max k y.2.far) ()
  .exact c (k:=max k y.2.far) z
theorem AN{R:Rls}{t:Str}:∀(m:Nat) (s:As) (far:Nat) (ls:↥Str) (r:Res),goF R t m s far ls=!r->∃es:Kp,(cy R t m s).st=s.st++es.map (·.1)/\(∀e∈es,∃g,rdF R t g e.1.1 e.1.2=!e.2)/\r.far=cb far es/\∀v,v∈r.ls↔v∈ls∨∃e∈es,v∈e.2.ls
 |0,s,far,ls,r,h=>by cases h
 | m+1,s,far,ls,r,h=>by
  cases hd:s.dn with
  | true=>
   rw[gG hd] at h;cases h;exact{[],by rw[iQ hd,List.map_nil,aaw],(λ_ y=>nomatch y),rfl,λv=>{.inl,λy=>y.elim id fun⟨_,z,_⟩=>nomatch z}}
  | false=>
   obtain⟨w,p,q,h1,h2,b⟩:=jl hd h;obtain⟨es,g1,g2,g3,c⟩:=AN m _ _ _ r b;refine{(ae p s,q)::es,?_,λe a=>?_,g3,λv=>?_}
   .rw[iR hd h1 h2,g1];obtain⟨_,_,_,_,e,_⟩:=dE w p s q.ln;rw[e,abT];show (s.st++[ae p s])++_=_;rw[aay];rfl
   .rcases abS.mp a with z|z
    .rw[z];exact{(m),h2}
    .exact g2 e z
   .rw[c,gP,or_assoc];constructor
    .rintro (z|z|⟨e,a,z⟩)
     .exact .inl z
     .exact .inr {_,aab ..,z}
     .exact .inr {e,aad _ a,z}
    .rintro (z|⟨e,a,z⟩)
     .exact .inl z
     .rcases abS.mp a with y|y
      .rw[y] at z;exact .inr (.inl z)
      .exact .inr (.inr {(e),y,z})
@[irreducible] def bz:Ct:=λos P=>∃(ns nn:↥Str) (rows:↥Rw) (t x:Str) (ks:↥↥Key) (ds:↥D) (k f:Nat) (r:Res),os=[bE rows,.fz (.str t),.ft ks ds,.fz (.str x),.fz (.int k)]/\BkW ns nn rows/\x∈ns++nn/\k<=t.length/\t.length<=30/\rdF (bW (ah rows)) t f x k=!r/\qM (bW (ah rows)) t ks ds (eN (bW (ah rows)) t f (x,k)) /\
 P (.fz (ce r.ln ((r.far:Int) - (k:Int)+1) (b8 [] (eN (bW (ah rows)) t f (x,k))) (bF r.ls))) os
abbrev AO:Stmt:=top 64
abbrev J3:FS:=
  (am (bX (fC .non) (ac 5))
  (am (bX (gv af) (ac 6))
  (am (fIf (au (fOp aIn (ab 3) (ab 0)))
   (bX (ar bx (aa (fFz (fOp aIx (ab 0) (ab 3))) (aa (fFz (ab 1)) (aa (ab 2) (aa (fFz (ab 4)) af))))) (jY 2 (b5 (ac 5) (b5 (ac 6) jX))))
   aH)
  (am (b9 7 (gv af))
  (am (bX (fOp eM (ab 4) (fC (.int 1))) (ac 8))
  (am (b9 9 (tZ (ab 3) (fC (.bl true))))
  (am (jz (bQ (ab 6)) (ac 10)
   (fIf (au (fOp mV (ab 10) (ab 7)))
   (am (bA (qm 7 (ab 10)))
  (am (bX (fCB KN (aa (ab 8) (aa (fOp eM (fOp aIx (ab 10) (fC (.int 1))) (fOp aIx (fOp aIx (ab 2) (ab 10)) (fC (.int 1)))) af))) (ac 8))
  (jz (bQ (fOp aIx (fOp aIx (ab 2) (ab 10)) (fC (.int 3)))) (ac 11)
   (sX 9 (fC (.bl true)) (ab 11)))))
   aH))
  (bi (fX (aa (ab 5) (aa (fOp (aI0 λi j=>.int (i - j)) (ab 8) (ab 4)) (aa (ab 7) (aa (fCB iG (aa (ab 9) af)) af)))))))))))))
def Ka:Hh bz J3 [0,2] 12:=by
 intro os P h;unfold bz at h;obtain⟨ns,nn,rows,t,x,ks,ds,k,f,r,rfl,B,hx,hk,htl,hr,T,q⟩:=h;have sz:=sizeLine_eq;have RK:=B.rk htl;have K:=uw RK.rls hx hk hr;have G:=oN (f:=f) RK.rls (fG (z:=t) RK.rls hx hk)
 have V:(eN (bW (ah rows)) t f (x,k)).length<=1000:=by
  have h5:=G.st;have h6:=G.t8;have h7:=G.tz;have:(if (cy (bW (ah rows)) t f (bO (bW (ah rows)) t x k)).dn=true then 1 else 0)<=1:=by split <;> nofun
  show (cy (bW (ah rows)) t f (bO (bW (ah rows)) t x k)).st.length<=1000;nofun
 obtain⟨es,g1,g2,g3,g4⟩:=AN f _ _ _ r (hr:goF (bW (ah rows)) t f (bO (bW (ah rows)) t x k) k [x]=!r)
 have g1:eN (bW (ah rows)) t f (x,k)=es.map (·.1):=by
  have hb:=(ca (R:=bW (ah rows)) (z:=t) (n:=x) (k:=k)).2.2;show (cy (bW (ah rows)) t f (bO (bW (ah rows)) t x k)).st=_;rw[g1,hb];rfl
 have U:(ns++nn).length<=32:=by have:=B.l30;have:=B.nl;rw[aag];nofun
 generalize hR:bW (ah rows)=R at *;revert{aan _,?_}(gc (λρ=>ρ=[!(bE rows),!(.fz (.str t)),!(.ft ks ds),!(.fz (.str x)),!(.fz (.int k)),!(.fz (dD r.ln)),!(.fz (.lst ((eN R t f (x,k)).map az))),none,none,none,none,none]) ?_ ?_)
 .rintro ρ rfl;revert{aan _,?_};ext;rw[g1,aav]
  refine aW (λi ρ=>∃(L:↥Str) (vs:↥D) (O u:Option OV),ρ=[!(bE rows),!(.fz (.str t)),!(.ft ks ds),!(.fz (.str x)),!(.fz (.int k)),!(.fz (dD r.ln)),!(.fz (.lst ((eN R t f (x,k)).map az))),!(.fl ((b8 [] ((es.map (·.1)).take i)).map az)),!(.fz (.int ((cb k (es.take i):Nat)+1))),!(.fd (L.map Sum.inr) vs),O,u]/\L.Nodup/\(∀v∈L,v∈ns++nn)/\∀v,v∈L↔v=x∨∃e∈es.take i,v∈e.2.ls)
   {[x],[.bl true],none,none,by rw[g1,aav];rfl,by simp,λv Z=>by rw[List.mem_singleton.mp Z];exact hx,λv=>by simp} ?_ ?_
  .rintro i d ρ Q hd ⟨L,vs,O,u,rfl,p,C,F⟩ kk;rw[List.getElem?_map,aaj] at hd;obtain⟨e,X,rfl⟩:=hd;have hi:=(List.getElem?_eq_some_iff.mp X).1;have hei:(es.map (·.1))[i]?=!e.1:=by rw[List.getElem?_map,X];rfl
   have hmem:e.1∈eN R t f (x,k):=by rw[g1];exact List.mem_of_getElem? hei
   obtain⟨f',rq,st',t1,t2⟩:=T _ hmem;obtain⟨g5,g6⟩:=g2 e (List.mem_of_getElem? X);obtain rfl:rq=e.2:=gz t1 g6;have hel:es.length<=1000:=by rw[g1,abP] at V;exact V
   have hol:=fH (ms:=(es.map (·.1)).take i) (ls:=[]);rw[aao,abP,abA] at hol;have a:=jK (ls:=[]) hei;have M:=jJ (k:=k) X;have htk:es.take (i+1)=es.take i++[e]:=by rw[aap,X];rfl
   have Y:cI ks ds [.inr e.1.1,.inl (e.1.2:Int)]=!(ce e.2.ln ((e.2.far:Int) - (e.1.2:Int)+1) st' (bF e.2.ls)):=t2;have hLl:L.length<=32:=aar (aax p C) U;revert ay{{rfl,gm _,aar (gn _) (by decide)},?_}(al (e.1∉b8 [] ((es.map (·.1)).take i)) (by rw[aaV,abI];exact not_congr vv) (λJ=>?_) (λJ=>?_))
   .rw[if_neg J] at a;revert{rfl,?_}{by rw[abP];nofun,?_}(dF Y ?_)(dF Y ?_);ext
    have hmax:(if (e.1.2:Int)+((e.2.far:Int) - (e.1.2:Int)+1) > ((cb k (es.take i):Nat):Int)+1 then (e.1.2:Int)+((e.2.far:Int) - (e.1.2:Int)+1) else ((cb k (es.take i):Nat):Int)+1)=((cb k (es.take (i+1)):Nat):Int)+1:=by
     rw[M];split <;> nofun
    have hsub:∀v∈e.2.ls,v∈ns++nn:=λv Z=>K.sub v ((g4 v).mpr (.inr {e,List.mem_of_getElem? X,Z}));have hst2:(b8 [] ((es.map (·.1)).take (i+1))).map az=(b8 [] ((es.map (·.1)).take i)).map az++[az e.1]:=by rw[a];exact aae
    refine aW (λj ρ=>∃(H:↥Str) (o:↥D) (I:Option OV),ρ=[!(bE rows),!(.fz (.str t)),!(.ft ks ds),!(.fz (.str x)),!(.fz (.int k)),!(.fz (dD r.ln)),!(.fz (.lst ((eN R t f (x,k)).map az))),!(.fl ((b8 [] ((es.map (·.1)).take (i+1))).map az)),!(.fz (.int ((cb k (es.take (i+1)):Nat)+1))),!(.fd (H.map Sum.inr) o),!(.fz (az e.1)),I]/\H.Nodup/\(∀v∈H,v∈ns++nn)/\∀v,v∈H↔v∈L∨v∈(bF e.2.ls).take j) {L,vs,u,by rw[hst2,← hmax];rfl,p,C,λv=>by simp} ?_ ?_
    .rintro j d ρ Q' hd ⟨H,o,I,rfl,l,g,m⟩ kk';rw[List.getElem?_map,aaj] at hd;obtain⟨y,hy,rfl⟩:=hd;have hyl:y∈e.2.ls:=(aB _).mem_iff.mp (List.mem_of_getElem? hy);have hLl':H.length<=32:=aar (aax l g) U;revert{rfl,?_}{by rw[abP];nofun,?_};refine kk' _ {KS.dedup1 H y,(iA (H.map Sum.inr) o (.inr y) (.bl true)).2,!(.fz (.str y)),by rw[← lx (ds:=o) (d:=.bl true)];rfl,gu l,λv Z=>?_,λv=>?_}
     .rcases fV.mp Z with h|h
      .exact g v h
      .rw[h];exact hsub y hyl
     .rw[fV,m,aap,hy,abQ,or_assoc];simp
    .rintro ρ ⟨H,o,I,rfl,l,g,m⟩;rw[abP,aai (aac _)] at m;refine kk _ {H,o,!(.fz (az e.1)),I,rfl,l,g,λv=>?_};rw[m,F,(aB _).mem_iff,htk,or_assoc];constructor
     .rintro (h|⟨N,c,h⟩|h)
      .exact .inl h
      .exact .inr {N,abQ.mpr (.inl c),h}
      .exact .inr {e,abQ.mpr (.inr (abR.mpr rfl)),h}
     .rintro (h|⟨N,c,h⟩)
      .exact .inl h
      .rcases abQ.mp c with h2|h2
       .exact .inr (.inl {(N),h2,h})
       .rw[abR.mp h2] at h;exact .inr (.inr h)
   .have b:e.1∈(es.map (·.1)).take i:=by
     have:=iV.mp (Classical.not_not.mp J);exact this.elim (λh=>nomatch h) id
    rw[← List.map_take] at b;obtain⟨N,c,hee⟩:=abW.mp b;obtain⟨g7,g8⟩:=g2 N (abm c);have hee':N.1=e.1:=hee;rw[hee'] at g8;have he2:N.2=e.2:=gz g8 g6;rw[if_pos (Classical.not_not.mp J)] at a
    have hf2:cb k (es.take (i+1))=cb k (es.take i):=by
     rw[M];have:=zB (k:=k) (es.take i) c;rw[he2] at this;nofun
    refine kk _ {L,vs,!(.fz (az e.1)),u,by rw[a,hf2];rfl,p,C,λv=>?_};rw[F,htk];constructor
    .rintro (h|⟨W,h1,h2⟩)
     .exact .inl h
     .exact .inr {W,abQ.mpr (.inl h1),h2}
    .rintro (h|⟨W,h1,h2⟩)
     .exact .inl h
     .rcases abQ.mp h1 with h3|h3
      .exact .inr {(W),h3,h2}
      .rw[abR.mp h3,← he2] at h2;exact .inr {(N),c,h2}
  .rintro ρ ⟨L,vs,O,u,rfl,p,C,F⟩;have hLl:L.length<=32:=aar (aax p C) U;rw[abP,aai (aac _)] at F;rw[abP,aai (show es.length<=es.length from aac _),aai (by rw[abP];exact aac _)];revert(iI (zs:=L) () ?_){lez 4,?_};ext;have hs:bF L=bF r.ls:=qL p K.nd λv=>by rw[F,g4,abR]
   rw[hs];rw[g1,g3] at q;have q2:P (.fz (.tup [dD r.ln,.int (((cb k es:Nat):Int) - (k:Int)+1),.lst ((b8 [] (es.map (·.1))).map az),.lst ((bF r.ls).map .str)])) [bE rows,.fz (.str t),.ft ks ds,.fz (.str x),.fz (.int k)]:=q;rw[show ((cb k es:Nat):Int) - (k:Int)+1=((cb k es:Nat):Int)+1 - (k:Int) from ()] at q2;exact q2
 .intro rest;revert(al (x∈rows.map (·.1)) bm (λb=>?_) (λb=>?_))
  .obtain⟨⟨y,w,ps⟩,S,rfl⟩:=abW.mp b;obtain⟨r',hr',e1,hrow⟩:=cD b;obtain rfl:=lT B.ndr S hr' e1;have hget:=gl hrow;have hRx:=vp B.ndr S;rw[hR] at hRx;obtain⟨j,s,_,_,hf⟩:=B.fm _ S;have hN:iO w ps:={ns++nn,B.nm,vq fM hf};ext
   erw [hget]
   revert(Fy hRx hN hk () hr T V ?_){rfl,?_};exact rest _ rfl
  .have hxn:x∉ns:=λh=>b (by rw[B.names,abK];exact h);have A:=B.lack hxn;rw[hR] at A;have eb:bO R t x k={.leaf .lack,x,k,k,0,[],true,none}:=by unfold bO;rw[A];rfl
   obtain⟨f1,f2⟩:=eG (E:=cy R t f (bO R t x k)) (by have:goF R t f (bO R t x k) k [x]=!r:=hr;exact this) (by rw[eb]) rfl;rw[eb] at f1
   have f3:eN R t f (x,k)=[]:=by
    show (cy R t f (bO R t x k)).st=[];rw[f2,eb]
   refine rest _ ?_;rw[f1,f3];rfl
def Fz{ks:↥↥Key}(B:BkW ns nn rows)(hx:x∈ns++nn)(b:k<=t.length)(a:t.length<=30)(hr:rdF (bW (ah rows)) t f x k=!r)(T:qM (bW (ah rows)) t ks ds (eN (bW (ah rows)) t f (x,k)))
  (h:P (.fz (ce r.ln ((r.far:Int) - (k:Int)+1) (b8 [] (eN (bW (ah rows)) t f (x,k))) (bF r.ls))) [bE rows,.fz (.str t),.ft ks ds,.fz (.str x),.fz (.int k)]):bz [bE rows,.fz (.str t),.ft ks ds,.fz (.str x),.fz (.int k)] P:=by
 unfold bz;exact{(ns),nn,rows,t,x,ks,ds,k,f,r,rfl,B,hx,b,a,hr,T,h}
def AQ(B:BkW ns nn rows)(a:t.length<=30)(hx:x∈ns++nn)(b:k<=t.length):∃r,rdF (bW (ah rows)) t 100000 x k=!r:=by
 obtain⟨r,hr⟩:=MA (B.rk a) _ x k (aac _) hx b;have:=kH ns x;have:=B.l30;exact{r,mZ () hr}
theorem AR{R:Rls}{z:Str}{zs:↥Str}(g:gh R zs):∀(f:Nat) (s:As),AsOk R z zs s->∀q∈(cy R z f s).st,q∈s.st∨(q.1∈zs/\q.2<=z.length)
 |0,s,_,q,a=>.inl a
 | f+1,s,O,q,a=>by
  cases hd:s.dn with
  |true=>rw [iQ hd] at a;exact .inl a
  | false=>
   obtain⟨w,p,d,i⟩:=O.tn hd
   cases hr:rdF R z f (ae p s).1 (ae p s).2 with
   | none=>
    unfold cy at a;rw[if_neg (by rw[hd];decide),d] at a;simp only[hr] at a;exact .inl a
   | some r=>
    rw[iR hd d hr] at a;have c:=uy g O d i;have b:(ae p s).2<=z.length:=O.tz;have T:=uw g c b hr;rcases AR g f _ (iP g O hd d λl j=>T.ln l j) q a with h|h
    .obtain⟨_,_,_,_,e,_⟩:=dE w p s r.ln;rw[e] at h;rcases abQ.mp h with h|h
     .exact .inl h
     .rw[abR.mp h];exact .inr {(c),b}
    .exact .inr h
def pq{k:↥Key}{k':↥Key}:∀{ks:↥↥Key} {ds:↥D},ks.length=ds.length->(ko ks ds k d).1.length=(ko ks ds k d).2.length/\(ko ks ds k d).1.length<=ks.length+1/\cI (ko ks ds k d).1 (ko ks ds k d).2 k'=if k=k' then ↑d else cI ks ds k':=by
 intro ks ds f;unfold ko;by_cases h:qq ks k=true
 .rw[if_pos h];refine{by simp[f],aa7 _,?_};unfold qq at h;unfold cI
  induction ks generalizing ds with
  |nil=>cases h
  | cons a ks o=>
   cases ds with
   |nil=>cases f
   | cons b ds=>
    simp only[List.zip_cons_cons,List.map_cons,List.find?_cons];by_cases l:a=k'
    .rw[decide_eq_true l];by_cases c:k=k'
     .rw[if_pos c,if_pos (l.trans c.symm)];rfl
     .rw[if_neg c,if_neg λy=>c (y.symm.trans l)]
    .rw[decide_eq_false l];by_cases j:a=k
     .have c:k≠k':=λy=>l (j.trans y);rw[if_neg c];by_cases h2:(ks.any λx=>decide (x=k))=true
      .have:=o (Nat.succ.inj f) h2;rw[if_neg c] at this;exact this
      .have e:((ks.zip ds).map λg=>if g.1=k then d else g.2)=ds:=by
        have m:ks.length=ds.length:=Nat.succ.inj f;refine List.ext_getElem (by simp[m]) λi h1 p=>?_;have hi:i<ks.length:=()
        rw[abL,List.getElem_zip];have:ks[i]≠k:=λy=>h2 (List.any_eq_true.mpr {ks[i],aaJ _,decide_eq_true y});rw[if_neg this]
       rw[e]
     .have h2:(ks.any λx=>decide (x=k))=true:=by
       rw[abB,decide_eq_false j,Bool.false_or] at h;exact h
      exact o (Nat.succ.inj f) h2
 .rw[if_neg h];refine{by simp[f],by simp,?_};unfold cI;rw[List.zip_append f,List.find?_append];by_cases c:k=k'
  .rw[if_pos c];subst c;have:((ks.zip ds).find? λg=>decide (g.1=k))=none:=List.find?_eq_none.mpr λg n y=>h (List.any_eq_true.mpr {g.1,(List.of_mem_zip n).1,y});rw[this];simp
  .rw[if_neg c];simp[c]
@[irreducible] def qO:Ct:=λos P=>∃ns:↥Int,os=[.fz (.lst (ns.map .int))]/\ns.length<=63/\P (.fz (.bl true)) os
abbrev Kb:Stmt:=top 66
abbrev MB:FS:=
  (am (Jj 1 2 3 (ar dc (aa (fFz (fSl aSl (ab 0) (ir (fC (.int 1))) cH)) (aa (fC (.int 6)) af))))
  (am (b9 4 (ar cA (aa (fFz (ar bg (aa (fFz (ab 0)) (aa (fC (.int 0)) af)))) (aa (fC (.int 100)) af))))
  (am (bX (ar da (aa (ab 4) (aa (ab 3) (aa (fC (.int 12)) af)))) (ac 5))
  (am (bX (ar bV (aa (ab 3) af)) (ac 6))
  (am (b9 7 (gv (aa (fX (aa (fOp aIx (ab 1) (fC (.int 0))) (aa (fC (.int 0)) af))) af)))
  (am (bX (fOp eM (ab 1) (ab 2)) (ac 8))
  (am (jz (dL (aa (fC (.int 2)) af)) (ac 9)
   (bA (qm 7 (fX (aa (fOp aIx (ab 8) (ar ak (aa (ab 4) (aa (fFz (fCB eR (aa (ab 8) af))) af)))) (aa (ar ak (aa (ab 4) (aa (fFz (fOp eM (fCB eR (aa (ab 5) af)) (fC (.int 1)))) af))) af))))))
  (am (jz (bQ (ab 7)) (jY 2 (b5 (ac 10) (b5 (ac 11) jX)))
   (am (bX (ar c9 (aa (fFz (ab 6)) (aa (fFz (ab 10)) (aa (fFz (ab 5)) (aa (fFz (ab 11)) af))))) (ac 12))
  (am (fIf (fOr (kL (dU (fCB cIs (aa (ab 12) (aa (fC (.ty "tuple")) af))))) (fOr (au (fOp aNe (fCB eR (aa (ab 12) af)) (fC (.int 4)))) (kL (dU (fCB cIs (aa (fOp aIx (ab 12) (fC (.int 2))) (aa (fC (.ty "list")) af)))))))
   (bi (fC (.bl false)))
   aH)
  (am (b9 13 oC)
  (am (jz (dL (aa (fOp eM (fCB eR (aa (ab 5) af)) (fC (.int 1))) af)) (ac 14)
   (jz (bQ (ab 8)) (ac 15)
   (lE 13 (fX (aa (fC .non) (aa (fC (.int 1)) (aa (gv af) (aa (gv af) af))))) (fX (aa (ab 15) (aa (ab 14) af))))))
  (am (jz (bQ (fOp aIx (ab 12) (fC (.int 2)))) (jY 2 (b5 (ac 15) (b5 (ac 14) jX)))
   (lE 13 (ar c9 (aa (fFz (ab 6)) (aa (fFz (ab 15)) (aa (fFz (ab 5)) (aa (fFz (ab 14)) af))))) (fX (aa (ab 15) (aa (ab 14) af)))))
  (fIf (kL (dU (ar db (aa (fFz (ab 12)) (aa (fFz (ar bz (aa (ab 3) (aa (fFz (ab 5)) (aa (ab 13) (aa (fFz (ab 10)) (aa (fFz (ab 11)) af))))))) af)))))
   (bi (fC (.bl false)))
   aH)))))))
  (bi (fOp aEq (ab 6) (ar bV (aa (ab 3) af))))))))))))
def MC:Hh qO MB [] 16:=by
 intro os P h;unfold qO at h;obtain⟨W,rfl,hcl,q⟩:=h;have sz:=sizeLine_eq
 have ecut:fR (W.map D.int) ↑1 none=(W.drop 1).map .int:=by
  rw[show (↑1:Option Int)=↑((1:Nat):Int) from rfl,cG,List.map_drop]
 ext;rw[ecut];refine .mk (M:=6) (by rw[aaN];nofun) (by decide) (by decide) λns nn rows a b c B hns=>?_;revert(vd (k:=0) λz=>?_)(.mk (k:=100) (by decide) λb0 b1 b2 _ C=>?_)(.mk (M:=12) 0 C (by decide) (by decide) (λr hr S=>?_) (by rw[B.few];exact B.l30) λt b0 b1 b2 htl htx C=>?_)
 .obtain⟨j,s,_,_,hf⟩:=B.fm r hr;rcases hf with ⟨h|h,_⟩|⟨_,h⟩|⟨h|h|h,_⟩|⟨h,_⟩|⟨h,_⟩
  .exact absurd (S.symm.trans h) ∅
  .exact absurd (S.symm.trans h) ∅
  .exact h
  .exact absurd (S.symm.trans h) ∅
  .exact absurd (S.symm.trans h) ∅
  .exact absurd (S.symm.trans h) ∅
  .exact absurd (S.symm.trans h) ∅
  .exact absurd (S.symm.trans h) ∅
 have hl2:=B.l2;have hl30:=B.l30;have hnl:=B.nl;have hpl:(ns++nn).length<=32:=by rw[aag];nofun
 have H:=B.rk (t:=t) ();revert(.mk B.ndr (by rw[B.few];exact B.l30) ?_)(cJ (by decide) (by rw[abP];nofun) λe he=>?_);obtain⟨n0,hn0,rfl⟩:=abW.mp he;revert{lez 2,?_}{lez 1,?_}{by rw[abP,abP];nofun,?_};rw[← aae];revert{{by decide,by decide},?_}(aW (λi ρ=>∃(KS:↥Sp2) (I:Option OV) (b0 b1 b2:Int),KS.length=i+1/\(∀p∈KS,p.1∈ns++nn/\p.2<=t.length)/\WellB b1 b2 (100+2*i)/\ρ=[!(.fz (.lst (W.map .int))),!(.fl (ns.map .str)),!(.fl (nn.map .str)),!(bE rows),!(bo b0 b1 b2),!(.fz (.str t)),!(.fz (fI (ah rows))),!(.fl (KS.map az)),!(.fz (.lst ((ns++nn).map .str))),I,none,none,none,none,none,none]) {[(n0,0)],none,b0,b1,b2,rfl,λp o=>by rw[abR.mp o];exact{abQ.mpr (.inl hn0),aan _},C.mono (),rfl} ?_ ?_)
 .rintro i d ρ Q hd ⟨KS,I,b0,b1,b2,hKl,V,C,rfl⟩ F;obtain⟨hi,rfl⟩:=bh hd;have hi2:i<2:=hi;revert{rfl,?_}(bc _ C () (by rw[abP,aag];nofun) (by rw[abP];nofun) λr1 b0 b1 b2 r10 r11 C=>?_)(cJ r10 r11 λe he=>?_);obtain⟨y,w,rfl⟩:=abW.mp he;revert{(),?_}(bc _ C () () () λr2 b0 b1 b2 r20 r21 C=>?_);obtain⟨k2,rfl⟩:=abC r20;revert{lez 2,?_}{by rw[abP];nofun,F _ {KS++[(y,k2)],!(.fz (.int (0+(i:Int)))),b0,b1,b2,by rw[aag,hKl];rfl,λp o=>?_,C.mono (),?_}}
  .rcases abQ.mp o with h|h
   .exact V p h
   .rw[abR.mp h];exact{w,by show k2<=t.length;nofun}
  .rw[show (KS++[(y,k2)]).map az=KS.map az++[az (y,k2)] from aae];rfl
 .rintro ρ ⟨KS,I,b0,b1,b2,hKl,V,C,rfl⟩;revert(aW (λi ρ=>∃N L K J l g:Option OV,ρ=[!(.fz (.lst (W.map .int))),!(.fl (ns.map .str)),!(.fl (nn.map .str)),!(bE rows),!(bo b0 b1 b2),!(.fz (.str t)),!(.fz (fI (ah rows))),!(.fz (.lst (KS.map az))),!(.fz (.lst ((ns++nn).map .str))),I,N,L,K,J,l,g]) {(none),none,none,none,none,none,rfl} ?_ ?_)
  .rintro i d ρ Q hd ⟨N,L,K,J,l,g,rfl⟩ F;rw[List.getElem?_map,aaj] at hd;obtain⟨⟨x,k⟩,hxk,rfl⟩:=hd;obtain⟨R,U⟩:=V _ (List.mem_of_getElem? hxk);have R:x∈ns++nn:=R;have U:k<=t.length:=U;obtain⟨r,hr⟩:=AQ B () R U;have A:∀{y:Str} {j:Nat},y∈ns++nn->j<=t.length->AskR (ah rows) y t j:=λw hj=>{B.bk,B.nm _ w,htx,(),hj};revert{rfl,?_}(.mk (A R U) () () hr λa1 a2=>?_)
   have hin:∀q∈eN (bW (ah rows)) t 100000 (x,k),q.1∈ns++nn/\q.2<=t.length:=λq hq=>by
    rcases AR H.rls 100000 _ (fG (z:=t) H.rls R U) q hq with h|h
    .rw[ca.2.2] at h;cases h
    .exact h
   have u:∀q,q∈b8 [] (eN (bW (ah rows)) t 100000 (x,k))↔q∈eN (bW (ah rows)) t 100000 (x,k):=λq=>by rw[iV];exact{λh=>h.elim (λz=>nomatch z) id,.inr}
   have v:=oN (f:=100000) H.rls (fG (z:=t) H.rls R U)
   have hle:(b8 [] (eN (bW (ah rows)) t 100000 (x,k))).length<=1000:=by
    have h5:=v.st;have h6:=v.t8;have h7:=v.tz;have:(if (cy (bW (ah rows)) t 100000 (bO (bW (ah rows)) t x k)).dn=true then 1 else 0)<=1:=by split <;> nofun
    have h8:=fH (ms:=eN (bW (ah rows)) t 100000 (x,k)) (ls:=[]);have h9:(eN (bW (ah rows)) t 100000 (x,k)).length=(cy (bW (ah rows)) t 100000 (bO (bW (ah rows)) t x k)).st.length:=rfl;rw[abA] at h8;nofun
   generalize hON:b8 [] (eN (bW (ah rows)) t 100000 (x,k))=ON at u hle;revert ay{{(rfl),rfl},?_} cP{aS,?_} cP{{(rfl),rfl},?_} cP{(),?_}{{(),()},?_}(aW (λi ρ=>∃(ks:↥↥Key) (ds:↥D) (l g:Option OV),ks.length=ds.length/\ks.length<=32*i/\i<=13/\ρ=[!(.fz (.lst (W.map .int))),!(.fl (ns.map .str)),!(.fl (nn.map .str)),!(bE rows),!(bo b0 b1 b2),!(.fz (.str t)),!(.fz (fI (ah rows))),!(.fz (.lst (KS.map az))),!(.fz (.lst ((ns++nn).map .str))),I,!(.fz (.str x)),!(.fz (.int k)),!(.fz (ce r.ln ((r.far:Int) - (k:Int)+1) ON (bF r.ls))),!(.ft ks ds),l,g]) {[],[],l,g,rfl,aac _,(),by rw[← hON];rfl} ?_ ?_)
   .rintro i d ρ Q hd ⟨ks,ds,l,g,m,n,hi13,rfl⟩ F;obtain⟨hi,rfl⟩:=bh hd;revert(aW (λj ρ=>∃(ks:↥↥Key) (ds:↥D) (g:Option OV),ks.length=ds.length/\ks.length<=32*i+j/\ρ=[!(.fz (.lst (W.map .int))),!(.fl (ns.map .str)),!(.fl (nn.map .str)),!(bE rows),!(bo b0 b1 b2),!(.fz (.str t)),!(.fz (fI (ah rows))),!(.fz (.lst (KS.map az))),!(.fz (.lst ((ns++nn).map .str))),I,!(.fz (.str x)),!(.fz (.int k)),!(.fz (ce r.ln ((r.far:Int) - (k:Int)+1) ON (bF r.ls))),!(.ft ks ds),!(.fz (.int (0+(i:Int)))),g]) {(ks),ds,g,m,n,rfl} ?_ ?_)
    .rintro j d ρ Q hd ⟨ks,ds,g,m,n,rfl⟩ F;rw[List.getElem?_map,aaj] at hd;obtain⟨y,w,rfl⟩:=hd;have hj:=(List.getElem?_eq_some_iff.mp w).1;have X:=pq (k:=[.inr y,.inl (0+(i:Int))]) (d:=.tup [.non,.int 1,.lst [],.lst []]) (k':=[]) m;revert{aan _,?_}{aan _,?_}{lez 4,?_}{rfl,?_}{lez 2,?_}{(),?_};exact F _ {(ko ks ds [.inr y,.inl (0+(i:Int))] (.tup [.non,.int 1,.lst [],.lst []])).1,(ko ks ds [.inr y,.inl (0+(i:Int))] (.tup [.non,.int 1,.lst [],.lst []])).2,!(.fz (.str y)),X.1,by have:=X.2.1;nofun,rfl}
    .rintro ρ ⟨ks,ds,g,m,n,rfl⟩;rw[abP] at n;exact F _ {ks,ds,!(.fz (.int (0+(i:Int)))),g,m,(),(),rfl}
   .rintro ρ ⟨ks,ds,l,g,m,n,hi13,rfl⟩;revert(aW (λj ρ=>∃(ks:↥↥Key) (ds:↥D) (l g:Option OV),ks.length=ds.length/\ks.length<=500+j/\(∀p∈ON.take j,∃(f:Nat) (E:Res) (st:↥Sp2),rdF (bW (ah rows)) t f p.1 p.2=!E/\cI ks ds (gQ p)=!(ce E.ln ((E.far:Int) - (p.2:Int)+1) st (bF E.ls)))/\ρ=[!(.fz (.lst (W.map .int))),!(.fl (ns.map .str)),!(.fl (nn.map .str)),!(bE rows),!(bo b0 b1 b2),!(.fz (.str t)),!(.fz (fI (ah rows))),!(.fz (.lst (KS.map az))),!(.fz (.lst ((ns++nn).map .str))),I,!(.fz (.str x)),!(.fz (.int k)),!(.fz (ce r.ln ((r.far:Int) - (k:Int)+1) ON (bF r.ls))),!(.ft ks ds),l,g]) {ks,ds,l,g,m,(),(λp o=>nomatch o),rfl} ?_ ?_)
    .rintro j d ρ Q hd ⟨ks,ds,l,g,m,n,hT,rfl⟩ F;rw[List.getElem?_map,aaj] at hd;obtain⟨⟨y,O⟩,o,rfl⟩:=hd;have hj:=(List.getElem?_eq_some_iff.mp o).1;obtain⟨w,G⟩:=hin _ ((u _).mp (List.mem_of_getElem? o));have w:y∈ns++nn:=w;have G:O<=t.length:=G;obtain⟨E,Y⟩:=AQ B () w G;revert{rfl,?_}(.mk (A w G) () () Y λa3 a4=>?_){rfl,?_}{lez 2,?_}{(),?_};have X:=λk'=>pq (k:=gQ (y,O)) (d:=ce E.ln ((E.far:Int) - (O:Int)+1) (b8 [] (eN (bW (ah rows)) t 100000 (y,O))) (bF E.ls)) (k':=k') m;refine F _ {_,_,!(.fz (.int O)),!(.fz (.str y)),(X []).1,by have:=(X []).2.1;nofun,λp Z=>?_,rfl};rw[(X (gQ p)).2.2];by_cases e:gQ (y,O)=gQ p
     .rw[if_pos e];have e':=gR e;subst e';exact{_,E,_,Y,rfl}
     .rw[if_neg e];rw[aap,o] at Z;rcases abQ.mp Z with h|h
      .exact hT p h
      .have:p=(y,O):=(by exists h);exact absurd (by rw[this]) e
    .rintro ρ ⟨ks,ds,l,g,m,n,hT,rfl⟩;rw[abP,aai (aac _)] at hT;have T:qM (bW (ah rows)) t ks ds (eN (bW (ah rows)) t 100000 (x,k)):=λp o=>hT p ((u p).mpr o);revert ay(Fz B R U () hr T ?_);rw[hON];revert(.mk hle ?_) cP;exact F _ {_,_,_,_,_,_,rfl}
  .rintro ρ ⟨N,L,K,J,l,g,rfl⟩;revert(.mk B.ndr (by rw[B.few];exact B.l30) ?_){vy,?_};ext;rw[dG];exact q
end KR
open PySem L2
local macro_rules|`(tactic|fail $s:str)=>let a:=(s.getString.splitOn " ").toArray.map fun x=>Lean.mkIdent x.toName;`(tactic|(with_reducible first $[|apply $a:ident]*))
local macro_rules|`(tactic|walk_at "f1") => `(tactic|(repeat' (first
  |(with_reducible exact M3 (by decide))|fail "HN HP LP sP HX Ig Ii"|(with_reducible exact gf_n (by decide))|fail "sO IF II IG DK DF yp yo DJ IH qD tq DG xz DH DI DU xN LS xS LV"|(with_reducible exact Ma (by decide))|fail "LN HQ LO Dd HR De LQ xm HY HZ LU IJ L0 IM IN xH DN Ji xD DX IK IL IP j8 L8 Di Dj LW Ih Dq Do En Dr Ds Ij xv xu Dp xw Du xR tf_B HS HU LR HV HW"|(with_reducible exact gf_c (by decide) (by decide))|fail "Ib Dk xn xq yB yz ub Dm Dn xr xt Mb Mc Md DQ DP mP xL Dh"|(show ClsF _ _ _;assumption)|fail "EB yh Et yi yj Ei Ee xU Ef Ek yk t0 yl x2 Ep Es yd ye yf EA yg L9 EH yw EM"|(with_reducible exact Me rfl)|exact rfl
  |(with_reducible exact xJ (by decide))|(with_reducible exact L3 (by decide))|(show Program;exact Zz.P (by assumption))|(show World;exact Zz.w (by assumption))|decide)))
local macro_rules|`(tactic|walk_at "f2") => `(tactic|(repeat' (first
  |fail "Aa Ab zZ wZ CI CH wa_c Hl Iq"|exact rfl|exact Or.inl rfl|exact Or.inr rfl|exact Or.inr (Or.inl rfl)|assumption
  |fail "LF Hg Hm"|((with_reducible apply Mh);exact rfl)|fail "D5 Hw Hx LK Hv CJ Hy xa CK w9 mJ CZ xQ"|exact Room.units (by assumption)|exact Lw (by assumption)|exact Room.gd (by assumption)|exact Room.mono (by assumption) (by decide)|exact fun _=>rfl|exact fun _ _=>rfl|exact nomarkB (by decide) (by decide)
  |fail "Hi xT LC Hb Hf LG He Hd LH wO wX Hj Hk wV tJ Cv Cw Cq Hz HA xy CL yn ym Dy Dz DA DB Dx qC qo CM xb CN CO CP xc HC Iz HF HG xG CY Jh xk xP HD HE IC HI"|exact Or.inl ⟨_,rfl⟩|exact Or.inr ⟨_,rfl⟩
  |fail "Hn CA Ho Hq LI CB CC CD Hr CF wY Hs"|exact PassesOwn.never
  |fail "sq sr ud CG Ht Hu DZ Cy Cz D4 Mg"|exact CompScope.of rfl rfl rfl|(intro C s H fp)|exact Mf rfl
  |fail "Cp wU PySem.F.plainAttrs_list PySem.F.plainAttrs_str PySem.F.slot_list_append PySem.F.type_list_append su PySem.F.slot_str_join PySem.F.type_str_join CQ PySem.F.slot_list_extend PySem.F.type_list_extend PySem.F.slot_list_reverse PySem.F.type_list_reverse PySem.F.slot_list_index PySem.F.type_list_index PySem.F.slot_list_remove PySem.F.type_list_remove PySem.F.slot_str_split PySem.F.type_str_split PySem.F.slot_str_partition PySem.F.type_str_partition PySem.F.slot_str_find PySem.F.type_str_find PySem.F.slot_str_upper PySem.F.type_str_upper IZ I0 I8 I9 Eu Mi Ja"|exact ClsF.cl (by assumption)|exact ⟨_,rfl⟩|fail "ya Ew so yc D3 yv aby PySem.F.slot_dict_update PySem.F.type_dict_update t6 PySem.F.slot_list_pop PySem.F.type_list_pop Jb PySem.F.slot_list_clear PySem.F.type_list_clear LD Ac Hc DE DR Ac wt_w so"|apply wW|apply Cs|exact Ab|exact Aa|exact ⟨rfl,rfl,rfl,rfl⟩|decide|decide +kernel)))
local macro_rules|`(tactic|walk_at "bd") => `(tactic|(intro cdv A outer s H E T nd hr;cases T;apply Exists.intro;apply And.intro;(focus walk_at "f1");(focus ((conv => (arg 2;whnf));walk_at "f2"))))
local macro_rules|`(tactic|walk_at "bn") => `(tactic|(intro _ _ _ _ _ _;first|exact us_1 λ_ => rfl|exact us_2 λ_ _ => rfl|exact us_3 λ_ _ _ => rfl|exact us_4 λ_ _ _ _ => rfl|exact us_5 λ_ _ _ _ _ => rfl|exact us_6 λ_ _ _ _ _ _ => rfl|exact us_0 rfl))
local macro_rules|`(tactic|walk_at "o") => `(tactic|((focus walk_at "bn");(focus exact⟨rfl,rfl,rfl,by decide +kernel,rfl,by decide +kernel,by decide +kernel⟩);walk_at "bd"))
local macro_rules|`(tactic|walk_at "ol") => `(tactic|((focus exact⟨rfl,rfl,rfl,by decide +kernel,rfl,by decide +kernel,by decide +kernel⟩);walk_at "bd"))
local macro_rules|`(tactic|walk_at "l") => `(tactic|(repeat (obtain⟨x,h⟩ := h)))
namespace KR
section
variable {Z:Zz} {f C:Addr} {fd:FuncData} (t:TopZ Z (Txt Z.K Z.mg)) (hC:ClsF Z.K 0 C)
include t hC
abbrev vz(Z:Zz)(C:Addr):Prop:=Je Z C "Asking" 1 ["self", "form", "name", "place"] aO
abbrev jN(Z:Zz)(C:Addr):Prop:=mS Z C "end" 1 ["self", "length"] aE
abbrev fN(Z:Zz)(C:Addr):Prop:=mS Z C "wanted" 1 ["self"] aY
abbrev AS(Z:Zz)(C:Addr):Prop:=mS Z C "take_in_row" 2 ["self", "length"] aV
abbrev pr(Z:Zz)(C:Addr):Prop:=mS Z C "take_in_first" 2 ["self", "length"] aM
abbrev pv(Z:Zz)(C:Addr):Prop:=mS Z C "take_in_again" 2 ["self", "length"] aN
abbrev nq(Z:Zz)(C:Addr):Prop:=mS Z C "take" 3 ["self", "length"] bC
def FB(D:DfM Z.K C "__init__" "Asking.__init__" uk f fd)(a:PySem.W.nsIn Z.K mainGlobals "Asking" = !!(.ref C))(mk:PySem.W.makesIn Z.K C=true)(b:PySem.W.keepIn Z.K (.ref C)=true):vz Z C:=by
 refine EC t D a mk b (kj ["self", "form", "name", "place"] t D.fn (by delta aO) EQ ?_ ?_) ?_
 rotate_right
 (focus walk_at "bn")
 walk_at "ol"
def Kc(D:DfM Z.K C "end" "Asking.end" Ao f fd):jN Z C:=by
 refine gf D (kj ["self", "length"] t D.fn (by delta aE) Jl ?_ ?_) ?_
 rotate_right
 (focus walk_at "bn")
 walk_at "ol"
def vA(D:DfM Z.K C "wanted" "Asking.wanted" lK f fd):fN Z C:=by
 refine gf D (kj ["self"] t D.fn (by delta aY) uv ?_ ?_) ?_
 rotate_right
 (focus walk_at "bn")
 walk_at "ol"
def Kd(D:DfM Z.K C "take_in_row" "Asking.take_in_row" Aq f fd)(_:jN Z C):AS Z C:=by
 refine gf D (kj ["self", "length"] t D.fn (by delta aV) Jn ?_ ?_) ?_
 rotate_right
 (focus walk_at "bn")
 walk_at "ol"
def zE(D:DfM Z.K C "take_in_first" "Asking.take_in_first" oJ f fd)(_:jN Z C):pr Z C:=by
 refine gf D (kj ["self", "length"] t D.fn (by delta aM) yL ?_ ?_) ?_
 rotate_right
 (focus walk_at "bn")
 walk_at "ol"
def zF(D:DfM Z.K C "take_in_again" "Asking.take_in_again" oK f fd)(_:jN Z C):pv Z C:=by
 refine gf D (kj ["self", "length"] t D.fn (by delta aN) yM ?_ ?_) ?_
 rotate_right
 (focus walk_at "bn")
 walk_at "ol"
def FC(D:DfM Z.K C "take" "Asking.take" uu f fd)(_:fN Z C)(_:jN Z C)(_:AS Z C)(_:pr Z C)(_:pv Z C):nq Z C:=by
 refine gf D (kj ["self", "length", "word"] t D.fn (by delta bC) EZ ?_ ?_) ?_
 rotate_right
 (focus walk_at "bn")
 walk_at "ol"
abbrev pw(Z:Zz):Prop:=cS Z "length_alone" 1 ["form", "text", "place"] bI
def zG(D:Df Z.K "length_alone" oH f fd):pw Z:=by
 refine aA ["form", "text", "place"] t D (by delta bI) yH ?_ ?_ ?_;walk_at "o"
abbrev kJ(Z:Zz):Prop:=cS Z "parts_of" 1 ["form"] bB
def FD(D:Df Z.K "parts_of" uo f fd):kJ Z:=by
 refine aA ["form"] t D (by delta bB) EU ?_ ?_ ?_;walk_at "o"
abbrev nu(Z:Zz):Prop:=cS Z "begun" 3 ["rules", "text", "name", "place"] dC
def FF(D:Df Z.K "begun" ur f fd)(_:vz Z C)(_:jN Z C)(_:kJ Z)(_:pw Z):nu Z:=by
 refine aA ["rules", "text", "name", "place", "form", "asking"] t D (by delta dC) EW ?_ ?_ ?_;walk_at "o"
abbrev vB(Z:Zz):Prop:=cS Z "found" 1 ["asking", "kept"] e8
def FH(D:Df Z.K "found" uB f fd):vB Z:=by
 refine aA ["asking", "kept", "farthest", "leans", "step", "length", "reach", "leaned"] t D (by delta e8) E4 ?_ ?_ ?_;walk_at "o"
abbrev AT(Z:Zz):Prop:=cS Z "make" 4 ["rules", "text", "kept", "name", "place"] iT
def Ke(D:Df Z.K "make" Av f fd)(_:fN Z C)(_:nq Z C)(_:nu Z)(_:vB Z):AT Z:=by
 refine aA ["rules", "text", "kept", "name", "place", "new", "under_way", "asking", "wanted"] t D (by delta iT) Jr ?_ ?_ ?_;walk_at "o"
abbrev gU(Z:Zz):Prop:=cS Z "is_name" 1 ["thing"] cr
def zH(D:Df Z.K "is_name" oP f fd):gU Z:=by
 refine aA ["thing"] t D (by delta cr) yT ?_ ?_ ?_;walk_at "o"
abbrev px(Z:Zz):Prop:=cS Z "is_sign" 1 ["sign"] eB
def zI(D:Df Z.K "is_sign" oQ f fd):px Z:=by
 refine aA ["sign"] t D (by delta eB) yV ?_ ?_ ?_;walk_at "o"
abbrev kK(Z:Zz):Prop:=cS Z "is_text" 2 ["thing"] c7
def zJ(D:Df Z.K "is_text" oR f fd)(_:px Z):kK Z:=by
 refine aA ["thing"] t D (by delta c7) yZ ?_ ?_ ?_;walk_at "o"
abbrev pz(Z:Zz):Prop:=cS Z "are_rising_signs" 3 ["thing"] bf
def zK(D:Df Z.K "are_rising_signs" oS f fd)(_:kK Z):pz Z:=by
 refine aA ["thing"] t D (by delta bf) y4 ?_ ?_ ?_;walk_at "o"
abbrev pA(Z:Zz):Prop:=cS Z "is_form" 4 ["thing"] eC
def zL(D:Df Z.K "is_form" oT f fd)(_:pz Z)(_:gU Z):pA Z:=by
 refine aA ["thing", "word"] t D (by delta eC) y8 ?_ ?_ ?_;walk_at "o"
abbrev pB(Z:Zz):Prop:=cS Z "is_rule" 5 ["thing"] eD
def zM(D:Df Z.K "is_rule" oU f fd)(_:gU Z)(_:pA Z):pB Z:=by
 refine aA ["thing"] t D (by delta eD) za ?_ ?_ ?_;walk_at "o"
abbrev vC(Z:Zz):Prop:=cS Z "names_rise" 1 ["rows"] cu
def FJ(D:Df Z.K "names_rise" uP f fd):vC Z:=by
 refine aA ["rows"] t D (by delta cu) E9 ?_ ?_ ?_;walk_at "o"
abbrev pD(Z:Zz):Prop:=cS Z "is_book" 6 ["thing"] eF
def zN(D:Df Z.K "is_book" oV f fd)(_:pB Z)(_:vC Z):pD Z:=by
 refine aA ["thing"] t D (by delta eF) zc ?_ ?_ ?_;walk_at "o"
abbrev Kf(Z:Zz):Prop:=cS Z "may_be_empty" 2 ["form", "empty"] bK
def MD(D:Df Z.K "may_be_empty" Jx f fd)(_:kJ Z):Kf Z:=by
 refine aA ["form", "empty"] t D (by delta bK) Mt ?_ ?_ ?_;walk_at "o"
abbrev pE(Z:Zz):Prop:=cS Z "empty_names" 3 ["book"] bj
def zO(D:Df Z.K "empty_names" oX f fd)(_:Kf Z):pE Z:=by
 refine aA ["book", "empty", "grows", "name", "form"] t D (by delta bj) ze ?_ ?_ ?_;walk_at "o"
abbrev AU(Z:Zz):Prop:=cS Z "begins_of_row" 1 ["parts", "empty"] bw
def Kg(D:Df Z.K "begins_of_row" Ay f fd):AU Z:=by
 refine aA ["parts", "empty", "begun", "part"] t D (by delta bw) Jz ?_ ?_ ?_;walk_at "o"
abbrev vD(Z:Zz):Prop:=cS Z "begins_of_form" 2 ["form", "empty"] bn
def FK(D:Df Z.K "begins_of_form" uT f fd)(_:kJ Z)(_:AU Z):vD Z:=by
 refine aA ["form", "empty"] t D (by delta bn) Fd ?_ ?_ ?_;walk_at "o"
abbrev vE(Z:Zz):Prop:=cS Z "steps_of" 4 ["book"] c8
def FL(D:Df Z.K "steps_of" uU f fd)(_:pE Z)(_:vD Z):vE Z:=by
 refine aA ["book", "empty", "steps", "name", "form"] t D (by delta c8) Fg ?_ ?_ ?_;walk_at "o"
abbrev pF(Z:Zz):Prop:=cS Z "steps_within" 1 ["steps", "name", "left"] aX
def zP(D:Df Z.K "steps_within" o6 f fd):pF Z:=by
 refine aA ["steps", "name", "left"] t D zj zk ?_ ?_ ?_;walk_at "o"
abbrev l9(Z:Zz):Prop:=cS Z "endless_rules" 5 ["steps"] aZ
def vF(D:Df Z.K "endless_rules" lV f fd)(_:pF Z):l9 Z:=by
 refine aA ["steps", "left", "shrinks", "ended", "name"] t D (by delta aZ) uX ?_ ?_ ?_;walk_at "o"
abbrev AV(Z:Zz):Prop:=cS Z "loop" 6 ["book"] lR
def Kh(D:Df Z.K "loop" AA f fd)(_:vE Z)(_:l9 Z):AV Z:=by
 refine aA ["book", "steps", "left", "walked", "name"] t D (by delta lR) JC ?_ ?_ ?_;walk_at "o"
abbrev AW(Z:Zz):Prop:=cS Z "asked_anew" 4 ["rules", "text", "kept", "name", "place"] bv
def Ki(D:Df Z.K "asked_anew" Aw f fd)(_:fN Z C)(_:nq Z C)(_:nu Z):AW Z:=by
 refine aA ["rules", "text", "kept", "name", "place", "asking"] t D (by delta bv) Jt ?_ ?_ ?_;walk_at "o"
abbrev ma(Z:Zz):Prop:=cS Z "asked_of" 5 ["rules", "text", "kept", "name", "place"] cg
def vG(D:Df Z.K "asked_of" lN f fd)(_:AW Z):ma Z:=by
 refine aA ["rules", "text", "kept", "name", "place", "asked", "step"] t D (by delta cg) uG ?_ ?_ ?_;walk_at "o"
abbrev md(Z:Zz):Prop:=cS Z "is_whole" 1 ["thing"] c5
def vH(D:Df Z.K "is_whole" lO f fd):md Z:=by
 refine aA ["thing"] t D (by delta c5) uI ?_ ?_ ?_;walk_at "o"
abbrev mf(Z:Zz):Prop:=cS Z "is_place" 2 ["text", "thing"] c6
def vI(D:Df Z.K "is_place" lP f fd)(_:md Z):mf Z:=by
 refine aA ["text", "thing"] t D (by delta c6) uK ?_ ?_ ?_;walk_at "o"
abbrev Kj(Z:Zz):Prop:=cS Z "refuse_wrong_book" 7 ["book"] a7
def ME(D:Df Z.K "refuse_wrong_book" JD f fd)(_:pD Z)(_:AV Z):Kj Z:=by
 refine aA ["book"] t D (by delta a7) Mv ?_ ?_ ?_;walk_at "o"
abbrev M9(Z:Zz):Prop:=cS Z "refuse_wrong" 8 ["book", "name", "text", "place"] bL
def o_rw(D:Df Z.K "refuse_wrong" M8 f fd)(_:Kj Z)(_:gU Z)(_:kK Z)(_:mf Z):M9 Z:=by
 refine aA ["book", "name", "text", "place"] t D (by delta bL) h_rw ?_ ?_ ?_;walk_at "o"
abbrev vJ(Z:Zz):Prop:=cS Z "made_alone" 9 ["book", "name", "text", "place"] cv
def FM(D:Df Z.K "made_alone" va f fd)(_:M9 Z)(_:AT Z):vJ Z:=by
 refine aA ["book", "name", "text", "place", "kept"] t D (by delta cv) Fj ?_ ?_ ?_;walk_at "o"
abbrev mh(Z:Zz):Prop:=cS Z "reading" 10 ["book", "name", "text", "place"] c9
def vK(D:Df Z.K "reading" lX f fd)(_:vJ Z)(_:ma Z):mh Z:=by
 refine aA ["book", "name", "text", "place", "kept", "length", "reach", "leans"] t D (by delta c9) vc ?_ ?_ ?_;walk_at "o"
abbrev vL(Z:Zz):Prop:=cS Z "_law_cell_at" 1 ["script", "k"] bg
def Kk(D:Df Z.K "_law_cell_at" AB f fd):vL Z:=by
 refine aA ["script", "k"] t D (by delta bg) JH ?_ ?_ ?_;walk_at "o"
abbrev vM(Z:Zz):Prop:=cS Z "_law_stir" 1 ["seed", "turn"] cz
def Kl(D:Df Z.K "_law_stir" AC f fd):vM Z:=by
 refine aA ["seed", "turn", "number"] t D (by delta cz) JJ ?_ ?_ ?_;walk_at "o"
abbrev vN(Z:Zz):Prop:=cS Z "_law_well" 2 ["cell", "k"] cA
def Km(D:Df Z.K "_law_well" AD f fd)(_:vM Z):vN Z:=by
 refine aA ["cell", "k", "seed"] t D (by delta cA) JL ?_ ?_ ?_;walk_at "o"
abbrev i7(Z:Zz):Prop:=cS Z "_law_draw" 2 ["well", "many"] ak
def Kn(D:Df Z.K "_law_draw" AE f fd)(_:vM Z):i7 Z:=by
 refine aA ["well", "many", "taken"] t D (by delta ak) JN ?_ ?_ ?_;walk_at "o"
abbrev mj(Z:Zz):Prop:=cS Z "_law_new_name" 3 ["well", "names"] bp
def vO(D:Df Z.K "_law_new_name" lY f fd)(_:i7 Z):mj Z:=by
 refine aA ["well", "names", "letters", "way", "letter", "name", "old", "at", "some"] t D (by delta bp) vi ?_ ?_ ?_;walk_at "o"
abbrev vP(Z:Zz):Prop:=cS Z "_law_sign" 3 ["well"] cB
def Ko(D:Df Z.K "_law_sign" AG f fd)(_:i7 Z):vP Z:=by
 refine aA ["well", "signs"] t D (by delta cB) JQ ?_ ?_ ?_;walk_at "o"
abbrev vQ(Z:Zz):Prop:=cS Z "_law_signs" 4 ["well"] bP
def FN(D:Df Z.K "_law_signs" ve f fd)(_:i7 Z)(_:vP Z):vQ Z:=by
 refine aA ["well", "many"] t D (by delta bP) Fl ?_ ?_ ?_;walk_at "o"
abbrev AX(Z:Zz):Prop:=cS Z "_law_text" 4 ["well", "rules", "most"] da
def Kq(D:Df Z.K "_law_text" AI f fd)(_:i7 Z)(_:vP Z):AX Z:=by
 refine aA ["well", "rules", "most", "own", "signs", "k", "sign"] t D (by delta da) JT ?_ ?_ ?_;walk_at "o"
abbrev pG(Z:Zz):Prop:=cS Z "_law_listed" 1 ["rules"] bV
def zQ(D:Df Z.K "_law_listed" pd f fd):pG Z:=by
 refine aA ["rules"] t D (by delta bV) zt ?_ ?_ ?_;walk_at "o"
abbrev AY(Z:Zz):Prop:=cS Z "_law_told" 1 ["found_v", "due"] db
def Kr(D:Df Z.K "_law_told" AJ f fd):AY Z:=by
 refine aA ["found_v", "due", "numbers"] t D (by delta db) JV ?_ ?_ ?_;walk_at "o"
abbrev vR(Z:Zz):Prop:=cS Z "_law_solid" 1 ["form", "solid"] cO
def FP(D:Df Z.K "_law_solid" vn f fd):vR Z:=by
 refine aA ["form", "solid"] t D (by delta cO) Ft ?_ ?_ ?_;walk_at "o"
abbrev vS(Z:Zz):Prop:=cS Z "_law_form" 5 ["well", "later", "every", "solid"] cj
def FQ(D:Df Z.K "_law_form" vo f fd)(_:i7 Z)(_:vQ Z):vS Z:=by
 refine aA ["well", "later", "every", "solid", "words", "word", "parts", "k", "some"] t D (by delta cj) Fv ?_ ?_ ?_;walk_at "o"
abbrev AZ(Z:Zz):Prop:=cS Z "_law_book" 6 ["cells", "most"] dc
def Ks(D:Df Z.K "_law_book" AK f fd)(_:vL Z)(_:vN Z)(_:mj Z)(_:vS Z)(_:vR Z):AZ Z:=by
 refine aA ["cells", "most", "many", "wells", "names", "k", "none", "rules", "solid"] t D (by delta dc) JZ ?_ ?_ ?_;walk_at "o"
abbrev A7(Z:Zz):Prop:=cS Z "_law_length" 1 ["form", "text", "table", "place"] bx
def Kt(D:Df Z.K "_law_length" AM f fd):A7 Z:=by
 refine aA ["form", "text", "table", "place", "word", "there", "asked", "at", "going", "step", "part", "read"] t D (by delta bx) J2 ?_ ?_ ?_;walk_at "o"
abbrev A8(Z:Zz):Prop:=cS Z "_law_record" 2 ["rules", "text", "table", "name", "place"] bz
def Ku(D:Df Z.K "_law_record" AO f fd)(_:A7 Z):A8 Z:=by
 refine aA ["rules", "text", "table", "name", "place", "length", "asked", "once", "far", "leans", "key", "one"] t D (by delta bz) Ka ?_ ?_ ?_;walk_at "o"
def o_law(D:Df Z.K "law" Kb f fd)(_:AZ Z)(_:vL Z)(_:vN Z)(_:AX Z)(_:pG Z)(_:i7 Z)(_:mh Z)(_:A8 Z)(_:AY Z):FnOk Z.P Z.w Z.K Z.mg Z.base CX0 11 f fd ["script"] (spM Z.K qO):=by
 refine kj ["script", "names", "none", "rules", "well", "text", "book", "keys", "some", "k", "name", "place", "found_v", "table", "at", "one"] t D.fn (by delta qO) MC ?_ ?_;walk_at "ol"
end
end KR
open PySem L2
namespace KR
def zR(K:Frag):Sp:=λvs H Q _=>∃(a:Addr) (ns:↥Int),vs=[.ref a]/\SqL K H a (ns.map V.int)/\ns.length<=63/\∀H',Q (.bl true) H'
variable{q:Program}{loose:↥Str}{XP:(Str->Option Value)->Heap->Prop}
def Kv{K:Frag}(vs:↥V)(H:Hp)(Q:VK)(E:XK)(h:zR K vs H Q E):spM K qO vs H Q E:=by
 obtain⟨a,ns,rfl,g,f,q⟩:=h;refine{H,λ_=>none,[.fz (.lst (ns.map .int))],[],λo _=>o=.fz (.bl true),Same.refl H,SameN.none,λ_ _ _=>rfl,.cons (.fz (.lst g (Dens.ints ns))) .nil,aaH,(λ_ z=>nomatch z),?_,λo c v F' H' i B e _ _ _ _ _ b _ _=>?_}
 .unfold qO;exact{(ns),rfl,f,rfl}
 .subst e
  cases b with
  |fz d=>rw [d.bl_eq];exact q H'
def all_mk{l:PySem.W.OpenLaw}{w:World}{K:Frag}{h:Heap}{mg:Str->Option Value}{fa f0 f1 f2 f3 f4 f5 f6 f7 f8 f9 f10 f11 f12 f13 f14 f15 f16 f17 f18 f19 f20 f21 f22 f23 f24 f25 f26 f27 f28 f29 f30 f31 f32 f33 f34 f35 f36 f37 f38 f39 f40 f41 f42 f43 f44:Addr}{u0 u1 u2 u3 u4 u5 u6 u7 u8 u9 u10 u11 u12 u13 u14 u15 u16 u17 u18 u19 u20 u21 u22 u23 u24 u25 u26 u27 u28 u29 u30 u31 u32 u33 u34 u35 u36 u37 u38 u39 u40 u41 u42 u43 u44:FuncData}{C fi fm0 fm1 fm2 fm3 fm4 fm5:Addr}{ui um0 um1 um2 um3 um4 um5:FuncData}(X:K.In h)(G:h.Ns mainGlobals mg)(hfa:mg "law" = !(.ref fa))
  (d0:Df K "length_alone" oH f0 u0)
  (d1:Df K "parts_of" uo f1 u1)
  (d2:Df K "begun" ur f2 u2)
  (d3:Df K "found" uB f3 u3)
  (d4:Df K "make" Av f4 u4)
  (d5:Df K "is_name" oP f5 u5)
  (d6:Df K "is_sign" oQ f6 u6)
  (d7:Df K "is_text" oR f7 u7)
  (d8:Df K "are_rising_signs" oS f8 u8)
  (d9:Df K "is_form" oT f9 u9)
  (d10:Df K "is_rule" oU f10 u10)
  (d11:Df K "names_rise" uP f11 u11)
  (d12:Df K "is_book" oV f12 u12)
  (d13:Df K "may_be_empty" Jx f13 u13)
  (d14:Df K "empty_names" oX f14 u14)
  (d15:Df K "begins_of_row" Ay f15 u15)
  (d16:Df K "begins_of_form" uT f16 u16)
  (d17:Df K "steps_of" uU f17 u17)
  (d18:Df K "steps_within" o6 f18 u18)
  (d19:Df K "endless_rules" lV f19 u19)
  (d20:Df K "loop" AA f20 u20)
  (d21:Df K "asked_anew" Aw f21 u21)
  (d22:Df K "asked_of" lN f22 u22)
  (d23:Df K "is_whole" lO f23 u23)
  (d24:Df K "is_place" lP f24 u24)
  (d25:Df K "refuse_wrong_book" JD f25 u25)
  (d26:Df K "refuse_wrong" M8 f26 u26)
  (d27:Df K "made_alone" va f27 u27)
  (d28:Df K "reading" lX f28 u28)
  (d29:Df K "_law_cell_at" AB f29 u29)
  (d30:Df K "_law_stir" AC f30 u30)
  (d31:Df K "_law_well" AD f31 u31)
  (d32:Df K "_law_draw" AE f32 u32)
  (d33:Df K "_law_new_name" lY f33 u33)
  (d34:Df K "_law_sign" AG f34 u34)
  (d35:Df K "_law_signs" ve f35 u35)
  (d36:Df K "_law_text" AI f36 u36)
  (d37:Df K "_law_listed" pd f37 u37)
  (d38:Df K "_law_told" AJ f38 u38)
  (d39:Df K "_law_solid" vn f39 u39)
  (d40:Df K "_law_form" vo f40 u40)
  (d41:Df K "_law_book" AK f41 u41)
  (d42:Df K "_law_length" AM f42 u42)
  (d43:Df K "_law_record" AO f43 u43)
  (d44:Df K "law" Kb f44 u44)
  (z0:PySem.W.nsIn K mainGlobals "len" = !none)
  (z1:PySem.W.nsIn K mainGlobals "max" = !none)
  (z2:PySem.W.nsIn K mainGlobals "min" = !none)
  (z3:PySem.W.nsIn K mainGlobals "isinstance" = !none)
  (z4:PySem.W.nsIn K mainGlobals "all" = !none)
  (z5:PySem.W.nsIn K mainGlobals "any" = !none)
  (z6:PySem.W.nsIn K mainGlobals "sorted" = !none)
  (z7:PySem.W.nsIn K mainGlobals "range" = !none)
  (z8:PySem.W.nsIn K mainGlobals "str" = !none)
  (z9:PySem.W.nsIn K mainGlobals "bool" = !none)
  (z10:PySem.W.nsIn K mainGlobals "int" = !none)
  (z11:PySem.W.nsIn K mainGlobals "list" = !none)
  (z12:PySem.W.nsIn K mainGlobals "tuple" = !none)
  (z13:PySem.W.nsIn K mainGlobals "dict" = !none)
  (z14:PySem.W.nsIn K mainGlobals "set" = !none)
  (z15:PySem.W.nsIn K mainGlobals "ord" = !none)
  (z16:PySem.W.nsIn K mainGlobals "ValueError" = !none)
  (z17:PySem.W.nsIn K mainGlobals "reversed" = !none) {tk0:Tok}
  (gl0:PySem.W.nsIn K mainGlobals "LETTERS" = !!(.str "abcdefghijklmnopqrstuvwxyz" tk0)) {tk1:Tok}
  (gl1:PySem.W.nsIn K mainGlobals "MOST_LETTERS" = !!(.int 8 tk1)) {tk2:Tok}
  (gl2:PySem.W.nsIn K mainGlobals "MOST_SIGNS" = !!(.int 40 tk2)) {tk3:Tok}
  (gl3:PySem.W.nsIn K mainGlobals "MOST_PARTS" = !!(.int 8 tk3)) {tk4:Tok}
  (gl4:PySem.W.nsIn K mainGlobals "BARRED_SIGN" = !!(.int 37 tk4)) {ta0:Addr} {odt0:Option Addr} {nt0:Nat} {slt0:Array (Option Value)} {tt0_0 tt0_1:Tok}
  (ga0:PySem.W.nsIn K mainGlobals "WORDS_ALONE" = !!(.ref ta0))
  (gt0:K.lookup ta0=!{.type "tuple", odt0,.seq #[.str "none" tt0_0,.str "any" tt0_1] nt0,slt0}) {ta1:Addr} {odt1:Option Addr} {nt1:Nat} {slt1:Array (Option Value)} {tt1_0 tt1_1 tt1_2:Tok}
  (ga1:PySem.W.nsIn K mainGlobals "WORDS_WITH_ONE" = !!(.ref ta1))
  (gt1:K.lookup ta1=!{.type "tuple", odt1,.seq #[.str "again" tt1_0,.str "ahead" tt1_1,.str "not" tt1_2] nt1,slt1}) {ta2:Addr} {odt2:Option Addr} {nt2:Nat} {slt2:Array (Option Value)} {tt2_0 tt2_1:Tok}
  (ga2:PySem.W.nsIn K mainGlobals "WORDS_WITH_SOME" = !!(.ref ta2))
  (gt2:K.lookup ta2=!{.type "tuple", odt2,.seq #[.str "row" tt2_0,.str "first" tt2_1] nt2,slt2}) {ta3:Addr} {odt3:Option Addr} {nt3:Nat} {slt3:Array (Option Value)} {tt3_0 tt3_1 tt3_2 tt3_3:Tok}
  (ga3:PySem.W.nsIn K mainGlobals "WORDS_EVER_EMPTY" = !!(.ref ta3))
  (gt3:K.lookup ta3=!{.type "tuple", odt3,.seq #[.str "none" tt3_0,.str "again" tt3_1,.str "ahead" tt3_2,.str "not" tt3_3] nt3,slt3})
  (cN:PySem.W.nsIn K mainGlobals "Asking" = !!(.ref C))
  (mi:DfM K C "__init__" "Asking.__init__" uk fi ui)
  (mm0:DfM K C "end" "Asking.end" Ao fm0 um0)
  (mm1:DfM K C "wanted" "Asking.wanted" lK fm1 um1)
  (mm2:DfM K C "take_in_row" "Asking.take_in_row" Aq fm2 um2)
  (mm3:DfM K C "take_in_first" "Asking.take_in_first" oJ fm3 um3)
  (mm4:DfM K C "take_in_again" "Asking.take_in_again" oK fm4 um4)
  (mm5:DfM K C "take" "Asking.take" uu fm5 um5)
  (cM:PySem.W.makesIn K C=true)
  (cK:PySem.W.keepIn K (.ref C)=true)
  (pg:PySem.W.plainGet K C Str.empty=true)
  (hd:PySem.W.hasDictIn K C=true)
  (po:PySem.W.plainOver K C=true)
  (sa:PySem.W.findIn K (.ref C) "__setattr__" = !!(.builtin "object.__setattr__"))
  (na0:PySem.W.findIn K (.ref C) "form" = !none)
  (na1:PySem.W.findIn K (.ref C) "name" = !none)
  (na2:PySem.W.findIn K (.ref C) "place" = !none)
  (na3:PySem.W.findIn K (.ref C) "at" = !none)
  (na4:PySem.W.findIn K (.ref C) "turn" = !none)
  (na5:PySem.W.findIn K (.ref C) "steps" = !none)
  (na6:PySem.W.findIn K (.ref C) "done" = !none)
  (na7:PySem.W.findIn K (.ref C) "length" = !none)
  : ∃fd:FuncData,(∀(s:Shared) (v:Value),BindsTo s fd {[v],[]} [("script", v)])/\∀base:Heap,K.In base->base.Ns mainGlobals mg->FnOk l.prog w K mg base CX0 11 fa fd ["script"] (zR K):=by
 have e:=hfa.symm.trans (aaW X G d44.ns);cases e;have T:Txt K mg:={aas X G z0,aas X G z1,aas X G z2,aas X G z3,aas X G z4,aas X G z5,aas X G z6,aas X G z7,aas X G z8,aas X G z9,aas X G z10,aas X G z11,aas X G z12,aas X G z13,aas X G z14,aas X G z15,aas X G z16,aas X G z17,{_,aaW X G gl0,{_,rfl}},{_,aaW X G gl1,{_,rfl}},{_,aaW X G gl2,{_,rfl}},{_,aaW X G gl3,{_,rfl}},{_,aaW X G gl4,{_,rfl}},{ta0,aaW X G ga0,λ_=>.inr {_,_,_,gt0,rfl,rfl,(by show 2<=sizeLine;decide),(.cons {_,rfl} (.cons {_,rfl} Paired.nil))}},{ta1,aaW X G ga1,λ_=>.inr {_,_,_,gt1,rfl,rfl,(by show 3<=sizeLine;decide),(.cons {_,rfl} (.cons {_,rfl} (.cons {_,rfl} Paired.nil)))}},{ta2,aaW X G ga2,λ_=>.inr {_,_,_,gt2,rfl,rfl,(by show 2<=sizeLine;decide),(.cons {_,rfl} (.cons {_,rfl} Paired.nil))}},{ta3,aaW X G ga3,λ_=>.inr {_,_,_,gt3,rfl,rfl,(by show 4<=sizeLine;decide),(.cons {_,rfl} (.cons {_,rfl} (.cons {_,rfl} (.cons {_,rfl} Paired.nil))))}}};refine{u44,?_,λbase _ _=>?_}
 .obtain⟨oc,od,kV,doc,pm,an,cdv,ct,osl,rfl,lk,hcd⟩:=d44.fn.ex;exact λs v=>.of_eq rfl
 have t:TopZ {(l.prog),w,K,mg,base,h} (Txt K mg):={(X),G,T};have hC:ClsF K 0 C:=Jd cN pg hd po sa (ab5.mpr {na0,ab5.mpr {na1,ab5.mpr {na2,ab5.mpr {na3,ab5.mpr {na4,ab5.mpr {na5,ab5.mpr {na6,ab5.mpr {na7,λ_ z=>nomatch z}}}}}}}});have Y:=FB t hC mi cN cM cK;have c:=Kc t hC mm0;have b:=vA t hC mm1;have A_arow:=Kd t hC mm2 c;have M:=zE t hC mm3 c;have N:=zF t hC mm4 c;have j:=FC t hC mm5 b c A_arow M N;have E:=zG t hC d0;have f:=FD t hC d1;have i:=FF t hC d2 Y c f E;have V:=FH t hC d3;have O_make:=Ke t hC d4 b j i V;have d:=zH t hC d5;have F:=zI t hC d6;have g:=zJ t hC d7 F;have B:=zK t hC d8 g;have I:=zL t hC d9 B d;have H:=zM t hC d10 d I;have R:=FJ t hC d11;have J:=zN t hC d12 H R;have O_may:=MD t hC d13 f;have L:=zO t hC d14 O_may;have O_brow:=Kg t hC d15;have W:=FK t hC d16 f O_brow;have O:=FL t hC d17 L W;have A:=zP t hC d18;have p:=vF t hC d19 A;have O_loop:=Kh t hC d20 O p;have O_anew:=Ki t hC d21 b j i;have q:=vG t hC d22 O_anew;have n:=vH t hC d23;have o:=vI t hC d24 n;have O_rwb:=ME t hC d25 J O_loop;have O_rw:=o_rw t hC d26 O_rwb d g o;have S:=FM t hC d27 O_rw O_make;have k:=vK t hC d28 S q;have y:=Kk t hC d29;have u:=Kl t hC d30;have r:=Km t hC d31 u;have a:=Kn t hC d32 u;have m:=vO t hC d33 a;have x:=Ko t hC d34 a;have Q:=FN t hC d35 a x;have O_text:=Kq t hC d36 a x;have D:=zQ t hC d37;have Z:=Kr t hC d38;have P:=FP t hC d39;have U:=FQ t hC d40 a Q;have O_book:=Ks t hC d41 y r m U P;have O_llen:=Kt t hC d42;have O_lrec:=Ku t hC d43 O_llen;exact(o_law t hC d44 O_book y r O_text D a k O_lrec Z).imp Kv
def walk{l:PySem.W.OpenLaw}{c:World->Heap->Prop}{d:DefRec}{K:Params->Frag}(e:l.most=!63)(b:d.params.defaults=[])
  (i:∀(w:World) (h:Heap),c w h->(K w.params).In h)
  (F:∀(w:World) (mg:Str->Option Value) (fa:Addr) (h:Heap),(K w.params).In h->h.Ns mainGlobals mg->mg d.name=↑(.ref fa) ->
   ∃fd:FuncData,(∀(s:Shared) (u:Value),BindsTo s fd {[u],[]} [("script", u)])/\∀base:Heap,(K w.params).In base->base.Ns mainGlobals mg->FnOk l.prog w (K w.params) mg base CX0 11 fa fd ["script"] (zR (K w.params))) :
  PySem.W.WalkO q loose XP c l.row.toRowW d [] (λf vs=>PySem.call f vs):=-
 L2.walk_of (n:=63) (k:=11) (x := "script") (CX:=λ_=>CX0) (sp:=λw=>zR (K w.params)) e (by decide) b {rfl,by decide,by decide,rfl} i F (λ_ _ a ns g _ j=>{a,ns,rfl,j,g,λ_=>rfl}) λ_ _ _ _ _ z=>z
def walkX{r:PySem.W.RowW}{d:DefRec}{f:↥(Str×Expr)}{run:Value->↥Value->Sem Value}{K:Params->Frag}{as:↥Addr}{n t:Nat}(e:∀P,as=(K P).map (·.1))(W:PySem.W.WalkO q loose XP (λw h=>(K w.params).In h) r d f run) :
  PySem.W.WalkX q loose XP (PySem.W.X.obsZ as) (PySem.W.X.valZ K n t) r d f run:=by
 intro w s₀ c mg u G y a o pm B doc A kV v hd p z l x args b s L g i k j m;exact W w s₀ c mg u G (PySem.W.InK.keeps w _ _ (PySem.W.X.z_facts e y).2.1 L.keeps) a o pm B doc A kV v hd p z l x args b s g i k j m
end KR
end
open PySem PySem.W PyProof.Rows
local macro_rules|`(tactic|walk_at "df") => `(tactic|(refine' L2.df_mk ?a ?l ?c ?k;(case a => k_is);(case l => k_is);(case c => k_is);(case k => k_is)))
local macro_rules|`(tactic|walk_at "dm") => `(tactic|(refine' L2.dfm_mk ?a ?i ?l ?c ?k;(case a => k_is);(case i => k_is);(case l => k_is);(case c => k_is);(case k => k_is)))
namespace PySem.W.Fast
def tw7900576356393163495:=0
def tw18281156097367103358:=0
def tw2697453030089481877:=0
def tw13644527888753959878:=0
def tw6711752093213307290:=0
def tw16207612689420864028:=0
def tw344939457490173592:=0
def tw9972861989668621277:=0
def tw11125891927902759397:=0
def tw9162733364689808226:=0
def tw14610234680471272261:=0
def tw14987466071385006840:=0
def tw10204002501372866199:=0
def tw5275586942205892149:=0
def tw7207393022273958917:=0
def tw5938148539213314732:=0
def tw5887631386910879986:=0
def tw7353122373830245105:=0
def tw2299146440031559963:=0
def tw10188661321344823873:=0
def tw11731046367437539471:=0
def tw17686723696432701176:=0
def tw3378100602967795599:=0
def tw1361666895687335839:=0
def tw14095980514468249966:=0
def tw6556109016472012267:=0
def tw7772396261851831178:=0
def tw5747916195281610723:=0
def tw6972260183284502624:=0
def tw16508774934711944240:=0
def tw12435163813122469914:=0
def tw10379058841842053206:=0
def tw10945359416451916171:=0
def tw9993430543194600794:=0
def tw17381766783075344654:=0
def tw14930274098555705880:=0
def tw14366044717749288741:=0
def tw10869880814157022049:=0
def tw8924926493118342676:=0
def tw6837007765462432705:=0
def tw16312123540245214516:=0
def tw17646663307377004701:=0
def tw14079357262886644106:=0
def tw3232332353877247862:=0
def tw15450254569362776754:=0
def tw9690593709647720419:=0
def tw5182883553536119453:=0
def tw11819791312399945860:=0
def tw7258525483319071317:=0
def tw778133580083795747:=0
def tw13376333471549371997:=0
def tw14142665762262428979:=0
def tw10584465353373362646:=0
def tw7435161821580026149:=0
def tw956834257379660367:=0
def tw13779796061941291818:=0
def tw14955181087913482981:=0
def tw11268438211117641422:=0
def tw15109282868473262031:=0
def tw9525919318004749685:=0
def tw11603563863136301596:=0
def tw10488153168622427162:=0
def tw16979342532745019915:=0
def tw1896926491970370304:=0
def tw9342659779770496942:=0
def tw7130782647498682889:=0
def tw5327728643426164451:=0
def tw13939060028772488365:=0
def tw12109789610929820869:=0
def tw4760796319185807930:=0
def tw4683352236871339613:=0
def tw4254229906507300039:=0
def tw17784593680433913731:=0
def tw12479136162817820722:=0
def tw7892537790572395639:=0
def tw10832356460284645023:=0
def tw16440180170874233753:=0
def tw4996372000276999169:=0
def tw5193716758408152096:=0
def tw13988507153561495210:=0
def tw15641374581310966981:=0
def tw112738978423230336:=0
def tw15816331546589517342:=0
def tw262445410152463414:=0
def tw2041605392845568946:=0
def tw12119940540696691699:=0
def tw13463547087739461265:=0
def tw6682434742125527715:=0
def tw4540159302203655620:=0
def tw8410810403836116889:=0
def tw9696046455414181477:=0
def tw7552331759994427861:=0
def tw2414712559486979583:=0
def tw9908330868710201413:=0
def tw774254458351836780:=0
def tw13346296623080576126:=0
def tw5047914812772005034:=0
def tw10171606135119983572:=0
def tw2673410773386187236:=0
def tw16845804289431762066:=0
def tw1102151711132482126:=0
def tw9143624165422535203:=0
def tw2473176681271382268:=0
def tw14821514533766010439:=0
def tw9511579954120090739:=0
def tw13601955208664824380:=0
def tw6544019312873075058:=0
def tw3502094382369719037:=0
def tw1687492188408522861:=0
def tw3784899131495722113:=0
def tw8603012690640646828:=0
def tw10006612280105591124:=0
def tw5574241795748776179:=0
def tw11045674716898052597:=0
def tw5543154825993822985:=0
def tw3072450826908495482:=0
def tw11869502485945994257:=0
def tw11469934404361430688:=0
def tw17046567516560161338:=0
def tw1831770664060940856:=0
def tw8249852293397804964:=0
def tw16569365964825735368:=0
def tw18084379482066857196:=0
def tw7408255762946942585:=0
def tw8604288796363189906:=0
def tw2080317361732601681:=0
def tw14230990966735223129:=0
def tw2477517807459538159:=0
def tw4275876674122646512:=0
def tw5333100449307507796:=0
def tw7906932263490295645:=0
def tw3488623879407318211:=0
def tw15540657934677377872:=0
def tw13845257603790647371:=0
def tw3285244874803577323:=0
def tw16510900124595049569:=0
def tw1493674510096055062:=0
def tw2407709795648772578:=0
def tw3802500842575331667:=0
def tw6577077606578324781:=0
def tw13607949727274962529:=0
def tw14952647887289347975:=0
def tw16137540408101244989:=0
def tw11145126377445982482:=0
def tw2105863099083081770:=0
def tw2972195217434209470:=0
def tw6132884577099971836:=0
def tw6351203905083326054:=0
def tw2505857376813736370:=0
def tw4744299135892921974:=0
def tw2009182810320301359:=0
def tw3820779814668138789:=0
def tw18038286067685009042:=0
def tw4837994419189671243:=0
def tw15301735415749677667:=0
def tw4967900659605960935:=0
def tw9763947511948775428:=0
def tw6735051054636745428:=0
def tw12327911836512885134:=0
def tw2243885287691401630:=0
def tw9017076006946524779:=0
end PySem.W.Fast
set_option maxRecDepth 100000 in
set_option maxHeartbeats 0 in
theorem PySem.Challenge.cw_keptreading_k14_whole_each_by_what_it_as_holds : PySem.Challenge.rw_keptreading_k14_whole_each_by_what_it_as.Holds := by
  w_on; o_law; z_head; (case hw=>w_witness2)
  k_fill
  refine KR.walkX (λ _=>rfl) (KR.walk (l:=PySem.Challenge.rw_keptreading_k14_whole_each_by_what_it_as) rfl rfl (λ w h Y=>Y) ?F)
  case F =>
    intro w mg fa h KX G hmg
    refine' KR.all_mk KX G hmg ?_ ?_ ?_ ?_ ?_ ?_ ?_ ?_ ?_ ?_ ?_ ?_ ?_ ?_ ?_ ?_ ?_ ?_ ?_ ?_ ?_ ?_ ?_ ?_ ?_ ?_ ?_ ?_ ?_ ?_ ?_ ?_ ?_ ?_ ?_ ?_ ?_ ?_ ?_ ?_ ?_ ?_ ?_ ?_ ?_ ?_ ?_ ?_ ?_ ?_ ?_ ?_ ?_ ?_ ?_ ?_ ?_ ?_ ?_ ?_ ?_ ?_ ?_ ?_ ?_ ?_ ?_ ?_ ?_ ?_ ?_ ?_ ?_ ?_ ?_ ?_ ?_ ?_ ?_ ?_ ?_ ?_ ?_ ?_ ?_ ?_ ?_ ?_ ?_ ?_ ?_ ?_ ?_ ?_ ?_ ?_ ?_ ?_
    any_goals first | walk_at "df" | walk_at "dm" | k_is
