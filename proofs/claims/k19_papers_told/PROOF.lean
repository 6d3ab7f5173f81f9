import PyProof.Rows.All
import Wide.All
import OpenK.AllK
import Wide.FinOn
import Lean
import PyProof.EqAt
import PyProof.EqKinds
import PyProof.TupleCall
import PySem.Challenge.RW_keptreading_k19_papers_told
set_option bootstrap.genMatcherCode false
set_option genSizeOf false
set_option genSizeOfSpec false
set_option genInjectivity false
set_option Elab.async false
set_option linter.all false
set_option maxRecDepth 100000
open PySem.W (Frag)
noncomputable section
theorem faa{p:Prop}(f:False):p:=f.elim
local macro_rules|`(tactic|nofun) => `(tactic|(first|lia|omega))
local macro_rules|`(tactic|exists $h:term) => `(tactic|(first|exact List.mem_singleton.mp $h|simpa using $h))
local macro_rules|`(tactic|ext) => `(tactic|(conv => whnf))
section
local macro_rules|`(tactic|let $p:term:=$e)=>do let q:=p.raw.rewriteBottomUp fun s=>if s.isIdent then .node .none `Lean.Parser.Tactic.rcasesPat.one #[s] else if s.isOfKind `Lean.Parser.Term.hole then .node .none `Lean.Parser.Tactic.rcasesPat.ignore #[s[0]] else if s.isOfKind `Lean.Parser.Term.anonymousCtor then .node .none `Lean.Parser.Tactic.rcasesPat.tuple #[s[0],s[1].setArgs (s[1].getArgs.map fun x=>if x.isAtom then x else .node .none `Lean.Parser.Tactic.rcasesPatLo #[.node .none `Lean.Parser.Tactic.rcasesPatMed #[.node .none `null #[x]],.node .none `null #[]]),s[2]] else s;`(tactic|obtain $(⟨.node .none `Lean.Parser.Tactic.rcasesPatMed #[.node .none `null #[q]]⟩):rcasesPatMed := $e)
local macro_rules|`(tactic|revert $x:ident)=>`(tactic|(ext;refine $x ?_))|`(tactic|revert $x:term)=>`(tactic|(ext;refine $x))|`(tactic|revert $x $y $z*)=>`(tactic|(revert $x;revert $y $z*))
local macro_rules(kind:=«term{_}»)|`({$x,*})=>`(⟨$x,*⟩)
local macro_rules|`(↑$x)=>`(some $x)
local macro_rules|`(!$x)=>`(some $x)
local macro_rules|`(⇑$x)=>`(not $x)
local macro_rules|`(↥$x)=>`(List $x)
local macro_rules|`(())=>`(by nofun)
local macro_rules|`(∅)=>`(by decide +kernel)
local macro_rules|`($m:declModifiers def $n:declId $s:optDeclSig $v:declVal)=>if m.raw[4].getNumArgs==0 then return (← `($(⟨m.raw.setArg 4 (Lean.mkNullNode #[.node .none `Lean.Parser.Command.noncomputable #[.atom .none "noncomputable"]])⟩):declModifiers def $n:declId $s:optDeclSig $v:declVal)).raw.rewriteBottomUp (·.setInfo .none) else Lean.Macro.throwUnsupported|`($m:declModifiers abbrev $n:declId $s:optDeclSig $v:declVal)=>if m.raw[4].getNumArgs==0 then return (← `($(⟨m.raw.setArg 4 (Lean.mkNullNode #[.node .none `Lean.Parser.Command.noncomputable #[.atom .none "noncomputable"]])⟩):declModifiers abbrev $n:declId $s:optDeclSig $v:declVal)).raw.rewriteBottomUp (·.setInfo .none) else Lean.Macro.throwUnsupported
local macro_rules|`($m:declModifiers def $n:declId $s:optDeclSig:=by $v)=>return (← `($m:declModifiers theorem $n:declId $(⟨.node .none ``Lean.Parser.Command.declSig #[s.raw[0],s.raw[1][0]]⟩):declSig:=by $v)).raw.rewriteBottomUp (·.setInfo .none)|`($m:declModifiers def $n:declId $s:optDeclSig:=-$v)=>return (← `($m:declModifiers theorem $n:declId $(⟨.node .none ``Lean.Parser.Command.declSig #[s.raw[0],s.raw[1][0]]⟩):declSig:=$v)).raw.rewriteBottomUp (·.setInfo .none)
set_option compiler.extract_closed false
def abR:=@List.length_map
def abS:=@List.mem_append
def abT:=@List.getElem?_eq_some_iff
def abU:=@List.getElem?_eq_getElem
def abV:=@PySem.Heap.get?_push_of_some
def abW:=@List.getElem?_map
def abX:=@List.mem_of_getElem?
def abY:=@List.mem_singleton
def abZ:=@List.mem_map
def ab0:=@PySem.Heap.get?_push_size
def ab1:=@List.map_cons
def ab2:=@List.mem_cons
def ab3:=@Bool.false_ne_true
def ab4:=@List.nodup_cons
def ab5:=@List.getD_eq_getElem?_getD
def ab6:=@List.length_cons
def ab7:=@List.getElem?_append_right
def ab8:=@Bool.and_eq_true_iff
def ab9:=@Array.getElem?_eq_getElem
def aca:=@List.size_toArray
def acb:=@List.mem_filter
def acd:=@Array.length_toList
def ace:=@List.nodup_append
def acf:=@Array.getElem?_toList
def acg:=@List.getElem?_append_left
def ach:=@Bool.and_eq_true
def aci:=@List.mem_iff_getElem?
def acj:=@List.getElem?_set_self
def ack:=@List.getElem?_set_ne
def acl:=@Array.getD_eq_getD_getElem?
def acm:=@List.pairwise_iff_getElem
def acn:=@Option.isSome_iff_exists
def aco:=@List.forall_mem_cons
def acp:=@List.ext_getElem?
def acq:=@Int.toNat_natCast
def acr:=@List.getElem?_take_of_lt
def acs:=@List.find?_eq_none
def acu:=@List.getElem?_eq_none
def acv:=@PySem.Heap.get?_update_other
def acw:=@List.mem_range
def acx:=@List.mem_of_find?_eq_some
def acy:=@List.getElem?_eq_none_iff
def acz:=@List.length_range
def acA:=@List.find?_cons
def acB:=@Bool.eq_false_iff
def acC:=@List.zip_cons_cons
def acD:=@List.mem_iff_getElem
def acE:=@PySem.Heap.get?_update_self
def acF:=@List.getElem?_drop
def acG:=@Option.map_eq_some_iff
def acH:=@Array.getElem?_eq_none
def acI:=@Nat.max_le
def acJ:=@List.not_lt
def acK:=@List.filter_sublist
def acL:=@Nat.lt_trans
def acM:=@Nat.le_of_lt
def acN:=@List.mem_filterMap
def acO:=@List.getElem_range
def acP:=@Int.le_trans
def aaa:=@PySem.wpAny_bind
def aab:=@Nat.le_refl
def aac:=@List.mem_cons_self
def aad:=@List.mem_cons_of_mem
def aae:=@List.map_append
def aaf:=@PySem.wpAny_pure
def aag:=@List.length_append
def aah:=@List.take_of_length_le
def aai:=@Option.map_eq_some_iff
def aaj:=@PySem.Heap.lt_size
def aak:=@Option.some.inj
def aal:=@List.mem_append_right
def aam:=@List.length_take
def aan:=@Nat.zero_le
def aao:=@Nat.le_trans
def aap:=@Nat.ne_of_lt
def aaq:=@List.take_succ
def aar:=@List.map_map
def aas:=@List.Nodup.length_le_of_subset
def aat:=@PySem.W.mg_none_of
def aau:=@Nat.lt_of_lt_of_le
def aav:=@List.drop_eq_getElem_cons
def aaw:=@List.append_nil
def aax:=@List.mem_append_left
def aay:=@List.append_assoc
def aaz:=@Nat.lt_succ_self
def aaA:=@PySem.W.kia_one
def aaB:=@List.length_reverse
def aaC:=@List.length_drop
def aaD:=@List.eq_nil_of_length_eq_zero
def aaE:=@List.Perm.refl
def aaF:=@PySem.wpAny_call_entry
def aaG:=@List.length_set
def aaH:=@List.nodup_nil
def aaI:=@PySem.Around.under_plainId
def aaJ:=@List.length_replicate
def aaK:=@List.lookup_cons
def aaL:=@List.getElem_mem
def aaM:=@List.any_eq_true
def aaN:=@PySem.wpAny_truthy_bool
def aaO:=@PySem.wpAny_newObj_type
def aaP:=@List.drop_length
def aaQ:=@Nat.lt_succ_of_lt
def aaR:=@List.length_singleton
def aaS:=@List.drop_zero
def aaT:=@PySem.wpAny_holding
def aaU:=@List.all_cons
def aaV:=@PySem.mem_of_lookup
def aaW:=@List.reverse_cons
def aaX:=@Bool.not_eq_true'
def aaY:=@PySem.W.mg_of
def aaZ:=@List.length_filter_le
def aa0:=@List.Perm.append_left
def aa1:=@List.filter_append
def aa2:=@Nat.lt_irrefl
def aa3:=@Nat.add_sub_cancel_left
def aa4:=@List.set_set
def aa5:=@PySem.Heap.size_push
def aa6:=@List.take_sublist
def aa7:=@PyProof.Rows.callWith_type1
def aa8:=@List.filterMap_cons
def aa9:=@PySem.Paired.length
def aba:=@Nat.le_succ
def abb:=@List.mem_of_mem_take
def abd:=@PyProof.Rows.slot_tuple_getitem
def abe:=@PySem.wpAny_of_eq
def abf:=@PySem.wpAny_getItem_str_slice
def abg:=@Sum.inr.inj
def abh:=@List.map_congr_left
def abi:=@List.Perm.append_right
def abj:=@PySem.Calls.callWith_builtin
def abk:=@PySem.wpAny_setField_rec
def abl:=@PySem.F.slot_dict_keyiterator_next
def abm:=@PySem.wpAny_passesOwn
def abn:=@List.perm_append_comm
def abo:=@Bool.eq_iff_iff
def abp:=@PySem.wpAny_setState_of
def abq:=@List.foldl_append
def abr:=@List.mem_of_mem_drop
def abt:=@Array.toArray_toList
def abu:=@PyProof.Rows.F.plain_set_update_loop
def abv:=@PySem.wpAny_askSetting
def abw:=@List.getElem_map
def abx:=@PySem.wpAny_setEntries_of
def aby:=@List.getElem_of_mem
def abz:=@PySem.wpAny_mono
def abA:=@List.any_map
def abB:=@PySem.F.plainAttrs_dict
def abC:=@Ne.symm
def abD:=@List.any_cons
def abE:=@Int.eq_ofNat_of_zero_le
def abF:=@List.length_pos_of_mem
def abG:=@PySem.wpAny_rule
def abH:=@PySem.W.kitx_dict
def abI:=@List.nodup_append
def abJ:=@Bool.eq_false_iff
def abK:=@List.filterMap_append
def abL:=@Nat.succ_le_succ
def abM:=@List.mem_reverse
def abN:=@List.all_eq_true
def abO:=@PySem.wpAny_attempt
def abP:=@List.toList_toArray
def abQ:=@List.length_nil
namespace _L
def aF(_:True:=by first|exact .inl rfl|exact .inr rfl|assumption):True:=-trivial
def aD(_:True:=by decide):True:=-trivial
def aI(_:True:=by intro _;rfl):True:=-trivial
def aR(_:True:=by rfl):True:=-trivial
end _L
namespace _L
open PySem PySem.Spec PyProof.Rows
variable{a b it dx C:Addr}{u:Value}{P prog:Program}{w:World}{h h' base:Heap}{α:Type}{x name m qual:Str}{e c tg l:Expr}{pins:↥(Addr×Obj)}{s s':Shared}{t' i j k n:Nat}{ch fp:↥Addr}{N ps:↥Str}{A:Around}{E Q:Value->Shared->Prop}{pos pos' p apos:Pos}{op op':CmpOp}{es:↥Expr}{g:Int->Int->Int}{body:↥Stmt}{f:Value->Value->Sem Value}{us:↥Value}{mA mg:Str->Option Value}{pl:Sem Bool}{kw:↥(Str×Value)}{fd:FuncData}{outer:↥Env}{scope:Scope}
abbrev Key:=Sum Int Str
def kx:Key->Value->Bool|.inl k,v=>Value.isInt k v|.inr x,v=>Value.isStrOf x v
def keyH(w:World):Key->Int|.inl k=>hashInt k|.inr x=>hashStr w x
theorem aW:∀{k:Key}{v:Value},kx k v=true->(∃i t,k=Sum.inl i/\v=Value.int i t)∨(∃x t,k=Sum.inr x/\v=Value.str x t)|.inl i,v,h=>by let⟨t,e⟩:=Value.isInt_shape (k:=i) (v:=v) h;exact .inl {(i),t,rfl,e}|.inr x,v,h=>by let⟨t,e⟩:=Value.isStrOf_shape (x:=x) (v:=v) h;exact .inr {(x),t,rfl,e}
def sj(i:Int)(t:Tok):kx (.inl i) (.int i t)=true:=by simp[kx,Value.isInt]
def lD(x:Str)(t:Tok):kx (.inr x) (.str x t)=true:=by simp[kx,Value.isStrOf]
def HU(a b:Int):decide ((Sum.inl a:Key)=Sum.inl b)=(a==b):=by by_cases e:a=b;subst e;simp;have h:¬(Sum.inl a:Key)=Sum.inl b:=λq=>e (Sum.inl.inj q);rw[decide_eq_false h];exact(beq_eq_false_iff_ne.mpr e).symm
def HV(a b:Str):decide ((Sum.inr a:Key)=Sum.inr b)=decide (a=b):=by by_cases e:a=b;subst e;simp;have h:¬(Sum.inr a:Key)=Sum.inr b:=λq=>e (abg q);rw[decide_eq_false h,decide_eq_false e]
def HW(a:Int)(b:Str):decide ((Sum.inl a:Key)=Sum.inr b)=false:=-decide_eq_false (λq=>nomatch q)
def HX(a:Str)(b:Int):decide ((Sum.inr a:Key)=Sum.inl b)=false:=-decide_eq_false (λq=>nomatch q)
def ay(prog:Program)(w:World):PySem.KeyKind prog w Key where
 is:=kx
 hash:=keyH w
 inj:=λv a b ha hb=>by
  rcases aW ha with ⟨i,t,rfl,rfl⟩|⟨x,t,rfl,rfl⟩
  .rcases aW hb with ⟨j,u,rfl,e⟩|⟨y,u,rfl,e⟩
   .injection e with e1 _;rw[e1]
   .exact nomatch e
  .rcases aW hb with ⟨j,u,rfl,e⟩|⟨y,u,rfl,e⟩
   .exact nomatch e
   .injection e with e1 _;rw[e1]
 byValue:=λk v h=>by
  rcases aW h with ⟨i,t,rfl,rfl⟩|⟨x,t,rfl,rfl⟩<;>rfl
 pyHash:=λhv h=>by
  rcases aW hv with ⟨i,t,rfl,rfl⟩|⟨x,t,rfl,rfl⟩
  .exact wpAny_pyHash_int h
  .exact wpAny_pyHash_str h
 eqBool:=λhu hv h=>by
  rcases aW hu with ⟨i,t,rfl,rfl⟩|⟨x,t,rfl,rfl⟩
  .rcases aW hv with ⟨j,u,rfl,rfl⟩|⟨y,u,rfl,rfl⟩
   .rw[HU]at h;exact wpAny_eqBool_int h
   .rw[HW]at h;exact SeqAt.EqAt.int_str i t y u _ _ _ _ h
  .rcases aW hv with ⟨j,u,rfl,rfl⟩|⟨y,u,rfl,rfl⟩
   .rw[HX]at h;exact SeqAt.EqAt.str_int x t j u _ _ _ _ h
   .rw[HV]at h;exact wpAny_eqBool_str h
 «strs»:=λk x t v h=>by
  rcases aW h with ⟨i,u,rfl,e⟩|⟨y,u,rfl,e⟩
  .exact nomatch e
  .injection e with e1 _
   subst e1
   cases v<;>rfl
def ni(prog:Program)(w:World)(i:Int)(t:Tok):(ay prog w).is (.inl i) (.int i t)=true:=-sj i t
def nj(prog:Program)(w:World)(x:Str)(t:Tok):(ay prog w).is (.inr x) (.str x t)=true:=-lD x t
inductive V where
 |non|bl (b:Bool)|int (i:Int)|str (x:Str)|byt (b:Array UInt8)|flt (b:UInt64)|ref (a:Addr)|ty (n:String)
 deriving DecidableEq
variable{v y:V}{xs vs:↥V}
def RelV:V->Value->Prop|.non,u=>u=Value.none|.bl b,u=>u=Value.bool b|.int i,u=>∃t,u=Value.int i t|.str x,u=>∃t,u=Value.str x t|.byt b,u=>∃t,u=Value.bytes b t|.flt b,u=>∃t,u=Value.float b t|.ref a,u=>u=Value.ref a|.ty n,u=>u=Value.type n
abbrev Vals:↥V->↥Value->Prop:=Paired RelV
def Vals.length{xs:↥V}{us:↥Value}(r:Vals xs us):xs.length=us.length:=-aa9 r
theorem Vals.get:∀{xs:↥V}{us:↥Value}{i:Nat}{x:V},Vals xs us->xs[i]?=!x->∃u,us[i]?=!u/\RelV x u|_,_,_,_,.nil,e=>by simp at e|_,_,0,_,.cons r _,e=>by simp at e;subst e;exact{_,rfl,r}|_,_,i+1,x,.cons _ t,e=>by let⟨u,h1,h2⟩:=Vals.get (i:=i) (x:=x) t (by exists e);exact{u,(by exists h1),h2}
theorem Vals.set{x:V}{u:Value}(r:RelV x u):∀{xs:↥V}{us:↥Value}(i:Nat),Vals xs us->Vals (xs.set i x) (us.set i u)|_,_,_,.nil=>.nil|_,_,0,.cons _ t=>.cons r t|_,_,i+1,.cons q t=>.cons q (Vals.set r i t)
theorem Vals.append:∀{xs ys:↥V}{us ws:↥Value},Vals xs us->Vals ys ws->Vals (xs++ys) (us++ws)|_,_,_,_,.nil,s=>s|_,_,_,_,.cons r t,s=>.cons r (Vals.append t s)
theorem Vals.take:∀{xs:↥V}{us:↥Value}(n:Nat),Vals xs us->Vals (xs.take n) (us.take n)|_,_,0,_=>.nil|_,_,_+1,.nil=>.nil|_,_,n+1,.cons r t=>.cons r (Vals.take n t)
theorem Vals.drop:∀{xs:↥V}{us:↥Value}(n:Nat),Vals xs us->Vals (xs.drop n) (us.drop n)|_,_,0,r=>r|_,_,_+1,.nil=>.nil|_,_,n+1,.cons _ t=>Vals.drop n t
def RelO:Option V->Option Value->Prop|some v,↑u=>RelV v u|none,none=>True|_,_=>False
def KV{κ:Type}:↥(κ×V)->↥(κ×Value)->Prop:=Paired λ(p:κ×V) (q:κ×Value)=>p.1=q.1/\RelV p.2 q.2
def kV:Key->V|.inl i=>.int i|.inr x=>.str x
inductive HO where
 |lst (xs:↥V)
 |tup (xs:↥V)
 |dK (kvs:↥(Key×V))|dT (kvs:↥(↥Key×V))
 |set (S:Int->Bool) (n:Nat)
 |ins (C dx:Addr) (fs:↥(Str×V))
 |own (x:Addr)
 |xd (fs:↥(Str×V))
 |met (f x:Addr)
 |rng (lo hi:Int)
 |frz (o:Obj) (u:HO)
 |tbl (ps:Array Value)
 |ext (φ:Heap->Prop)
variable{o:HO}
abbrev Hp:=Addr->Option HO
variable{H H':Hp}{R:V->V->Hp->Prop}
def upd(H:Hp)(a:Addr)(o:HO):Hp:=λb=>if b=a then ↑o else H b
def ah:upd H a o a=!o:=by unfold upd;rw[if_pos rfl]
def aj(h:b≠a):upd H a o b=H b:=by unfold upd;rw[if_neg h]
def MW{u:HO}(h:H a=!o)(h':H b=!u)(d:o≠u):a≠b:=by intro e;subst e;rw[h]at h';exact d (aak h')
def cP(h:H a=!o)(h':H b=none):a≠b:=by intro e;subst e;rw[h]at h';cases h'
section
variable(P:Program)(w:World)
def ObjOk(H:Hp)(h:Heap)(a:Addr):HO->Prop|.lst xs=>xs.length<=sizeLine/\∃(its:↥Value)(n:Nat),Vals xs its/\h.get? a=some {cls:=.type "list",data:=.seq its.toArray n}|.tup xs=>xs.length<=sizeLine/\∃its:↥Value,Vals xs its/\IsTup h a its.toArray|.dK kvs=>kvs.length<=sizeLine/\(a==sysModules)=false/\∃vs,KV kvs vs/\h.DictOf (ay P w) a vs|.dT kvs=>kvs.length<=sizeLine/\(a==sysModules)=false/\∃xs:↥(↥Key×Addr×Value),Paired (λ(p:↥Key×V) (q:↥Key×Addr×Value)=>p.1=q.1/\H q.2.1=!(.tup (p.1.map kV))/\RelV p.2 q.2.2) kvs xs/\ ∃o es ep,h.get? a=!o/\o.ExactDict/\o.data=.dict es ep/\es.toList=xs.map (entryOfKey (tupleKind (ay P w)))/\(xs.map (·.1)).Nodup|.set S n=>h.SetOf (intKind P w) a S n|.ins C dx fs=>H dx=!(.own a)/\fs.length<=1000/\dx≠a/\h.get? a=↑(PySem.W.instObj C dx)/\ ∃mA,h.Ns1 dx mA/\(∀f,RelO (fs.lookup f) (mA f))/\PySem.Within mA (fs.map (·.1))|.own _=>∃o,h.get? a=!o|.xd fs=>∃mA,h.Ns1 a mA/\∀f,RelO (fs.lookup f) (mA f)|.rng lo hi=>∃t u v,h.get? a=some {cls:=.type "range",data:=.fields #[.int lo t,.int hi u,.int 1 v]}|.frz o u=>h.get? a=!o/\ObjOk H h a u|.tbl ps=>h.get? a=some {cls:=.none,data:=.fields ps}|.met f x=>h.get? a=!(PySem.W.methodObj (.ref f) (.ref x))|.ext b=>b h/\(∃o,h.get? a=!o)/\∀h1 h2:Heap,b h1->(∀o,h1.get? a=!o->h2.get? a=!o)->b h2
def HOk(H:Hp)(h:Heap):Prop:=∀a o,H a=!o->ObjOk P w H h a o
end
def ObjOk.lt(x:ObjOk P w H h a o):a<h.1.size:=by cases o with|lst xs=>obtain⟨_,_,_,_,e⟩:=x;exact aaj e|tup xs=>obtain⟨_,_,_,p⟩:=x;exact p.lt|dK kvs=>obtain⟨_,_,_,_,o,_,_,e,_⟩:=x;exact aaj e|dT kvs=>obtain⟨_,_,_,_,o,_,_,e,_⟩:=x;exact aaj e|set S n=>obtain⟨o,_,_,_,e,_⟩:=x;exact aaj e|ins C dx fs=>obtain⟨_,_,_,e,_⟩:=x;exact aaj e|own y=>obtain⟨_,e⟩:=x;exact aaj e|xd fs=>obtain⟨_,⟨_,_,_,e,_⟩,_⟩:=x;exact aaj e|rng lo hi=>obtain⟨_,_,_,e⟩:=x;exact aaj e|frz ob u=>obtain⟨e,_⟩:=x;exact aaj e|tbl ps=>exact aaj (show h.get? a=↑_ from x)|met f y=>exact aaj (show h.get? a=↑_ from x)|ext b=>obtain⟨_,⟨_,e⟩,_⟩:=x;exact aaj e
def Paired.mapP{β:Type}{F G:α->β->Prop}{d:↥α}{c:↥β}(h:Paired F d c)(f:∀a b,F a b->G a b):Paired G d c:=by induction h with|nil=>exact .nil|cons r t e=>exact .cons (f _ _ r) e
def ObjOk.stay(x:ObjOk P w H h a o)(k:∀b u,(b=a∨H b=!(.own a))->h.get? b=!u->h'.get? b=!u)(j:∀b,H b=!(.own a)->H' b=!(.own a))(i:∀b xs,H b=!(.tup xs)->H' b=!(.tup xs)):ObjOk P w H' h' a o:=by induction o with|lst xs=>obtain⟨z,its,n,r,e⟩:=x;exact{z,its,n,r,k _ _ (.inl rfl) e}|tup xs=>obtain⟨z,its,r,ob,e,c⟩:=x;exact{z,its,r,ob,k _ _ (.inl rfl) e,c}|dK kvs=>obtain⟨z,y,vs,r,ob,es,ep,e,c⟩:=x;exact{z,y,vs,r,ob,es,ep,k _ _ (.inl rfl) e,c}|dT kvs=>let⟨z,y,xs,r,ob,es,ep,e,c⟩:=x;exact{z,y,xs,Paired.mapP r λp q z=>{z.1,i _ _ z.2.1,z.2.2},ob,es,ep,k _ _ (.inl rfl) e,c}|set S n=>obtain⟨ob,es,ep,t,e,c⟩:=x;exact{ob,es,ep,t,k _ _ (.inl rfl) e,c}|ins C dx fs=>let⟨d,z,ne,e,mA,⟨od,es,ep,l,c⟩,r⟩:=x;exact{j _ d,z,ne,k _ _ (.inl rfl) e,mA,{od,es,ep,k _ _ (.inr d) l,c},r}|own y=>obtain⟨ob,e⟩:=x;exact{ob,k _ _ (.inl rfl) e}|xd fs=>obtain⟨mA,⟨od,es,ep,e,c⟩,r⟩:=x;exact{mA,{od,es,ep,k _ _ (.inl rfl) e,c},r}|rng lo hi=>obtain⟨t,u,v,e⟩:=x;exact{t,u,v,k _ _ (.inl rfl) e}|frz ob u g=>obtain⟨e,q⟩:=x;exact{k _ _ (.inl rfl) e,g q}|tbl ps=>have e:h.get? a=some {cls:=.none,data:=.fields ps}:=x;show h'.get? a=some {cls:=.none,data:=.fields ps};exact k a _ (.inl rfl) e|met f y=>have e:h.get? a=!(PySem.W.methodObj (.ref f) (.ref y)):=x;show h'.get? a=!(PySem.W.methodObj (.ref f) (.ref y));exact k a _ (.inl rfl) e|ext m=>obtain⟨p,⟨o,e⟩,st⟩:=x;exact{st _ _ p λo q=>k _ _ (.inl rfl) q,{o,k _ _ (.inl rfl) e},st}
def HOk.lt(x:HOk P w H h)(e:H a=!o):a<h.1.size:=-(x a o e).lt
def HOk.fresh(x:HOk P w H h)(e:h.1.size<=a):H a=none:=by cases q:H a with|none=>rfl|some u=>exact absurd (aau (x.lt q) e) (aa2 _)
def HOk.kept(x:HOk P w H h)(k:∀b u,h.get? b=!u->h'.get? b=!u):HOk P w H h':=-λa o e=>(x a o e).stay (λb u _ q=>k b u q) (λ_ q=>q) λ_ _ q=>q
def HOk.laid(x:HOk P w H h)(k:∀b u,h.get? b=!u->h'.get? b=!u)(g:h.1.size<=a)(new:ObjOk P w (upd H a o) h' a o):HOk P w (upd H a o) h':=-λb u e=>by have d:=x.fresh g;by_cases f:b=a;subst f;rw[ah]at e;cases e;exact new;rw[aj f]at e;exact(x b u e).stay (λc v _ q=>k c v q) (λc q=>by rw[aj (cP q d)];exact q) λc xs q=>by rw[aj (cP q d)];exact q
def Rd(H:Hp)(a:Addr)(u:HO):Prop:=H a=↑u∨∃o,H a=!(.frz o u)
def Rd.ok{u:HO}(r:Rd H a u)(x:HOk P w H h):ObjOk P w H h a u:=by rcases r with r|⟨o,r⟩;exact x a u r;let⟨_,q⟩:=x a _ r;exact q
def Mut:Option HO->Prop|some (.lst _)=>True|some (.dK _)=>True|some (.dT _)=>True|some (.set _ _)=>True|some (.ins _ _ _)=>True|some (.ext _)=>True|_=>False
section
variable     {x e:Addr} {o':HO}
def HOk.write(ok:HOk P w H h)(g:Mut (H x))(n:e=x∨H e=!(.own x))(k:∀b u,b≠e->h.get? b=!u->h'.get? b=!u)(l:∃u,h'.get? e=!u)(new:ObjOk P w (upd H x o') h' x o'):HOk P w (upd H x o') h':=-λb u q=>by have d:∀c y,H c=!(.own y)->c≠x:=λc y r z=>by{subst z;rw[r]at g;exact g};have f:∀c xs,H c=!(.tup xs)->c≠x:=λc xs r z=>by{subst z;rw[r]at g;exact g};by_cases j:b=x;subst j;rw[ah]at q;cases q;exact new;rw[aj j]at q;by_cases a:b=e;have m:H b=!(.own x):=by{rcases n with z|z;exact absurd (a.trans z) j;rw[a];exact z};rw[q]at m;cases m;let⟨v,o⟩:=l;exact{v,by rw[a];exact o};refine(ok b u q).stay (λc v i r=>k c v ?_ r) (λc r=>by rw[aj (d c b r)];exact r) λc xs r=>by{rw[aj (f c xs r)];exact r};rcases i with rfl|i;exact a;rintro rfl;rcases n with z|z;exact d c b i z;rw[i]at z;cases z;exact j rfl
end
structure Un(fs ex:↥Addr)(H H':Hp)(h h':Heap):Prop where
 keep:∀b o,h.get? b=!o->H b=none->b∉fs->b∉ex->h'.get? b=!o
 slot:∀b o,h.get? b=!o->H b=none->b∈fs->b∉ex->∃sl,h'.get? b=some {o with slots:=sl}
 free:∀b o,h.get? b=!o->H b=none->b∉ex->H' b=none
 there:∀b o,h.get? b=!o->b∉ex->∃o',h'.get? b=!o'
 tups:∀b xs,H b=!(.tup xs)->H' b=!(.tup xs)
 frzs:∀b o u,H b=!(.frz o u)->H' b=!(.frz o u)
 tbls:∀b ps,H b=!(.tbl ps)->∃more,H' b=!(.tbl (ps++more))
section
variable{fs fs' ex ex':↥Addr}{H1 H2:Hp}{h1 h2:Heap}{x e:Addr}
def Un.any(u:Un fs ex H H1 h h1){ob:Obj}(q:h.get? b=!ob)(n:H b=none)(hx:b∉ex):∃sl,h1.get? b=some {ob with slots:=sl}:=by by_cases a:b∈fs;exact u.slot b ob q n a hx;exact{ob.slots,u.keep b ob q n a hx}
def Un.kept(k:∀b u,h.get? b=!u->h'.get? b=!u):Un fs ex H H h h':=- {λb ob q _ _ _=>k b ob q,λb ob q _ _ _=>{ob.slots,k b ob q},λ_ _ _ n _=>n,λb ob q _=>{ob,k b ob q},λ_ _ q=>q,λ_ _ _ q=>q,λ_ ps q=>{#[],by rw[q];simp}}
def Un.refl:Un fs ex H H h h:=-Un.kept λ_ _ q=>q
theorem Un.laid(k:∀b u,h.get? b=!u->h'.get? b=!u)(hp:h.1.size<=a)(hn:H a=none):Un fs ex H (upd H a o) h h' where
 keep:=λb u q _ _ _=>k b u q
 slot:=λb u q _ _ _=>{u.slots,k b u q}
 free:=λb u q n _=>by rw[aj (aap (aau (aaj q) hp))];exact n
 there:=λb u q _=>{u,k b u q}
 tups:=λb xs q=>by rw[aj (cP q hn)];exact q
 frzs:=λb u xs q=>by rw[aj (cP q hn)];exact q
 tbls:=λb ps q=>{#[],by rw[aj (cP q hn),q];simp}
def Un.write(c:Mut (H x))(j:e=x∨H e=!(.own x))(k:∀b u,b≠e->h.get? b=!u->h'.get? b=!u)(f:∃u,h'.get? e=!u):Un fs ex H (upd H x o) h h':=by have g:∀b,H b=none->b≠x:=λb n z=>by{subst z;rw[n]at c;exact c};have i:∀b,H b=none->b≠e:=λb n z=>by{subst z;rcases j with r|r;exact g b n r;rw[n]at r;cases r};have d:∀b u,H b=!u->¬Mut !u->b≠x:=λb u q nm z=>by{subst z;rw[q]at c;exact nm c};refine{λb u q n _ _=>k b u (i b n) q,λb u q n _ _=>{u.slots,k b u (i b n) q},λb u q n _=>by rw[aj (g b n)];exact n,λb u q _=>?_,λb xs q=>by rw[aj (d b _ q λz=>z)];exact q,λb u xs q=>by rw[aj (d b _ q λz=>z)];exact q,λb ps q=>{#[],by rw[aj (d b _ q λz=>z),q];simp}};by_cases a:b=e;subst a;exact f;exact{u,k b u a q}
end
def trk(h:Heap)(H:Hp):↥Addr:=(List.range h.1.size).filter λa=>(H a).isSome
def xH(h:Heap)(H:Hp):Heap:=PySem.W.hideAll h (trk h H)
def sk(h:Heap)(H:Hp):(xH h H).1.size=h.1.size:=-PySem.W.hideAll_size _ _
def xI{o:Obj}(e:h.get? b=!o)(n:H b=none):(xH h H).get? b=!o:=- PySem.W.hideAll_get _ e λa=>by have q:(H b).isSome=true:=(acb.mp a).2;rw[n]at q;simp at q
def Da{o:Obj}(e:(xH h H).get? b=!o):h.get? b=!o/\H b=none:=by have a:h.get? b=!o:=PySem.W.of_hideAll (trk h H) e;refine{a,?_};cases q:H b with|none=>rfl|some x=>have c:b∈trk h H:=acb.mpr {acw.mpr (aaj a),by simp[q]};have z:(xH h H).get? b=none:=PySem.W.hideAll_none (trk h H) c;rw[z]at e;cases e
def Dc(g h:Heap)(L:Addr):↥(Addr×Obj):=(List.range h.1.size).filterMap λa=>if a=L∨(g.get? a).isSome=true then none else (h.get? a).map λo=>(a,o)
def rest(g h:Heap)(L d:Addr):↥(Addr×Obj):=(Dc g h L).filter λp=>decide (p.1≠d)
structure Mod(K:Frag)(mg:Str->Option Value)(base:Heap):Prop where
 kin:K.In base
 glob:base.Ns mainGlobals mg
 blt:∃mb,base.Ns builtinsNs mb/\∀x:Str,x≠ "__name__" ->mb x=bootBuiltins x
 nolimit:base.NoLimit
structure Cx where
 prog:Program
 w:World
 K:Frag
 mg:Str->Option Value
 base:Heap
 A:Around
 N:↥Str
 s₀:Shared
 H₀:Hp
 env:Env
 outer:↥Env
 stack:↥Env
 ex:↥Addr
 fn:Str->Bool
 calm:Bool
 pn:↥(Addr×Obj)
 xe:Value->Shared->Prop
variable{X:Cx}
def frs(l:↥Env):↥Addr:=l.filterMap (·.frame)
abbrev Cx.fs(X:Cx):↥Addr:=frs X.outer
def Vis(a:Scope)(x:Str):Prop:=a.names.lookup x=↑.local∨a.names.lookup x=↑.cell∨a.names.lookup x=!.free
def Loc(a:Scope)(x:Str):Prop:=a.names.lookup x=↑.local∨a.names.lookup x=!.cell
def Look(env:Env)(h:Heap)(m:Str->Option Value)(x:Str)(u:Value):Prop:=(env.kindOf x=!.local/\m x=!u)∨((env.kindOf x=↑.cell∨env.kindOf x=!.free)/\∃c,env.cells.lookup x=!c/\h.IsCell c !u)
structure Cx.Ok(X:Cx):Prop where
 mod:Mod X.K X.mg X.base
 kind:X.env.scope.kind=.function
 glob:X.env.globals=mainGlobals
 blt:X.env.builtins=builtinsNs
 above:X.s₀.1.1.size<=X.env.locals
 inj:∀x y c,X.env.cells.lookup x=!c->X.env.cells.lookup y=!c->x=y
 has:∀x,(X.env.kindOf x=↑.cell∨X.env.kindOf x=!.free)->∃c,X.env.cells.lookup x=!c
 cab:∀x c,X.fn x=true->X.env.cells.lookup x=!c->X.s₀.1.1.size<=c
 hd:X.calm=true->X.A.handled=none
 frames:X.A.frames=!X.stack
 stk:X.stack=X.outer∨(X.stack=X.env::X.outer/\X.env.frame=!X.env.locals)
 exf:∀b∈X.ex,b≠X.env.locals/\∀x c,X.env.cells.lookup x=!c->c≠b
 bs:∀b o,X.base.get? b=!o->X.s₀.1.get? b=!o/\X.H₀ b=none
 bsz:X.base.1.size<=X.s₀.1.1.size
 noex:∀b o,X.base.get? b=!o->b∉X.ex
 exfs:∀b∈X.ex,b∉X.fs
 funs:X.s₀.1.FunFrames X.base X.outer
 frf:∀b∈X.fs,X.H₀ b=none
structure Inv(X:Cx)(pins:↥(Addr×Obj))(σ:↥(Option V))(H:Hp)(s:Shared):Prop where
 ok:X.Ok
 os:s.os=X.s₀.os
 bare:AllBare s.gens
 base:Un X.fs X.ex X.H₀ H X.s₀.1 s.1
 loc:∃m,s.1.Ns X.env.locals m/\∀(i:Nat)(x:Str)(v:V),X.N[i]?=!x->σ[i]?=!!v->Vis X.env.scope x->∃u,RelV v u/\Look X.env s.1 m x u
 cell:∀x c,X.env.cells.lookup x=!c->∃v,s.1.IsCell c v
 free:H X.env.locals=none
 freeC:∀x c,X.env.cells.lookup x=!c->H c=none
 pin:∀p∈X.pn++pins,s.1.get? p.1=!p.2/\H p.1=none/\p.1≠X.env.locals/\p.1∉X.fs/\∀v,p.2.data≠.cell v
 hok:HOk X.prog X.w H s.1
 len:σ.length=X.N.length
section
variable   {σ:↥(Option V)}
def Cx.Ok.nofr(ok:X.Ok){o:Obj}(e:X.base.get? b=!o):b∉X.fs:=-λa=>by have:=(ok.funs.mem a).1;rw[e]at this;cases this
def Inv.bs(I:Inv X pins σ H s):∀b o,X.base.get? b=!o->s.1.get? b=!o/\H b=none:=-λb o e=>{I.base.keep b o (I.ok.bs b o e).1 (I.ok.bs b o e).2 (I.ok.nofr e) (I.ok.noex b o e),I.base.free b o (I.ok.bs b o e).1 (I.ok.bs b o e).2 (I.ok.noex b o e)}
def Inv.bk(I:Inv X pins σ H s):∀b o,X.base.get? b=!o->s.1.get? b=!o:=-λb o e=>(I.bs b o e).1
def Inv.mod(I:Inv X pins σ H s):Mod X.K X.mg X.base:=-I.ok.mod
def Inv.kIn(I:Inv X pins σ H s):X.K.In s.1:=-I.ok.mod.kin.keeps I.bk
def Inv.lt(I:Inv X pins σ H s):X.env.locals<s.1.1.size:=-let ⟨_,a,_⟩:=I.loc;a.lt
def Inv.sz(I:Inv X pins σ H s):X.s₀.1.1.size<=s.1.1.size:=-aao I.ok.above (acM I.lt)
def Inv.nofs(I:Inv X pins σ H s)(h:s.1.1.size<=a):a∉X.fs:=-λc=>by let⟨_,o,b,_⟩:=I.ok.funs.mem c;exact absurd (aau (aaj b) (aao I.sz h)) (aa2 _)
def Inv.cne(I:Inv X pins σ H s):∀x c,X.env.cells.lookup x=!c->c≠X.env.locals:=-λx c e z=>by let⟨v,o,d,hd⟩:=I.cell x c e;let⟨m,⟨o',es,ep,a,b,_⟩,_⟩:=I.loc;rw[z,a]at d;cases d;rw[b]at hd;cases hd
def Inv.funs(I:Inv X pins σ H s):s.1.FunFrames X.base X.outer:=by have all:∀(l:↥Env),(∀b∈frs l,b∈X.fs)->X.s₀.1.FunFrames X.base l->s.1.FunFrames X.base l:=by{intro l;induction l with|nil=>intro _ _;trivial|cons env r f=>intro hs j;let⟨k,⟨L,o,a,i,g,hd⟩,hr⟩:=j;have d:L∈X.fs:=hs L (by unfold frs;rw[aa8,a];exact aac);let⟨sl,e⟩:=I.base.slot L o g (I.ok.frf L d) d λz=>I.ok.exfs L z d;exact{k,{L,_,a,i,e,hd},f (λb c=>hs b (by unfold frs;rw[aa8,a];exact aad _ c)) hr}};exact all X.outer (λ_ c=>c) I.ok.funs
def Inv.stack(I:Inv X pins σ H s):s.1.FunFrames X.base X.stack:=by rcases I.ok.stk with e|⟨e,b⟩;rw[e];exact I.funs;rw[e];let⟨m,a,_⟩:=I.loc;refine .cons (by rw[I.ok.kind];decide) b a ?_ I.funs;exact Heap.get?_none_of_le (aao I.ok.bsz I.ok.above)
def Inv.stkSub(I:Inv X pins σ H s):∀b∈frs X.stack,b∈X.env.locals::X.fs:=-λb a=>by rcases I.ok.stk with e|⟨e,c⟩;rw[e]at a;exact aad _ a;rw[e]at a;unfold frs at a;rw[aa8,c]at a;exact a
def Inv.stkFree(I:Inv X pins σ H s):∀b∈frs X.stack,H b=none:=-λb a=>by rcases ab2.mp (I.stkSub b a)with e|a;rw[e];exact I.free;let⟨_,o,c,_⟩:=I.ok.funs.mem a;exact I.base.free b o c (I.ok.frf b a) λz=>I.ok.exfs b z a
def Inv.step{g':Array GenState}{t':Nat}{d':Drawn}{ch:↥Addr}(I:Inv X pins σ H s)(g:∀b∈ch,(b∈X.ex∨X.s₀.1.1.size<=b)/\b≠X.env.locals/\(∀x c,X.env.cells.lookup x=!c->c≠b)/\∀p∈X.pn++pins,p.1≠b)(keep:∀b o,b≠X.env.locals->b∉X.fs->b∉ch->s.1.get? b=!o->H b=none->h'.get? b=!o)(slot:∀b o,b≠X.env.locals->b∈X.fs->b∉ch->s.1.get? b=!o->H b=none->∃sl,h'.get? b=some {o with slots:=sl})(free:∀b o,b∉ch->s.1.get? b=!o->H b=none->H' b=none)(there:∀b o,b∉ch->s.1.get? b=!o->∃o',h'.get? b=!o')(tups:∀b xs,H b=!(.tup xs)->H' b=!(.tup xs))(frzs:∀b o u,H b=!(.frz o u)->H' b=!(.frz o u))(tbls:∀b ps,H b=!(.tbl ps)->∃more,H' b=!(.tbl (ps++more)))(ns:∀m,s.1.Ns X.env.locals m->h'.Ns X.env.locals m)(hok:HOk X.prog X.w H' h')(M:AllBare g'):Inv X pins σ H' {s with heap:=h',gens:=g',drawn:=d',toks:=t'}:=by have B:∀b o,X.s₀.1.get? b=!o->b≠X.env.locals:=λb o e=>aap (aau (aaj e) I.ok.above);have t:∀b o,X.s₀.1.get? b=!o->b∉X.ex->b∉ch:=λb o e a y=>by{rcases (g b y).1 with z|z;exact a z;exact absurd (aau (aaj e) z) (aa2 _)};have j:∀x c,X.env.cells.lookup x=!c->∀v,s.1.IsCell c v->h'.IsCell c v:=λx c e v {(o),A,hd}=>by{have f:c∉ch:=λz=>(g c z).2.2.1 x c e rfl;by_cases G:c∈X.fs;let⟨sl,q⟩:=slot c o (I.cne x c e) G f A (I.freeC x c e);exact{_,q,hd};exact{o,keep c o (I.cne x c e) G f A (I.freeC x c e),hd}};refine{I.ok,I.os,M,{λb o e n y a=>?_,λb o e n y a=>?_,λb o e n a=>?_,λb o e a=>?_,λb xs e=>tups b xs (I.base.tups b xs e),λb o xs e=>frzs b o xs (I.base.frzs b o xs e),λb ps e=>?_},?_,λx c e=>?_,?_,λx c e=>?_,λp F=>?_,hok,I.len};exact keep b o (B b o e) y (t b o e a) (I.base.keep b o e n y a) (I.base.free b o e n a);let⟨sl,w⟩:=I.base.slot b o e n y a;let⟨D,C⟩:=slot b _ (B b o e) y (t b o e a) w (I.base.free b o e n a);exact{(D),C};let⟨o',w⟩:=I.base.there b o e a;exact free b o' (t b o e a) w (I.base.free b o e n a);let⟨o',w⟩:=I.base.there b o e a;exact there b o' (t b o e a) w;let⟨J,w⟩:=I.base.tbls b ps e;let⟨m2,C⟩:=tbls b _ w;exact{J++m2,by rw[C,Array.append_assoc]};let⟨m,K,L⟩:=I.loc;refine{m,ns m K,λi x v w C N=>?_};let⟨u,r,l⟩:=L i x v w C N;refine{u,r,?_};rcases l with l|⟨k,c,e,z⟩;exact .inl l;exact .inr {k,c,e,j x c e _ z};let⟨v,z⟩:=I.cell x c e;exact{v,j x c e v z};let⟨m,⟨o,_,_,A,_⟩,_⟩:=I.loc;exact free _ o (λz=>(g _ z).2.1 rfl) A I.free;let⟨v,o,A,hd⟩:=I.cell x c e;exact free c o (λz=>(g c z).2.2.1 x c e rfl) A (I.freeC x c e);let⟨e,n,ne,E,d⟩:=I.pin p F;have f:p.1∉ch:=λz=>(g p.1 z).2.2.2 p F rfl;exact{keep p.1 p.2 ne E f e n,free p.1 p.2 f e n,ne,E,d}
def Inv.un(I:Inv X pins σ H s)(u:Un X.fs [] H H' s.1 h')(hok:HOk X.prog X.w H' h'):Inv X pins σ H' {s with heap:=h',toks:=t'}:=by let⟨m,⟨o,es,ep,g,r⟩,_⟩:=id I.loc;let⟨sl,j⟩:=u.any g I.free (by simp);exact I.step (g':=s.gens) (d':=s.drawn) (ch:=[]) (λ_ z=>nomatch z) (λb o _ c _ e n=>u.keep b o e n c (by simp)) (λb o _ c _ e n=>u.slot b o e n c (by simp)) (λb o _ e n=>u.free b o e n (by simp)) (λb o _ e=>u.there b o e (by simp)) u.tups u.frzs u.tbls (λk i=>by let⟨o',d,f,a,r'⟩:=i;rw[g]at a;cases a;exact{_,d,f,j,r'}) hok I.bare
def Inv.call{g':Array GenState}{d':Drawn}(I:Inv X pins σ H s)(u:Un (frs X.stack) ch H H' s.1 h')(hok:HOk X.prog X.w H' h')(q:AllBare g')(f:∀b∈ch,(b∈X.ex∨X.s₀.1.1.size<=b)/\b≠X.env.locals/\(∀x c,X.env.cells.lookup x=!c->c≠b)/\∀p∈X.pn++pins,p.1≠b):Inv X pins σ H' {s with heap:=h',gens:=g',drawn:=d',toks:=t'}:=by let⟨m,⟨o,es,ep,k,r⟩,_⟩:=id I.loc;let⟨sl,g⟩:=u.any k I.free λz=>(f _ z).2.1 rfl;exact I.step (ch:=ch) f (λb o g t a e n=>u.keep b o e n (λz=>(ab2.mp (I.stkSub b z)).elim g t) a) (λb o _ _ a e n=>u.any e n a) (λb o a e n=>u.free b o e n a) (λb o a e=>u.there b o e a) u.tups u.frzs u.tbls (λv l=>by let⟨o',i,j,d,r'⟩:=l;rw[k]at d;cases d;exact{_,i,j,g,r'}) hok q
def Inv.turned(I:Inv X pins σ H s)(k:∀b o,b≠it->s.1.get? b=!o->h'.get? b=!o)(i:H it=none)(f:it≠X.env.locals)
  (h1:it∈X.ex∨X.s₀.1.1.size<=it) (h2:∀x c,X.env.cells.lookup x=!c->c≠it) (t:∀p∈X.pn++pins,p.1≠it):Inv X pins σ H {s with heap:=h',toks:=t'}:=by
 have d:∀b u,H b=!u->b≠it:=λb u e z=>by rw[z,i]at e;cases e
 refine I.step (g':=s.gens) (d':=s.drawn) (ch:=[it]) (λb l=>?_) (λb o _ _ a e _=>k b o (λz=>a (by simp[z])) e) (λb o _ _ a e _=>{o.slots,k b o (λz=>a (by simp[z])) e}) (λ_ _ _ _ n=>n)
  (λb o a e=>{o,k b o (λz=>a (by simp[z])) e}) (λ_ _ e=>e) (λ_ _ _ e=>e) (λb ps e=>{#[],by rw[e];simp}) (λm j=>?_) (λb u e=>?_) I.bare
 .have e:b=it:=(by exists l);subst e;exact{(h1),f,h2,t}
 .let⟨o,es,ep,g,r⟩:=j;exact{o,es,ep,k _ o (abC f) g,r}
 .refine(I.hok b u e).stay (λc v a q=>k c v ?_ q) (λ_ q=>q) λ_ _ q=>q;rcases a with z|z
  .rw[z];exact d b u e
  .exact d c _ z
def Inv.tok(I:Inv X pins σ H s)(t:Nat):Inv X pins σ H {s with toks:=t}:=-I.un (h':=s.1) (t':=t) Un.refl I.hok
def Inv.kept(I:Inv X pins σ H s)(k:∀b u,s.1.get? b=!u->h'.get? b=!u):Inv X pins σ H {s with heap:=h',toks:=t'}:=-I.un (Un.kept k) (I.hok.kept k)
def Inv.laid(I:Inv X pins σ H s)(k:∀b u,s.1.get? b=!u->h'.get? b=!u)(c:s.1.1.size<=a)(new:ObjOk X.prog X.w (upd H a o) h' a o):Inv X pins σ (upd H a o) {s with heap:=h',toks:=t'}:=-I.un (Un.laid k c (I.hok.fresh c)) (I.hok.laid k c new)
def Inv.write{x e:Addr}(I:Inv X pins σ H s)(c:Mut (H x))(d:e=x∨H e=!(.own x))(k:∀b u,b≠e->s.1.get? b=!u->h'.get? b=!u)(a:∃u,h'.get? e=!u)(new:ObjOk X.prog X.w (upd H x o) h' x o):Inv X pins σ (upd H x o) {s with heap:=h',toks:=t'}:=-I.un (Un.write c d k a) (I.hok.write c d k a new)
def Inv.pins_of{a:↥(Addr×Obj)}(I:Inv X pins σ H s)(h:∀p∈a,s.1.get? p.1=!p.2/\H p.1=none/\p.1≠X.env.locals/\p.1∉X.fs/\∀v,p.2.data≠.cell v):Inv X a σ H s:=- {I.ok,I.os,I.bare,I.base,I.loc,I.cell,I.free,I.freeC,λp b=>(abS.mp b).elim (λz=>I.pin p (aax _ z)) (h p),I.hok,I.len}
def oE(c:N.Nodup)(a:N[i]?=!x)(b:N[j]?=!x):i=j:=by let⟨h1,e⟩:=abT.mp a;let⟨h2,d⟩:=abT.mp b;exact(List.getElem_inj c).mp (e.trans d.symm)
def lE{M:Model}{Q:Unit->Shared->Prop}(I:Inv X pins σ H s)(hN:X.N.Nodup)(hi:X.N[i]?=!x)(hx:Loc X.env.scope x)(r:RelV v u)(h:∀s',Inv X pins (σ.set i !v) H s'->(∃a,Heap.SameBut a s.1 s'.1/\(a=X.env.locals∨X.env.cells.lookup x=!a))->Q PUnit.unit s')(hf:autoParam (X.fn x=true∨X.env.scope.names.lookup x=!.local) _L.aF._auto_1):wpAny M A (storeName X.env x u) Q E s:=by let⟨m,Z,hl⟩:=id I.loc;have L:(X.env.scope.kind==.class||(X.env.scope.kind==.module&&X.env.locals !=X.env.globals))=false:=by{rw[I.ok.kind];rfl};have C:i<σ.length:=by{rw[I.len];exact(abT.mp hi).1};have cne:=I.cne;have f:∀{a:Addr}{h':Heap},(∃o,s.1.get? a=!o/\H a=none)->Heap.SameBut a s.1 h'->HOk X.prog X.w H h':=fun {a h'} ha hs b ob e=>by{let⟨_,_,t⟩:=ha;refine(I.hok b ob e).stay (λc P l q=>(hs.2 c ?_).trans q) (λ_ q=>q) λ_ _ q=>q;rintro rfl;rcases l with rfl|l;rw[t]at e;cases e;rw[t]at l;cases l};rcases hx with B|B;refine wpAny_storeName_local B Z (λh' Y hs=>?_) L;let⟨oL,_,_,W,_⟩:=id Z;refine h _ {I.ok,I.os,I.bare,{λb o e n G hx=>?_,λb o e n G hx=>?_,I.base.free,λb o e hx=>?_,I.base.tups,I.base.frzs,I.base.tbls},{_,Y,λj y S g w e3=>?_},λy c e=>?_,I.free,I.freeC,λp V=>?_,f {(oL),W,I.free} hs,by simpa using I.len} {_,hs,.inl rfl};exact(hs.2 b (aap (aau (aaj e) I.ok.above))).trans (I.base.keep b o e n G hx);let⟨sl,g⟩:=I.base.slot b o e n G hx;exact{sl,(hs.2 b (aap (aau (aaj e) I.ok.above))).trans g};let⟨o',g⟩:=I.base.there b o e hx;exact{o',(hs.2 b (aap (aau (aaj e) I.ok.above))).trans g};by_cases D:j=i;subst D;rw[hi]at g;cases g;rw[acj C]at w;cases w;exact{u,r,.inl {B,by simp}};rw[ack (abC D)]at w;let⟨T,r',q⟩:=hl j y S g w e3;refine{T,r',?_};rcases q with ⟨k,e⟩|⟨k,c,e,z⟩;refine .inl {k,?_};have:y≠x:=λe=>D (oE hN g (e ▸ hi));simp[this,e];exact .inr {k,c,e,z.sameBut hs (cne y c e)};let⟨P,z⟩:=I.cell y c e;exact{P,z.sameBut hs (cne y c e)};let⟨e,n,ne,U,d⟩:=I.pin p V;exact{(hs.2 p.1 ne).trans e,n,ne,U,d};have F:X.fn x=true:=by{rcases hf with z|z;exact z;rw[z]at B;cases B};let⟨c,l⟩:=I.ok.has x (.inl B);let⟨P,z⟩:=I.cell x c l;refine wpAny_storeName_cell I.ok.kind B l z (λh' O hs=>?_);let⟨oc,K,J⟩:=id z;refine h {s with heap:=h'} {I.ok,I.os,I.bare,{λb o e n G hx=>?_,λb o e n G hx=>?_,I.base.free,λb o e hx=>?_,I.base.tups,I.base.frzs,I.base.tbls},{m,Z.sameBut hs (abC (cne x c l)),λj y S g w e3=>?_},λy R e=>?_,I.free,I.freeC,λp V=>?_,f {oc,K,I.freeC x c l} hs,by simpa using I.len} {c,hs,.inr l};exact(hs.2 b (aap (aau (aaj e) (I.ok.cab x c F l)))).trans (I.base.keep b o e n G hx);let⟨sl,g⟩:=I.base.slot b o e n G hx;exact{sl,(hs.2 b (aap (aau (aaj e) (I.ok.cab x c F l)))).trans g};let⟨o',g⟩:=I.base.there b o e hx;exact{o',(hs.2 b (aap (aau (aaj e) (I.ok.cab x c F l)))).trans g};by_cases D:j=i;subst D;rw[hi]at g;cases g;rw[acj C]at w;cases w;exact{u,r,.inr {.inl B,c,l,O}};rw[ack (abC D)]at w;let⟨T,r',q⟩:=hl j y S g w e3;refine{T,r',?_};rcases q with q|⟨k,R,e,z'⟩;exact .inl q;refine .inr {k,R,e,z'.sameBut hs ?_};rintro rfl;exact D (oE hN g (I.ok.inj _ _ _ e l ▸ hi));by_cases N:R=c;subst N;exact{_,O};let⟨w2,z2⟩:=I.cell y R e;exact{w2,z2.sameBut hs N};let⟨e,n,ne,U,d⟩:=I.pin p V;refine{(hs.2 p.1 ?_).trans e,n,ne,U,d};intro q;rw[q,K]at e;have q':oc=p.2:=aak e;exact d P (by rw[←q'];exact J)
def oF{M:Model}{Q:Unit->Shared->Prop}(I:Inv X pins σ H s)(b:X.N.Nodup)(hi:X.N[i]?=!x)(hx:Loc X.env.scope x)(r:RelV v u)(h:∀s',Inv X pins (σ.set i !v) H s'->Q PUnit.unit s')(a:autoParam (X.fn x=true∨X.env.scope.names.lookup x=!.local) _L.aF._auto_1):wpAny M A (storeName X.env x u) Q E s:=- lE I b hi hx r (λs' c _=>h s' c) a
def Inv.call'(I:Inv X pins σ H s)(d:s'.os=s.os)(u:Un (frs X.stack) ch H H' s.1 s'.1)(hok:HOk X.prog X.w H' s'.1)(f:AllBare s'.gens)(a:∀b∈ch,(b∈X.ex∨X.s₀.1.1.size<=b)/\b≠X.env.locals/\(∀x c,X.env.cells.lookup x=!c->c≠b)/\∀p∈X.pn++pins,p.1≠b):Inv X pins σ H' s':=by let⟨h',g',g,t',o'⟩:=s';have e:o'=s.os:=d;subst e;exact I.call (g':=g') (t':=t') (d':=g) u hok f a
end
abbrev XK:=Value->Option Addr->Hp->Prop
abbrev St:=↥(Option V)
variable{σ:St}
abbrev VK:=V->Hp->Prop
abbrev TE:=St->Hp->VK->Prop
variable{ta tb te tl:TE}
abbrev TT:=St->Hp->(Bool->Hp->Prop)->Prop
variable{tc:TT}
abbrev TA:=St->Hp->(↥V->Hp->Prop)->Prop
variable{t:TA}
structure Ends where
 nx:St->Hp->Prop
 rt:VK
 bk:St->Hp->Prop:=λ_ _=>False
 ct:St->Hp->Prop:=λ_ _=>False
abbrev TS:=Ends->St->Hp->Prop
def EP(X:Cx)(pins:↥(Addr×Obj))(σ:St)(Q:VK)(u:Value)(s':Shared):Prop:=∃v H',Inv X pins σ H' s'/\RelV v u/\Q v H'
def TP(X:Cx)(pins:↥(Addr×Obj))(σ:St)(Q:Bool->Hp->Prop)(b:Bool)(s':Shared):Prop:=∃H',Inv X pins σ H' s'/\Q b H'
def AP(X:Cx)(pins:↥(Addr×Obj))(σ:St)(Q:↥V->Hp->Prop)(us:↥Value)(s':Shared):Prop:=∃vs H',Inv X pins σ H' s'/\Vals vs us/\Q vs H'
def SP(X:Cx)(pins:↥(Addr×Obj))(D:Ends)(f:Flow)(s':Shared):Prop:=match f with|.next=>∃a H',Inv X pins a H' s'/\D.nx a H'|.brk=>∃a H',Inv X pins a H' s'/\D.bk a H'|.cont=>∃a H',Inv X pins a H' s'/\D.ct a H'|.ret u=>∃v a H',Inv X pins a H' s'/\RelV v u/\D.rt v H'
def PE(X:Cx)(e:Expr)(t:TE):Prop:=∀(pins:↥(Addr×Obj))(s:Shared)(σ:St)(H:Hp)(Q:VK),Inv X pins σ H s->t σ H Q->wpAny (model X.prog X.w) X.A (eval e X.env) (EP X pins σ Q) X.xe s
def PT(X:Cx)(e:Expr)(t:TT):Prop:=∀(pins:↥(Addr×Obj))(s:Shared)(σ:St)(H:Hp)(Q:Bool->Hp->Prop),Inv X pins σ H s->t σ H Q->wpAny (model X.prog X.w) X.A (isTrue e X.env (eval e X.env)) (TP X pins σ Q) X.xe s
def PW(X:Cx)(e:Expr)(t:TT):Prop:=∀(whole:Sem Value)(pins:↥(Addr×Obj))(s:Shared)(σ:St)(H:Hp)(Q:Bool->Hp->Prop),Inv X pins σ H s->t σ H Q->wpAny (model X.prog X.w) X.A (isTrue e X.env whole) (TP X pins σ Q) X.xe s
def PW.pt{t:TT}(h:PW X e t):PT X e t:=-h _
def PA(X:Cx)(es:↥Expr)(t:TA):Prop:=∀(pos:Pos)(pins:↥(Addr×Obj))(s:Shared)(σ:St)(H:Hp)(Q:↥V->Hp->Prop),Inv X pins σ H s->t σ H Q->wpAny (model X.prog X.w) X.A (spliced (backTo pos (starEach es X.env))) (AP X pins σ Q) X.xe s
def PS(X:Cx)(st:Stmt)(t:TS):Prop:=∀(pins:↥(Addr×Obj))(s:Shared)(σ:St)(H:Hp)(D:Ends),Inv X pins σ H s->t D σ H->wpAny (model X.prog X.w) X.A (exec st X.env) (SP X pins D) X.xe s
def PSs(X:Cx)(st:↥Stmt)(t:TS):Prop:=∀(pins:↥(Addr×Obj))(s:Shared)(σ:St)(H:Hp)(D:Ends),Inv X pins σ H s->t D σ H->wpAny (model X.prog X.w) X.A (execs st X.env) (SP X pins D) X.xe s
def thn{t:Sem α}{Q Q':α->Shared->Prop}{M:Model}(h:wpAny M A t Q E s)(b:∀a s,Q a s->Q' a s):wpAny M A t Q' E s:=-abz h b λ_ _ x=>x
section
def bin{a b:Expr}(o:PE X a ta)(n:PE X b tb)(I:Inv X pins σ H s)(h:ta σ H λx H1=>tb σ H1 λy H2=>R x y H2){Q:α->Shared->Prop}{f:Value->Value->Sem α}(m:∀v u e x y H2,Inv X pins σ H2 e->RelV x v->RelV y u->R x y H2->wpAny (model X.prog X.w) X.A (f v u) Q X.xe e):wpAny (model X.prog X.w) X.A (eval a X.env) (λv d=>wpAny (model X.prog X.w) X.A (eval b X.env) (λu c=>wpAny (model X.prog X.w) X.A (f v u) Q X.xe c) X.xe d) X.xe s:=by refine thn (o pins s σ H _ I h) λv g z=>?_;let⟨x,H1,q,j,l⟩:=z;refine thn (n pins g σ H1 _ q l) λu e t=>?_;let⟨y,H2,p,i,k⟩:=t;exact m v u e x y H2 p j i k
def da(i:Nat):TE:=λσ H Q=>∃v,σ[i]?=!!v/\Q v H
def tC(v:V):TE:=λ_ H Q=>Q v H
def HY(o:X.N[i]?=!x)(g:Vis X.env.scope x)(hd:autoParam ((x==("__debug__":Str))=false) _L.aD._auto_1)(d:autoParam ((x==("__classdict__":Str))=false) _L.aD._auto_1):PE X (.Name x pos) (da i):=by intro pins s σ H Q I h;let⟨v,e,h⟩:=h;let⟨m,j,n⟩:=I.loc;let⟨u,r,l⟩:=n i x v o e g;have fin:EP X pins σ Q u s:={(v),H,I,r,h};rcases l with ⟨b,k⟩|⟨b,c,f,a⟩;exact wpAny_Name (wpAny_loadName_local I.ok.kind b j k fin) hd;rcases b with b|b;exact wpAny_Name (wpAny_loadName_cell I.ok.kind b f a fin) hd;exact wpAny_Name (wpAny_loadName_free I.ok.kind b f a fin d) hd
def HZ{i j pos}:PE X (.Constant (.int i) j pos) (tC (.int i)):=-λ_ _ _ H _ I h=>wpAny_Constant_int {.int i,H,I.tok _,{_,rfl},h}
def MX{b j pos}:PE X (.Constant (.bool b) j pos) (tC (.bl b)):=-λ_ _ _ H _ I h=>Constant_bool {.bl b,H,I,rfl,h}
def Ia{j pos}:PE X (.Constant .none j pos) (tC .non):=-λ_ _ _ H _ I h=>Constant_none {.non,H,I,rfl,h}
def Ib{x j pos}:PE X (.Constant (.str x) j pos) (tC (.str x)):=-λ_ _ _ H _ I h=>Calls.Constant_str {.str x,H,I.tok _,{_,rfl},h}
def Gl(X:Cx)(x:Str):Prop:=X.env.kindOf x=!.globalImplicit
def nk(I:Inv X pins σ H s)(b:Gl X x)(a:X.mg x=!u)(h:Q u s)(hd:autoParam ((x==("__debug__":Str))=false) _L.aD._auto_1):wpAny (model X.prog X.w) X.A (eval (.Name x pos) X.env) Q E s:=- Calls.Name_function_global I.ok.kind b (Calls.loadGlobal_global (by rw[I.ok.glob];exact I.mod.glob.keeps I.bk) a h) hd
def iD(I:Inv X pins σ H s)(d:Gl X x)(c:X.mg x=none)(a:bootBuiltins x=!u)(h:Q u s)(b:autoParam (x≠ "__name__") _L.aD._auto_1)(hd:autoParam ((x==("__debug__":Str))=false) _L.aD._auto_1):wpAny (model X.prog X.w) X.A (eval (.Name x pos) X.env) Q E s:=by let⟨e,h1,h2⟩:=I.mod.blt;exact Calls.Name_function_global I.ok.kind d (Calls.loadGlobal_builtin (by rw[I.ok.glob];exact I.mod.glob.keeps I.bk) c (by rw[I.ok.blt];exact h1.keeps I.bk) ((h2 x b).trans a) h) hd
def Dd(b:Gl X x)(a:X.mg x=!u)(r:RelV v u)(hd:autoParam ((x==("__debug__":Str))=false) _L.aD._auto_1):PE X (.Name x pos) (tC v):=- λ_ _ _ H _ I h=>nk I b a {(v),H,I,r,h} hd
def De(d:Gl X x)(c:X.mg x=none)(a:bootBuiltins x=!u)(r:RelV v u)(b:autoParam (x≠ "__name__") _L.aD._auto_1)(hd:autoParam ((x==("__debug__":Str))=false) _L.aD._auto_1):PE X (.Name x pos) (tC v):=- λ_ _ _ H _ I h=>iD I d c a {(v),H,I,r,h} b hd
variable{a b:Expr}
def PC(X:Cx)(op:CmpOp)(a b:Expr)(t:TE):Prop:=∀(pins:↥(Addr×Obj))(s:Shared)(σ:St)(H:Hp)(Q:VK),Inv X pins σ H s->t σ H Q ->wpAny (model X.prog X.w) X.A (eval a X.env) (λv d=>wpAny (model X.prog X.w) X.A (eval b X.env) (λu c=>wpAny (model X.prog X.w) X.A (compareOp op v u) (EP X pins σ Q) X.xe c) X.xe d) X.xe s
def tB(t:TE):TT:=λσ H Q=>t σ H λx H1=>∃c,x=.bl c/\Q c H1
def OR{t:TE}(h:PC X op a b t)(h1:behindInMarks op b=false:=by first|exact e _ (by decide) (by decide)|rfl):PT X (.Compare a [op] [b] pos) (tB t):=by intro pins s σ H Q I i;refine wpAny_isTrue_Compare1 (thn (h pins s σ H _ I i) λv m h1=>thn h1 λu l h2=>thn h2 λc k y=>?_) h1;let⟨x,H1,j,f,g⟩:=y;let⟨d,rfl,q⟩:=g;cases f;exact aaN {(H1),j,q}
def Ic{t:TE}(h:PE X e t)(f:autoParam (∀whole,isTrue e X.env whole=(do let v ← whole;standAt e.pos;holding [v] (truthy v))) _L.aI._auto_1):PT X e (tB t):=by intro pins s σ H Q I c;refine isTrue_plain (thn (h pins s σ H _ I c) λv i y=>?_) (f _);let⟨x,H1,g,a,b⟩:=y;let⟨d,rfl,q⟩:=b;cases a;exact aaN {(H1),g,q}
variable{tA tB':TT}{rest:↥Expr}
def MY(t u:TT):TT:=λσ H Q=>t σ H λc H1=>if c=true then u σ H1 Q else Q false H1
def tOr(t u:TT):TT:=λσ H Q=>t σ H λc H1=>if c=true then Q true H1 else u σ H1 Q
def MZ(t:TT):TT:=λσ H Q=>t σ H λc H1=>Q (⇑c) H1
def Dg(b:PT X a tA):PW X (.BoolOp .And [a] pos) tA:=by intro d pins s σ H Q I h;refine isTrue_and (thn (b pins s σ H Q I h) λc f e=>?_);cases c with|true=>exact isTrue_and_nil e|false=>exact e
def Ie(b:PT X a tA):PW X (.BoolOp .Or [a] pos) tA:=by intro d pins s σ H Q I h;refine isTrue_or (thn (b pins s σ H Q I h) λc f e=>?_);cases c with|false=>exact isTrue_or_nil e|true=>exact e
def Ig(j:PT X a tA)(i:PW X (.BoolOp .And (b::rest) pos) tB'):PW X (.BoolOp .And (a::b::rest) pos) (MY tA tB'):=by intro f pins s σ H Q I h;refine isTrue_and (thn (j pins s σ H _ I h) λc g y=>?_);let⟨H1,e,d⟩:=y;cases c with|true=>exact i f pins g σ H1 Q e d|false=>exact{(H1),e,d}
def M0(j:PT X a tA)(i:PW X (.BoolOp .Or (b::rest) pos) tB'):PW X (.BoolOp .Or (a::b::rest) pos) (tOr tA tB'):=by intro f pins s σ H Q I h;refine isTrue_or (thn (j pins s σ H _ I h) λc g y=>?_);let⟨H1,e,d⟩:=y;cases c with|true=>exact{(H1),e,d}|false=>exact i f pins g σ H1 Q e d
def Ih(b:PT X a tA):PT X (.UnaryOp .Not a pos) (MZ tA):=by intro pins s σ H Q I h;exact isTrue_not (b pins s σ H (λc H1=>Q (⇑c) H1) I h)
def Dh(ta tb:TE):TE:=λσ H Q=>ta σ H λx H1=>∃c,x=.bl c/\if c=true then tb σ H1 Q else Q (.bl false) H1
def M2(ta tb:TE):TE:=λσ H Q=>ta σ H λx H1=>∃c,x=.bl c/\if c=true then Q (.bl true) H1 else tb σ H1 Q
def Di(ta:TE):TE:=λσ H Q=>ta σ H λx H1=>∃c,x=.bl c/\Q (.bl (⇑c)) H1
def Ii{op}{t:TE}(h:PE X a t):PE X (.BoolOp op [a] pos) t:=-λpins s σ H Q I b=>BoolOp_one (h pins s σ H Q I b)
def Ij(j:PE X a ta)(i:PE X (.BoolOp .And (b::rest) pos) tb):PE X (.BoolOp .And (a::b::rest) pos) (Dh ta tb):=by intro pins s σ H Q I h;refine BoolOp_and (thn (j pins s σ H _ I h) λv f y=>?_);let⟨x,H1,e,g,d⟩:=y;let⟨c,rfl,d⟩:=d;cases g;refine aaN ?_;cases c with|true=>exact i pins f σ H1 Q e d|false=>exact{.bl false,H1,e,rfl,d}
def M3(j:PE X a ta)(i:PE X (.BoolOp .Or (b::rest) pos) tb):PE X (.BoolOp .Or (a::b::rest) pos) (M2 ta tb):=by intro pins s σ H Q I h;refine BoolOp_or (thn (j pins s σ H _ I h) λv f y=>?_);let⟨x,H1,e,g,d⟩:=y;let⟨c,rfl,d⟩:=d;cases g;refine aaN ?_;cases c with|false=>exact i pins f σ H1 Q e d|true=>exact{.bl true,H1,e,rfl,d}
def Ik(e:PE X a ta):PE X (.UnaryOp .Not a pos) (Di ta):=by intro pins s σ H Q I h;refine UnaryOp_ (thn (e pins s σ H _ I h) λv g y=>?_);let⟨x,H1,f,d,b⟩:=y;let⟨c,rfl,b⟩:=b;cases d;exact not_of (aaN {.bl (⇑c),H1,f,rfl,b})
def tIf(t:TT)(ta tb:TE):TE:=λσ H Q=>t σ H λc H1=>if c=true then ta σ H1 Q else tb σ H1 Q
def xJ(i:PT X c tA)(k:PE X a ta)(j:PE X b tb):PE X (.IfExp c a b pos) (tIf tA ta tb):=by intro pins s σ H Q I h;refine wpAny_IfExp (thn (i pins s σ H _ I h) λd e y=>?_);let⟨H1,g,f⟩:=y;cases d with|true=>exact k pins e σ H1 Q g f|false=>exact j pins e σ H1 Q g f
end
def SqL(K:Frag)(H:Hp)(a:Addr)(xs:↥V):Prop:=Rd H a (.lst xs)∨∃(o:Obj)(its:Array Value)(n:Nat),K.lookup a=!o/\o.cls=.type "list" /\ o.dict=none/\o.data=.seq its n/\its.size<=sizeLine/\Vals xs its.toList
def SqT(K:Frag)(H:Hp)(a:Addr)(xs:↥V):Prop:=Rd H a (.tup xs)∨∃(o:Obj)(its:Array Value)(n:Nat),K.lookup a=!o/\o.cls=.type "tuple" /\ o.data=.seq its n/\its.size<=sizeLine/\Vals xs its.toList
def absV:Value->Option V|.none=>!.non|.bool b=>!(.bl b)|.int i _=>!(.int i)|.str x _=>!(.str x)|.bytes b _=>!(.byt b)|.float b _=>!(.flt b)|.ref a=>!(.ref a)|.type n=>!(.ty n)|_=>none
def RelV.abs{x:V}(r:RelV x u):absV u=!x:=by cases x with|non=>cases r;rfl|bl _=>cases r;rfl|int _=>obtain⟨t,rfl⟩:=r;rfl|str _=>obtain⟨t,rfl⟩:=r;rfl|byt _=>obtain⟨t,rfl⟩:=r;rfl|flt _=>obtain⟨t,rfl⟩:=r;rfl|ref _=>cases r;rfl|ty _=>cases r;rfl
def RelV.inj{x y:V}{u:Value}(r:RelV x u)(q:RelV y u):x=y:=-aak (r.abs.symm.trans q.abs)
def Vals.inj{xs ys:↥V}{us:↥Value}(h:Vals xs us)(h':Vals ys us):xs=ys:=by induction h generalizing ys with|nil=>cases h';rfl|cons r t a=>cases h' with|cons r' t'=>rw[r.inj r',a t']
section
variable       {ys:↥V}
def SqL.of{K:Frag}(h:H a=!(.lst xs)):SqL K H a xs:=-.inl (.inl h)
def SqT.of{K:Frag}(h:H a=!(.tup xs)):SqT K H a xs:=-.inl (.inl h)
def Inv.list(I:Inv X pins σ H s)(h:SqL X.K H a xs):∃its:↥Value,Vals xs its/\PlainL s.1 a its.toArray/\xs.length<=sizeLine:=by rcases h with h|⟨o,its,n,b,c,hd,hs,d,r⟩;let⟨z,its,n,r,e⟩:=h.ok I.hok;exact{its,r,{_,n,e,rfl,rfl,rfl},z};refine{its.toList,r,{o,n,I.kIn a o b,c,hd,(by exists hs)},?_};have e:=r.length;simp only[Array.length_toList]at e;nofun
def Inv.tuple(I:Inv X pins σ H s)(h:SqT X.K H a xs):∃its:↥Value,Vals xs its/\IsTup s.1 a its.toArray/\xs.length<=sizeLine:=by rcases h with h|⟨o,its,n,b,c,hs,d,r⟩;let⟨z,its,r,p⟩:=h.ok I.hok;exact{(its),r,p,z};refine{its.toList,r,{o,I.kIn a o b,c,n,(by exists hs)},?_};have e:=r.length;simp only[Array.length_toList]at e;nofun
def Inv.list_inj(I:Inv X pins σ H s)(h:SqL X.K H a xs)(h':SqL X.K H a ys):xs=ys:=by let⟨its,r,⟨o,n,e,_,_,d⟩,_⟩:=I.list h;let⟨its',r',⟨o',g,b,_,_,c⟩,_⟩:=I.list h';rw[e]at b;cases b;rw[d]at c;injection c with f _;have:its=its':=by{simpa using congrArg Array.toList f};subst this;exact r.inj r'
def Inv.tuple_inj(I:Inv X pins σ H s)(h:SqT X.K H a xs)(h':SqT X.K H a ys):xs=ys:=by let⟨its,r,⟨o,e,_,n,d⟩,_⟩:=I.tuple h;let⟨its',r',⟨o',b,_,g,c⟩,_⟩:=I.tuple h';rw[e]at b;cases b;rw[d]at c;injection c with f _;have:its=its':=by{simpa using congrArg Array.toList f};subst this;exact r.inj r'
end
abbrev Cx.wish(X:Cx)(E:Value->Shared->Prop):Cx:={X with xe:=E}
abbrev Cx.nox(X:Cx):Cx:=X.wish λ_ _=>False
def Cx.Ok.wish(ok:X.Ok)(E:Value->Shared->Prop):(X.wish E).Ok:=- {(ok.mod),ok.kind,ok.glob,ok.blt,ok.above,ok.inj,ok.has,ok.cab,ok.hd,ok.frames,ok.stk,ok.exf,ok.bs,ok.bsz,ok.noex,ok.exfs,ok.funs,ok.frf}
def Cx.Ok.unwish(ok:(X.wish E).Ok):X.Ok:=- {(ok.mod),ok.kind,ok.glob,ok.blt,ok.above,ok.inj,ok.has,ok.cab,ok.hd,ok.frames,ok.stk,ok.exf,ok.bs,ok.bsz,ok.noex,ok.exfs,ok.funs,ok.frf}
def Inv.wish(I:Inv X pins σ H s)(E:Value->Shared->Prop):Inv (X.wish E) pins σ H s:=-{I.ok.wish E,I.os,I.bare,I.base,I.loc,I.cell,I.free,I.freeC,I.pin,I.hok,I.len}
def Inv.unwish(I:Inv (X.wish E) pins σ H s):Inv X pins σ H s:=-{(I.ok.unwish),I.os,I.bare,I.base,I.loc,I.cell,I.free,I.freeC,I.pin,I.hok,I.len}
def SP.unwish{D:Ends}{f:Flow}(h:SP (X.wish E) pins D f s'):SP X pins D f s':=by cases f with|next=>obtain⟨a,H',I,q⟩:=h;exact{(a),H',I.unwish,q}|brk=>obtain⟨a,H',I,q⟩:=h;exact{(a),H',I.unwish,q}|cont=>obtain⟨a,H',I,q⟩:=h;exact{(a),H',I.unwish,q}|ret u=>obtain⟨v,a,H',I,r,q⟩:=h;exact{(v),a,H',I.unwish,r,q}
def PSs.nox{st:↥Stmt}{t:TS}(h:PSs X.nox st t):PSs X st t:=-λpins s σ H D I a=>abz (h pins s σ H D (I.wish _) a) (λ_ _ q=>q.unwish) λ_ _ z=>faa z
section
variable  {st:Stmt} {rest:↥Stmt} {t u:TS}
def Dj:TS:=λD σ H=>D.nx σ H
def M4(t u:TS):TS:=λD σ H=>t {D with nx:=u D} σ H
def Dk:PSs X [] Dj:=-λ_ _ σ H _ I h=>wpAny_execs_nil {(σ),H,I,h}
def xK(h1:PS X st t)(h2:PSs X rest u):PSs X (st::rest) (M4 t u):=by intro pins s σ H D I h;refine wpAny_execs_cons (thn (h1 pins s σ H {D with nx:=u D} I h) λf b q=>?_);cases f with|next=>let⟨a,H',c,q⟩:=q;exact h2 pins b a H' D c q|ret v=>exact q|brk=>exact q|cont=>exact q
def Dl(h1:PS X st t):PSs X [st] t:=by intro pins s σ H D I h;refine wpAny_execs_cons (thn (h1 pins s σ H D I h) λf a q=>?_);cases f with|next=>exact wpAny_execs_nil q|ret v=>exact q|brk=>exact q|cont=>exact q
def sn:TS:=λD σ H=>D.bk σ H
def Dm:TS:=λD σ H=>D.ct σ H
def xL:PS X (.Break pos) sn:=-λ_ _ σ H _ I h=>wpAny_Break {(σ),H,I,h}
def nq:PS X (.Continue pos) Dm:=-λ_ _ σ H _ I h=>wpAny_Continue {(σ),H,I,h}
def Inv.quiet(I:Inv X pins σ H s):interactive X.env=false:=by simp[interactive,I.ok.kind]
def xM(te:TE):TS:=λD σ H=>te σ H λ_ H1=>D.nx σ H1
def Dn(b:PE X e te)(hs:autoParam (swapsWith e none pos.line X.env=pure false) _L.aR._auto_1):PS X (.Expr e pos) (xM te):=by intro pins s σ H D I h;exact wpAny_Expr_any (thn (b pins s σ H _ I h) λv d {(x),H1,c,f,a}=>{(σ),H1,c,a}) I.quiet hs
def M5(te:TE):TS:=λD σ H=>te σ H D.rt
def Il(c:PE X e te):PS X (.Return ↑e pos) (M5 te):=by intro pins s σ H D I h;exact wpAny_Return_some (thn (c pins s σ H _ I h) λv f {(x),H1,d,a,b}=>{(x),σ,H1,d,a,b})
def Do:TS:=λD _ H=>D.rt .non H
def Dp:PS X (.Return none pos) Do:=-λ_ _ σ H _ I h=>wpAny_Return_none {.non,σ,H,I,rfl,h}
def M6(c:TT)(t u:TS):TS:=λD σ H=>c σ H λb H1=>if b=true then t D σ H1 else u D σ H1
def M7{a b:↥Stmt}(i:PT X c tc)(k:PSs X a t)(j:PSs X b u):PS X (.If c a b pos) (M6 tc t u):=by intro pins s σ H D I h;refine wpAny_If (thn (i pins s σ H _ I h) λd e y=>?_);let⟨H1,g,f⟩:=y;cases d with|true=>exact k pins e σ H1 D g f|false=>exact j pins e σ H1 D g f
def so:TS:=λ_ _ _=>False
def xN:PS X st so:=-λ_ _ _ _ _ _ h=>h.elim
end
abbrev TG:=V->St->Hp->(St->Hp->Prop)->Prop
abbrev TGs:=↥V->St->Hp->(St->Hp->Prop)->Prop
def PG(X:Cx)(target:Expr)(t:TG):Prop:=∀(pins:↥(Addr×Obj))(s:Shared)(σ:St)(H:Hp)(v:V)(u:Value)(Q:St->Hp->Prop),Inv X pins σ H s->RelV v u->t v σ H Q ->wpAny (model X.prog X.w) X.A (assign target X.env u) (λ_ s'=>∃a H',Inv X pins a H' s'/\Q a H') X.xe s
def PGs(X:Cx)(b:↥Expr)(t:TGs):Prop:=∀(pins:↥(Addr×Obj))(s:Shared)(σ:St)(H:Hp)(vs:↥V)(us:↥Value)(Q:St->Hp->Prop),Inv X pins σ H s->Vals vs us->t vs σ H Q ->wpAny (model X.prog X.w) X.A (assignInOrder ((assignEach b X.env).map (·.2)) us) (λ_ s'=>∃a H',Inv X pins a H' s'/\Q a H') X.xe s
abbrev M8:=V->V->V->Hp->(Hp->Prop)->Prop
def OS(X:Cx)(t:M8):Prop:=∀(pins:↥(Addr×Obj))(s:Shared)(σ:St)(H:Hp)(o i v:V)(ov a u:Value)(Q:Hp->Prop),Inv X pins σ H s->RelV o ov->RelV i a->RelV v u->t o i v H Q ->wpAny (model X.prog X.w) X.A (setItem ov a u) (λ_ s'=>∃H',Inv X pins σ H' s'/\Q H') X.xe s
def fG(i:Nat):TG:=λv σ H Q=>Q (σ.set i !v) H
def Dq(b:X.N.Nodup)(hi:X.N[i]?=!x)(hx:Loc X.env.scope x)(a:autoParam (X.fn x=true∨X.env.scope.names.lookup x=!.local) _L.aF._auto_1):PG X (.Name x pos) (fG i):=by intro pins s σ H v u Q I r h;exact wpAny_assign_Name (oF I b hi hx r (λs' c=>{_,H,c,h}) a)
def MD:TGs:=λvs σ H Q=>vs=[]/\Q σ H
def qD(t:TG)(u:TGs):TGs:=λvs σ H Q=>∃v r,vs=v::r/\t v σ H λa H'=>u r a H' Q
def Dr:PGs X [] MD:=by intro pins s σ H vs us Q I r h;let⟨e,h⟩:=h;subst e;cases r;exact assignInOrder_nil {(σ),H,I,h}
def xO{t:TG}{u:TGs}(h1:PG X e t)(h2:PGs X es u)(hs:autoParam ((assignEach (e::es) X.env).map (·.2)=assign e X.env::(assignEach es X.env).map (·.2)) _L.aR._auto_1):PGs X (e::es) (qD t u):=by intro pins s σ H vs us Q I r h;let⟨v,i,f,h⟩:=h;subst f;cases r with|cons r c=>rw[hs];refine assignInOrder_cons (thn (h1 pins s σ H _ _ _ I r h) λ_ b y=>?_);let⟨a,H1,g,d⟩:=y;exact h2 pins b a H1 _ _ Q g c d
def Im(K:Frag)(n:Nat)(t:TGs):TG:=λv σ H Q=>∃a xs,v=.ref a/\SqT K H a xs/\xs.length=n/\t xs σ H Q
def Io{t:TGs}(p:X.calm=true)(h:PGs X es t)(l:autoParam ((assignEach es X.env).length=n) _L.aR._auto_1)(d:autoParam ((assignEach es X.env).findIdx? (·.1)=none) _L.aR._auto_1):PG X (.Tuple es k pos) (Im X.K n t):=by intro pins s σ H v u Q I r c;let⟨a,xs,q,j,m,c⟩:=c;subst q;cases r;let⟨its,f,i,x⟩:=I.tuple j;refine assign_Tuple_tuple (I.ok.hd p) i (by simp[l,←m,f.length]) d λh' g=>?_;have w:Inv X pins σ H {s with heap:=h'}:=I.kept (t':=s.toks) λb o e=>g b o (aap (aaj e)) e;exact h pins _ σ H xs _ Q w (by exists f) c
def M9(to ti:TE)(t:M8):TG:=λv σ H Q=>to σ H λo H1=>ti σ H1 λi H2=>t o i v H2 λa=>Q σ a
def Ip{o i:Expr}{to ti:TE}{t:M8}(k:PE X o to)(hi:PE X i ti)(hs:OS X t)
  (l:autoParam (∀v,assign (.Subscript o i pos) X.env v=(do
   let ov ← holding [v] (eval o X.env)
   let a ← holding [v,ov] (eval i X.env)
   standAt pos
   holding [v,ov,a] (setItem ov a v)
   release [v,ov,a] [])) _L.aI._auto_1):PG X (.Subscript o i pos) (M9 to ti t):=by
 intro pins s σ H v u Q I r h;rw[l];refine aaa (aaT (thn (k pins s σ H _ I h) λov c z=>?_));let⟨x,H1,p,e,j⟩:=z;refine aaa (aaT (thn (hi pins c σ H1 _ p j) λa b A=>?_));let⟨y,H2,n,d,g⟩:=A;refine aaa (wpAny_standAt (aaa (aaT (thn (hs pins b σ H2 x y v ov a u _ n e d r g) λ_ w B=>?_))));let⟨q,m,f⟩:=B;exact wpAny_release {(σ),q,m,f}
def qE(te:TE)(g:TG):TS:=λD σ H=>te σ H λx H1=>g x σ H1 D.nx
def Iq{g:TG}(i:PE X e te)(f:PG X tg g)(hs:autoParam (swapsWithSole [tg] e pos.line X.env=pure false) _L.aR._auto_1)(d:autoParam (swappedStores [tg] e X.env=pure none) _L.aR._auto_1)(h1:autoParam ((assignEach [tg] X.env).map (·.2)=[assign tg X.env]) _L.aR._auto_1):PS X (.Assign [tg] e pos) (qE te g):=by intro pins s σ H D I h;refine wpAny_Assign_stores (thn (i pins s σ H _ I h) λv a y=>?_) hs d;let⟨x,H1,j,b,c⟩:=y;rw[h1];exact thn (f pins a σ H1 x v _ j b c) λ_ k q=>q
def Ir(f:X.N.Nodup)(hi:X.N[i]?=!x)(hx:Loc X.env.scope x)(d:PE X e te)(hs:autoParam (swapsWith e ↑(.Name x pos') pos.line X.env=pure false) _L.aR._auto_1)(c:autoParam (X.fn x=true∨X.env.scope.names.lookup x=!.local) _L.aF._auto_1):PS X (.Assign [.Name x pos'] e pos) (qE te (fG i)):=by intro pins s σ H D I h;refine wpAny_Assign_Name (thn (d pins s σ H _ I h) λv l z=>?_) hs;let⟨y,H1,j,a,b⟩:=z;exact oF j f hi hx a (λk g=>{_,H1,g,b}) c
def sq(c:TT)(tb:TS):TS:=λD σ H=>∃W:Nat->St->Hp->Prop,(∃m,W m σ H)/\∀m σ H,W m σ H ->c σ H λb H1=>if b=true then ∃N:St->Hp->Prop,(∀a H',N a H'->∃d,d<m/\W d a H')/\tb {D with nx:=N,ct:=N,bk:=D.nx} σ H1 else D.nx σ H1
def xP{tb:TS}(r:PassesOwn (model X.prog X.w) X.A X.env X.xe)(B:PT X c tc)(C:PSs X body tb):PS X (.While c body [] pos) (sq tc tb):=by intro pins s σ H D I h;let⟨W,⟨A,x⟩,g⟩:=h;refine wpAny_While (codeAny_whileLoop (λn s'=>∃e H',Inv X pins e H' s'/\W n e H') ?_ A {(σ),H,I,x});rintro n z ⟨d,H1,E,w⟩;refine abm r (thn (B pins z d H1 _ E (g n d H1 w)) λb y G=>?_);let⟨H2,u,k⟩:=G;cases b with|true=>{let⟨N,t,k⟩:=k;rw[if_pos rfl];refine abm r (thn (C pins y d H2 _ u k) λf F j=>?_);cases f with|next=>let⟨a,i,q,m⟩:=j;let⟨o,p,l⟩:=t a i m;exact{(o),p,a,i,q,l}|cont=>let⟨a,i,q,m⟩:=j;let⟨o,p,l⟩:=t a i m;exact{(o),p,a,i,q,l}|brk=>exact j|ret v=>exact j}|false=>rw[if_neg ab3];exact wpAny_execs_nil {(d),H2,u,k}
structure It where
 go:Nat->Hp->Prop
 yld:Nat->Hp->V->Hp->Prop
 stop:Nat->Hp->Prop
def sr(X:Cx)(pins:↥(Addr×Obj))(H:Hp)(b:Addr):Prop:=H b=none/\b≠X.env.locals/\b∉X.fs/\(b∈X.ex∨X.s₀.1.1.size<=b)/\(∀x c,X.env.cells.lookup x=!c->c≠b)/\∀p∈X.pn++pins,p.1≠b
def Inv.fpOk(I:Inv X pins σ H s)(a:s.1.1.size<=b)(f:H' b=none):sr X pins H' b:=by refine{f,Nat.ne_of_gt (aau I.lt a),I.nofs a,.inr (aao I.sz a),λx c e z=>?_,λp d z=>?_};let⟨v,q⟩:=I.cell x c e;exact absurd (aau q.lt (by rw[z];exact a)) (aa2 _);exact absurd (aau (aaj (I.pin p d).1) (by rw[z];exact a)) (aa2 _)
structure Turn(P:Program)(w:World)(K:Frag)(tg:Expr)(J:It)(fp:↥Addr)(it:Addr)(tn:Nat->Heap->Prop):Prop where
 mem:it∈fp
 obj:∀i h,tn i h->∀b∈fp,∃o,h.get? b=!o/\∀v,o.data≠.cell v
 keep:∀i h h',tn i h->(∀b∈fp,∀o,h.get? b=!o->h'.get? b=!o)->tn i h'
 item:∀(X:Cx),X.prog=P->X.w=w->X.K=K->X.calm=true->∀(i:Nat)(pins:↥(Addr×Obj))(s:Shared)(σ:St)(H:Hp)(E:Value->Shared->Prop),Inv X pins σ H s->(∀b∈fp,sr X pins H b)->tn i s.1->J.go i H ->
  wpAny (model P w) X.A (pyNext (.ref it)) (λr s1=>∃u,r=↑u/\
   wpAny (model P w) X.A (letOwnedTupleGo tg (.ref it) u) (λ_ s2=>∃x H',Inv X pins σ H' s2/\RelV x u/\J.yld i H x H'/\tn (i+1) s2.1/\∀b∈fp,H' b=none) E s1) E s
 done:∀(X:Cx),X.prog=P->X.w=w->X.K=K->X.calm=true->∀(i:Nat)(pins:↥(Addr×Obj))(s:Shared)(σ:St)(H:Hp)(E:Value->Shared->Prop),Inv X pins σ H s->(∀b∈fp,sr X pins H b)->tn i s.1->J.stop i H ->
  wpAny (model P w) X.A (pyNext (.ref it)) (λr s1=>r=none/\Inv X pins σ H s1) E s
 self:∀(A:Around)(i:Nat)(s:Shared)(Q:Value->Shared->Prop)(E:Value->Shared->Prop),tn i s.1->Q (.ref it) s->wpAny (model P w) A (pyIter (.ref it)) Q E s
abbrev TI:=St->Hp->(It->Hp->Prop)->Prop
def PIE(X:Cx)(pins:↥(Addr×Obj))(σ:St)(tg:Expr)(R:It->Hp->Prop)(a:Value)(c:Shared):Prop:=∃(it:Addr)(fp:↥Addr)(tn:Nat->Heap->Prop)(J:It)(H':Hp),a=.ref it/\Inv X pins σ H' c/\Turn X.prog X.w X.K tg J fp it tn/\tn 0 c.1/\(∀b∈fp,sr X pins H' b)/\R J H'
def PI(X:Cx)(tg iter:Expr)(wi:TI):Prop:=∀(pins:↥(Addr×Obj))(s:Shared)(σ:St)(H:Hp)(R:It->Hp->Prop),Inv X pins σ H s->wi σ H R ->wpAny (model X.prog X.w) X.A (eval iter X.env) (λv a=>wpAny (model X.prog X.w) X.A (pyIter v) (PIE X pins σ tg R) X.xe a) X.xe s
def iE{M:Model}{o:Obj}{n:String}{vs:Array Value}{Q:Unit->Shared->Prop}(b:s.1.get? it=!o)(d:o.cls=.type n)(hd:o.data=.fields vs)
    (c:["enumerate", "zip", "dict_itemiterator", "dict_reverseitemiterator", "odict_iterator", "itertools.zip_longest", "itertools.pairwise"].contains n=false) (a:Q PUnit.unit s):wpAny M A (letOwnedTupleGo tg (.ref it) u) Q E s:=by
  unfold letOwnedTupleGo
  cases tg <;> first
    |exact aaf a
    | (cases u <;> first
        |exact aaf a
        | (refine aaa (wpAny_load b ?_)
           rw[d,hd];show wpAny M A (if (["enumerate", "zip", "dict_itemiterator", "dict_reverseitemiterator", "odict_iterator", "itertools.zip_longest", "itertools.pairwise"].contains n&&vs[0]?==!(rawInt _))=true then _ else _) Q E s;rw[if_neg (by intro h;rw[c,Bool.false_and]at h;cases h)];exact aaf a))
def Itl(K:Frag)(a:Addr):It:={λi H=>∃xs x,SqL K H a xs/\xs[i]?=!x,λi H x H'=>H'=H/\∀xs,SqL K H a xs->xs[i]?=!x,λi H=>∃xs,SqL K H a xs/\xs.length<=i}
def Itt(K:Frag)(a:Addr):It:={λi H=>∃xs x,SqT K H a xs/\xs[i]?=!x,λi H x H'=>H'=H/\∀xs,SqT K H a xs->xs[i]?=!x,λi H=>∃xs,SqT K H a xs/\xs.length<=i}
def Itr(lo:Int)(n:Nat):It:={λi _=>i<n,λi H x H'=>H'=H/\x=.int (lo+i),λi _=>n<=i}
theorem su{K:Frag}(a it:Addr):Turn P w K tg (Itl K a) [it] it (λi h=>h.IsListIter it a i) where
 mem:=by simp
 obj:=λi h st b hb=>by
  have e:b=it:=(by exists hb);subst e;let⟨o,e,c,d⟩:=st;exact{o,e,λv z=>by rw[d]at z;cases z}
 keep:=λi h h' st k=>st.at λo e=>k it (by simp) o e
 item:=by
  intro X hP hw hK hc i pins s σ H E I hf st hg;subst hP hw hK;let⟨xs,x,hq,hx⟩:=hg;let⟨its,rv,p,hz⟩:=I.list hq;let⟨u,hu,ru⟩:=rv.get hx;let⟨f0,f1,f2,f3,f4,f5⟩:=hf it (by simp);refine wpAny_pyNext_list_item st p.isList (x:=u) (by exists hu) λh' st' sb=>?_;have I1:Inv X pins σ H {s with heap:=h'}:=I.turned (t':=s.toks) (λb o hb e=>(sb.2 b hb).trans e) f0 f1 f3 f4 f5;let⟨o,e,c,d⟩:=id st';exact{u,rfl,iE (s:={s with heap:=h'}) e c d (by decide) {x,H,I1,ru,{rfl,λys hy=>by rw[I.list_inj hy hq];exact hx},st',λb hb=>(hf b hb).1}}
 done:=by
  intro X hP hw hK hc i pins s σ H E I hf st hg;subst hP hw hK;let⟨xs,hq,hx⟩:=hg;let⟨its,rv,p,hz⟩:=I.list hq;let⟨f0,f1,f2,f3,f4,f5⟩:=hf it (by simp);have hl:=rv.length;exact wpAny_pyNext_list_end (I.ok.hd hc) st p.isList (by simp;nofun) λh' eb=>{rfl,I.turned (t':=s.toks) (λb o hb e=>eb b o hb e) f0 f1 f3 f4 f5}
 self:=λ_ _ _ _ _ st h=>wpAny_pyIter_listiter st h
theorem qF{K:Frag}(a it:Addr):Turn P w K tg (Itt K a) [it] it (λi h=>h.IsTupleIter it a i) where
 mem:=by simp
 obj:=λi h st b hb=>by
  have e:b=it:=(by exists hb);subst e;let⟨o,e,c,d⟩:=st;exact{o,e,λv z=>by rw[d]at z;cases z}
 keep:=λi h h' st k=>st.at λo e=>k it (by simp) o e
 item:=by
  intro X hP hw hK hc i pins s σ H E I hf st hg;subst hP hw hK;let⟨xs,x,hq,hx⟩:=hg;let⟨its,rv,p,hz⟩:=I.tuple hq;let⟨u,hu,ru⟩:=rv.get hx;let⟨f0,f1,f2,f3,f4,f5⟩:=hf it (by simp);refine wpAny_pyNext_tuple_item st (show s.1.IsTuple a its.toArray from p) (x:=u) (by exists hu) λh' st' sb=>?_;have I1:Inv X pins σ H {s with heap:=h'}:=I.turned (t':=s.toks) (λb o hb e=>(sb.2 b hb).trans e) f0 f1 f3 f4 f5;let⟨o,e,c,d⟩:=id st';exact{u,rfl,iE (s:={s with heap:=h'}) e c d (by decide) {x,H,I1,ru,{rfl,λys hy=>by rw[I.tuple_inj hy hq];exact hx},st',λb hb=>(hf b hb).1}}
 done:=by
  intro X hP hw hK hc i pins s σ H E I hf st hg;subst hP hw hK;let⟨xs,hq,hx⟩:=hg;let⟨its,rv,p,hz⟩:=I.tuple hq;let⟨f0,f1,f2,f3,f4,f5⟩:=hf it (by simp);have hl:=rv.length;exact wpAny_pyNext_tuple_end (I.ok.hd hc) st (show s.1.IsTuple a its.toArray from p) (by simp;nofun) λh' eb=>{rfl,I.turned (t':=s.toks) (λb o hb e=>eb b o hb e) f0 f1 f3 f4 f5}
 self:=λ_ _ _ _ _ st h=>wpAny_pyIter_tupleiter st h
theorem qG{K:Frag}(it:Addr)(lo:Int)(n:Nat):Turn P w K tg (Itr lo n) [it] it (λi h=>IsRangeIter h it (lo+(i:Nat)*1) ((n:Int) - (i:Nat)) 1) where
 mem:=by simp
 obj:=λi h st b hb=>by
  have e:b=it:=(by exists hb);subst e
  exact{_,st,λv z=>by
   have z':Data.fields _=Data.cell v:=z;cases z'}
 keep:=λi h h' st k=>k it (by simp) _ st
 item:=by
  intro X hP hw hK hc i pins s σ H E I hf st hg;subst hP hw hK;let⟨f0,f1,f2,f3,f4,f5⟩:=hf it (by simp);have W:=Walks.range (prog:=X.prog) (w:=X.w) (I.ok.hd hc) it lo 1 n;refine W.item i s _ _ hg st λv h' tk hv st' kk=>?_;let⟨t,rfl⟩:=hv;have I1:Inv X pins σ H {s with heap:=h',toks:=tk}:=I.turned (λb o hb e=>kk b o (by exists hb) e) f0 f1 f3 f4 f5;refine{_,rfl,iE (s:={s with heap:=h',toks:=tk}) (n:="range_iterator") st' rfl rfl (by decide) {.int (lo+i),H,I1,{t,?_},{(rfl),rfl},st',λb hb=>(hf b hb).1}};rw[Int.mul_one]
 done:=by
  intro X hP hw hK hc i pins s σ H E I hf st hg;subst hP hw hK;let⟨f0,f1,f2,f3,f4,f5⟩:=hf it (by simp);exact wpAny_pyNext_range_end (I.ok.hd hc) st (by have:n<=i:=hg;nofun) λh' eb=>{rfl,I.turned (t':=s.toks) (λb o hb e=>eb b o hb e) f0 f1 f3 f4 f5}
 self:=λ_ _ _ _ _ st h=>wpAny_pyIter_rangeiter st h
def nu(K:Frag)(tl:TE):TI:=λσ H R=>tl σ H λx H1=>∃a,x=.ref a/\(∃xs,SqL K H1 a xs)/\R (Itl K a) H1
def ME(K:Frag)(tl:TE):TI:=λσ H R=>tl σ H λx H1=>∃a,x=.ref a/\(∃xs,SqT K H1 a xs)/\R (Itt K a) H1
def Ds(j:PE X l tl):PI X tg l (nu X.K tl):=by intro pins s σ H R I h;refine thn (j pins s σ H _ I h) λv c y=>?_;let⟨x,H1,d,f,g⟩:=y;let⟨a,e,⟨xs,i⟩,q⟩:=g;subst e;cases f;let⟨its,m,p,n⟩:=d.list i;refine wpAny_pyIter_list p.isList ?_;refine{c.1.1.size,[c.1.1.size],_,_,H1,rfl,d.kept (t':=c.toks) λb o e=>abV _ e,su a _,{_,ab0 _ rfl,rfl,rfl},λb k=>?_,q};have e:b=c.1.1.size:=(by exists k);subst e;exact d.fpOk (aab _) (d.hok.fresh (aab _))
def Iu(j:PE X l tl):PI X tg l (ME X.K tl):=by intro pins s σ H R I h;refine thn (j pins s σ H _ I h) λv c y=>?_;let⟨x,H1,d,f,g⟩:=y;let⟨a,e,⟨xs,i⟩,q⟩:=g;subst e;cases f;let⟨its,m,p,n⟩:=d.tuple i;refine wpAny_pyIter_tuple (show c.1.IsTuple a its.toArray from p) ?_;refine{c.1.1.size,[c.1.1.size],_,_,H1,rfl,d.kept (t':=c.toks) λb o e=>abV _ e,qF a _,{_,ab0 _ rfl,rfl,rfl},λb k=>?_,q};have e:b=c.1.1.size:=(by exists k);subst e;exact d.fpOk (aab _) (d.hok.fresh (aab _))
def oG{R:It->Hp->Prop}{lo hi:Int}{t u v:Tok}{tk:Nat}(I:Inv X pins σ H s)(h1:-(2 ^ 62)<=lo)(h2:lo<2 ^ 62)(f:-(2 ^ 62)<=hi)(d:hi<2 ^ 62)(q:R (Itr lo (hi - lo).toNat) H):wpAny (model X.prog X.w) X.A (pyIter (.ref s.1.1.size)) (PIE X pins σ tg R) E {s with heap:=s.1.push {cls:=.type "range",data:=.fields #[.int lo t,.int hi u,.int 1 v]},toks:=tk}:=by refine wpAny_pyIter_range (IsRange.new ..) (small_one h1 h2 f d) ?_;have a:Inv X pins σ H {s with heap:=s.1.push {cls:=.type "range",data:=.fields #[.int lo t,.int hi u,.int 1 v]},toks:=tk}:=I.kept λb o e=>abV _ e;refine{(s.1.push {cls:=.type "range",data:=.fields #[.int lo t,.int hi u,.int 1 v]}).1.size,[(s.1.push {cls:=.type "range",data:=.fields #[.int lo t,.int hi u,.int 1 v]}).1.size],_,_,H,rfl,a.kept (t':=tk) λb o e=>abV _ e,qG _ lo (hi - lo).toNat,?_,λb c=>?_,q};have i:lo+((0:Nat):Int)*1=lo:=by{simp};have g:(((hi - lo).toNat:Nat):Int) - ((0:Nat):Int)=Builtin.Range.rangeSize lo hi 1:=by{rw[rangeSize_one];split<;>nofun};show IsRangeIter _ _ (lo+((0:Nat):Int)*1) ((((hi - lo).toNat:Nat):Int) - ((0:Nat):Int)) 1;rw[i,g];exact ab0 _ rfl;have e:b=(s.1.push {cls:=.type "range",data:=.fields #[.int lo t,.int hi u,.int 1 v]}).1.size:=(by exists c);subst e;exact a.fpOk (aab _) (a.hok.fresh (aab _))
def Dt(ta:TA):TI:=λσ H R=>ta σ H λvs H1=>∃j:Int,vs=[.int j]/\-(2 ^ 62)<=j/\j<2 ^ 62/\R (Itr 0 j.toNat) H1
def Du(ta:TA):TI:=λσ H R=>ta σ H λvs H1=>∃i j:Int,vs=[.int i,.int j]/\(-(2 ^ 62)<=i/\i<2 ^ 62/\-(2 ^ 62)<=j/\j<2 ^ 62)/\R (Itr i (j - i).toNat) H1
def sv{a:Expr}{ta:TA}(i:Gl X "range")(g:X.mg "range"=none)(k:PA X [a] ta)(hs:autoParam (starEach [a] X.env=[(false,eval a X.env)]) _L.aR._auto_1):PI X tg (.Call (.Name "range" p) [a] [] pos) (Dt ta):=by intro pins s σ H R I h;refine Call_ (iD I i g boot_range (aa7 (thn (k pos pins s σ H _ I h) λus m y=>?_) hs rfl));let⟨vs,H1,l,d,b⟩:=y;let⟨j,e,b,f,q⟩:=b;subst e;cases d with|cons r c=>cases c;let⟨t,rfl⟩:=r;exact call_range_1 (oG l () () b f (by exists q))
def sx{a b:Expr}{ta:TA}(o:Gl X "range")(n:X.mg "range"=none)(u:PA X [a,b] ta)(hs:autoParam (starEach [a,b] X.env=[(false,eval a X.env),(false,eval b X.env)]) _L.aR._auto_1)(c:autoParam (starEach [b] X.env=[(false,eval b X.env)]) _L.aR._auto_1):PI X tg (.Call (.Name "range" p) [a,b] [] pos) (Du ta):=by intro pins s σ H R I h;refine Call_ (iD I o n boot_range (aa7 (thn (u pos pins s σ H _ I h) λus w y=>?_) (by rw[hs,c]) (by rw[c];rfl)));let⟨vs,H1,v,g,f⟩:=y;let⟨i,j,e,⟨f,m,l,k⟩,q⟩:=f;subst e;cases g with|cons r d=>cases d with|cons r' d=>cases d;let⟨t,rfl⟩:=r;let⟨t',rfl⟩:=r';exact call_range_2 (oG v f m l k q)
def Na(wi:TI)(g:TG)(tb:TS):TS:=λD σ H=>wi σ H λJ H1=>∃W:Nat->Nat->St->Hp->Prop,(∃m,W 0 m σ H1)/\∀i m σ H,W i m σ H ->(J.stop i H/\D.nx σ H)∨(J.go i H/\∃N:St->Hp->Prop,(∀a H',N a H'->∃c,c<m/\W (i+1) c a H')/\∀x H',J.yld i H x H'->g x σ H' λb H2=>tb {D with nx:=N,ct:=N,bk:=D.nx} b H2)
def jP(fp:↥Addr)(h:Heap):↥(Addr×Obj):=fp.filterMap λb=>(h.get? b).map λo=>(b,o)
def fw{o:Obj}(a:b∈fp)(e:h.get? b=!o):(b,o)∈jP fp h:=-acN.mpr {b,a,by rw[e];rfl}
def sy{p:Addr×Obj}(a:p∈jP fp h):p.1∈fp/\h.get? p.1=!p.2:=by let⟨b,c,e⟩:=acN.mp a;cases q:h.get? b with|none=>rw[q]at e;cases e|some o=>rw[q]at e;have d:(b,o)=p:=aak e;subst d;exact{(c),q}
def Inv.pinned(I:Inv X pins σ H s)(i:∀b∈fp,sr X pins H b)(g:∀b∈fp,∃o,s.1.get? b=!o/\∀v,o.data≠.cell v):Inv X (pins++jP fp s.1) σ H s:=- I.pins_of λp f=>(abS.mp f).elim (λz=>I.pin p (aal _ z)) λz=>by let⟨a,e⟩:=sy z;let⟨j,f1,f2,_⟩:=i p.1 a;let⟨o,c,d⟩:=g p.1 a;rw[e]at c;cases c;exact{(e),j,f1,f2,d}
def Inv.unpinned{pl:↥(Addr×Obj)}(I:Inv X (pins++pl) σ H s):Inv X pins σ H s:=-I.pins_of λp a=>I.pin p (aal _ (aax _ a))
def Iv{iter:Expr}{wi:TI}{g:TG}{tb:TS}(E:PassesOwn (model X.prog X.w) X.A X.env X.xe)(Z:X.calm=true)(hi:PI X tg iter wi)(hg:PG X tg g)(l:PSs X body tb)(hs:autoParam (∀x,foldedSetIterable iter X.env x=pure x) _L.aI._auto_1):PS X (.For tg iter body [] pos) (Na wi g tb):=by intro pins s σ H D I h;refine wpAny_For (thn (hi pins s σ H _ I h) λv s1 h1=>thn h1 λitv s2 h2=>?_) hs;let⟨it,fp,tn,J,H2,e,I2,T,O,f2,W,⟨m0,w0⟩,z⟩:=h2;subst e;have k:∀{H':Hp},(∀b∈fp,H' b=none)->∀b∈fp,sr X pins H' b:=λhn b l=>{hn b l,(f2 b l).2};refine codeAny_forLoop_any (λn s'=>∃i j H',Inv X pins j H' s'/\tn i s'.1/\(∀b∈fp,H' b=none)/\W i n j H') ?_ m0 {0,σ,H2,I2,O,λb l=>(f2 b l).1,w0};rintro n V ⟨i,c,G,I3,A,F,w3⟩;rcases z i n c G w3 with ⟨stop,qn⟩|⟨go,N,hN,step⟩;refine abm E (thn (T.done X rfl rfl rfl Z i pins V c G X.xe I3 (k F) A stop) λr s4 r=>?_);let⟨hr,I4⟩:=r;subst hr;exact wpAny_execs_nil {(c),G,I4,qn};refine abm E (thn (T.item X rfl rfl rfl Z i pins V c G X.xe I3 (k F) A go) λr s4 x0=>?_);let⟨u,hr,h4⟩:=x0;subst hr;refine abm E (thn h4 λ_ U x1=>?_);let⟨x,H5,I5,r5,y5,y,Q⟩:=x1;have R:=I5.pinned (k Q) (T.obj _ _ y);refine abm E (thn (hg _ U c H5 x u _ R r5 (step x H5 y5)) λ_ s6 x2=>?_);let⟨K,H6,I6,q6⟩:=x2;refine abm E (thn (l _ s6 K H6 _ I6 q6) λf P t=>?_);have again:∀{a:St}{q:Hp},Inv X (pins++jP fp U.1) a q P->N a q->∃m,m<n/\∃i j H',Inv X pins j H' P/\tn i P.1/\(∀b∈fp,H' b=none)/\W i m j H':=fun {a q} p C=>by{let⟨m',hm,w7⟩:=hN a q C;refine{m',hm,i+1,a,q,p.unpinned,T.keep _ _ _ y λb l o e=>(p.pin (b,o) (aal _ (aal _ (fw l e)))).1,λb l=>?_,w7};let⟨o,e,d⟩:=T.obj _ _ y b l;exact(p.pin (b,o) (aal _ (aal _ (fw l e)))).2.1};cases f with|next=>obtain ⟨a,q,p,C⟩:=t;exact again p C|cont=>obtain ⟨a,q,p,C⟩:=t;exact again p C|brk=>obtain ⟨a,q,p,t⟩:=t;exact {(a),q,p.unpinned,t}|ret v=>obtain ⟨x7,a,q,p,r7,t⟩:=t;exact {(x7),a,q,p.unpinned,r7,t}
abbrev R2:=V->V->Hp->VK->Prop
variable{r r':R2}
def OpR(X:Cx)(f:Value->Value->Sem Value)(r:R2):Prop:=∀(pins:↥(Addr×Obj))(s:Shared)(σ:St)(H:Hp)(x y:V)(v u:Value)(Q:VK),Inv X pins σ H s->RelV x v->RelV y u->r x y H Q ->wpAny (model X.prog X.w) X.A (f v u) (EP X pins σ Q) X.xe s
def UnR(X:Cx)(f:Value->Sem Value)(r:V->Hp->VK->Prop):Prop:=∀(pins:↥(Addr×Obj))(s:Shared)(σ:St)(H:Hp)(x:V)(v:Value)(Q:VK),Inv X pins σ H s->RelV x v->r x H Q ->wpAny (model X.prog X.w) X.A (f v) (EP X pins σ Q) X.xe s
def CallR(X:Cx)(f:Value)(r:↥V->Hp->VK->Prop):Prop:=∀(pins:↥(Addr×Obj))(s:Shared)(σ:St)(H:Hp)(xs:↥V)(us:↥Value)(Q:VK),Inv X pins σ H s->Vals xs us->r xs H Q ->wpAny (model X.prog X.w) X.A (call f us) (EP X pins σ Q) X.xe s
def TruR(X:Cx)(r:V->Hp->(Bool->Hp->Prop)->Prop):Prop:=∀(pins:↥(Addr×Obj))(s:Shared)(σ:St)(H:Hp)(x:V)(v:Value)(Q:Bool->Hp->Prop),Inv X pins σ H s->RelV x v->r x H Q ->wpAny (model X.prog X.w) X.A (truthy v) (TP X pins σ Q) X.xe s
def tOp(r:R2)(ta tb:TE):TE:=λσ H Q=>ta σ H λx H1=>tb σ H1 λy H2=>r x y H2 Q
def tUn(r:V->Hp->VK->Prop)(ta:TE):TE:=λσ H Q=>ta σ H λx H1=>r x H1 Q
def rI(C:Int->Int->Prop)(g:Int->Int->V):R2:=λx y H Q=>∃i j,x=.int i/\y=.int j/\C i j/\Q (g i j) H
def rI0(g:Int->Int->V):R2:=λx y H Q=>∃i j,x=.int i/\y=.int j/\Q (g i j) H
def rU(g:Int->V):V->Hp->VK->Prop:=λx H Q=>∃i,x=.int i/\Q (g i) H
section
variable  {a b:Expr} {tc:TE}
def Nb(o:PE X a ta)(n:PE X b tb)(I:Inv X pins σ H s)(h:ta σ H λx H1=>tb σ H1 λy H2=>R x y H2)(m:∀v u e x y H2,Inv X pins σ H2 e->RelV x v->RelV y u->R x y H2->wpAny (model X.prog X.w) X.A (f v u) Q X.xe e):wpAny (model X.prog X.w) X.A (eval a X.env) (λv d=>wpAny (model X.prog X.w) X.A (eval b X.env) (λu c=>wpAny (model X.prog X.w) X.A (f v u) Q X.xe c) X.xe d) X.xe s:=by refine thn (o pins s σ H _ I h) λv g z=>?_;let⟨x,H1,q,j,l⟩:=z;refine thn (n pins g σ H1 _ q l) λu e t=>?_;let⟨y,H2,p,i,k⟩:=t;exact m v u e x y H2 p j i k
def Nc{op:Operator}(f:OpR X (binaryOp op) r)(i:PE X a ta)(g:PE X b tb):PE X (.BinOp a op b pos) (tOp r ta tb):=by intro pins s σ H Q I h;exact wpAny_BinOp (Nb i g I h λv u c x y H2 j e d q=>f pins c σ H2 x y v u Q j e d q)
def Nd{op:UnaryOp}{r:V->Hp->VK->Prop}(e:UnR X (unaryOp op) r)(f:PE X a ta):PE X (.UnaryOp op a pos) (tUn r ta):=by intro pins s σ H Q I h;exact UnaryOp_ (thn (f pins s σ H _ I h) λv b {(x),H1,g,c,d}=>e pins b σ H1 x v Q g c d)
def opI{C:Int->Int->Prop}(rule:∀(i j:Int)(t u:Tok)(s:Shared)(Q:Value->Shared->Prop)(E:Value->Shared->Prop),C i j->Q (.int (g i j) s.toks) {s with toks:=s.toks+1}->wpAny (model X.prog X.w) X.A (f (.int i t) (.int j u)) Q E s):OpR X f (rI C λi j=>.int (g i j)):=by intro pins s σ H x y v u Q I b a h;let⟨i,j,rfl,rfl,c,q⟩:=h;let⟨t,rfl⟩:=b;let⟨t',rfl⟩:=a;exact rule i j t t' s _ _ c {.int (g i j),H,I.tok _,{_,rfl},q}
def OT  (rule:∀(i j:Int)(t u:Tok)(s:Shared)(Q:Value->Shared->Prop)(E:Value->Shared->Prop),Q (.int (g i j) s.toks) {s with toks:=s.toks+1}->wpAny (model X.prog X.w) X.A (f (.int i t) (.int j u)) Q E s):OpR X f (rI0 λi j=>.int (g i j)):=by intro pins s σ H x y v u Q I b a h;let⟨i,j,rfl,rfl,q⟩:=h;let⟨t,rfl⟩:=b;let⟨t',rfl⟩:=a;exact rule i j t t' s _ _ {.int (g i j),H,I.tok _,{_,rfl},q}
def MF{g:Int->Int->Bool}(rule:∀(i j:Int)(t u:Tok)(s:Shared)(Q:Value->Shared->Prop)(E:Value->Shared->Prop),Q (.bool (g i j)) s->wpAny (model X.prog X.w) X.A (f (.int i t) (.int j u)) Q E s):OpR X f (rI0 λi j=>.bl (g i j)):=by intro pins s σ H x y v u Q I b a h;let⟨i,j,rfl,rfl,q⟩:=h;let⟨t,rfl⟩:=b;let⟨t',rfl⟩:=a;exact rule i j t t' s _ _ {.bl (g i j),H,I,rfl,q}
def HL(i j:Int):Prop:=0<j/\j<1073741824
def HM(i j:Int):Prop:=0<=j/\j<=1000000/\i.natAbs<2 ^ 64
def CMul(i j:Int):Prop:=(-(2 ^ 64)<i/\i<2 ^ 64)∨(-(2 ^ 64)<j/\j<2 ^ 64)
def CMul.ok{i j:Int}(h:CMul i j):IntMulOk i j:=by rcases h with ⟨h1,h2⟩|⟨h1,h2⟩;exact .of_left (intBits_le_64 h1 h2);exact .of_right (intBits_le_64 h1 h2)
def Iw:OpR X (binaryOp .Add) (rI0 λi j=>.int (i+j)):=-OT λ_ _ _ _ _ _ _ q=>add_int q
def Iy:OpR X (binaryOp .Sub) (rI0 λi j=>.int (i - j)):=-OT λ_ _ _ _ _ _ _ q=>sub_int q
def Iz:OpR X (binaryOp .Mult) (rI CMul λi j=>.int (i*j)):=-opI λ_ _ _ _ _ _ _ a q=>mul_int q a.ok
def Dv:OpR X (binaryOp .FloorDiv) (rI HL λi j=>.int (i/j)):=-opI λi j _ _ _ _ _ a q=>by have h1:(0:Int)<j:=a.1;have h2:j<1073741824:=a.2;exact floordiv_int () (by rw[Int.fdiv_eq_ediv_of_nonneg i ()];exact q) (.inl (PyProof.noPylong_small ()))
def IA:OpR X (binaryOp .Mod) (rI (λ_ j=>0<j) λi j=>.int (i % j)):=-opI λi j _ _ _ _ _ a q=>by have h1:(0:Int)<j:=a;exact mod_int' () (by rw[Int.fmod_eq_emod_of_nonneg i ()];exact q)
def IB:OpR X (binaryOp .Pow) (rI HM λi j=>.int (i ^ j.toNat)):=-opI λ_ _ _ _ _ _ _ a q=>pow_int_small a.1 a.2.1 a.2.2 q
def unI{f:Value->Sem Value}{g:Int->Int}(rule:∀(i:Int)(t:Tok)(s:Shared)(Q:Value->Shared->Prop)(E:Value->Shared->Prop),Q (.int (g i) s.toks) {s with toks:=s.toks+1}->wpAny (model X.prog X.w) X.A (f (.int i t)) Q E s):UnR X f (rU λi=>.int (g i)):=by intro pins s σ H x v Q I a h;let⟨i,rfl,q⟩:=h;let⟨t,rfl⟩:=a;exact rule i t s _ _ {.int (g i),H,I.tok _,{_,rfl},q}
def IC:UnR X (unaryOp .USub) (rU λi=>.int (-i)):=-unI λ_ _ _ _ _ q=>neg_int q
end
def OU:V->V->Bool|.non,.non=>true|.non,.int _=>true|.int _,.non=>true|.non,.bl _=>true|.bl _,.non=>true|.non,.str _=>true|.str _,.non=>true|.int _,.int _=>true|.bl _,.bl _=>true|.str _,.str _=>true|.byt _,.byt _=>true|.int _,.str _=>true|.str _,.int _=>true|.bl _,.str _=>true|.str _,.bl _=>true|_,_=>false
def rEq:R2:=λx y H Q=>OU x y=true/\Q (.bl (decide (x=y))) H
def rNe:R2:=λx y H Q=>OU x y=true/\Q (.bl (⇑(decide (x=y)))) H
def sA{i j:Int}:decide (V.int i=V.int j)=(i==j):=by rw[abo,decide_eq_true_iff,beq_iff_eq];exact{λh=>by cases h;rfl,λh=>by rw[h]}
def BQ{i j:Bool}:decide (V.bl i=V.bl j)=(i==j):=by rw[abo,decide_eq_true_iff,beq_iff_eq];exact{λh=>by cases h;rfl,λh=>by rw[h]}
def sB{i j:Str}:decide (V.str i=V.str j)=(i==j):=by rw[abo,decide_eq_true_iff,beq_iff_eq];exact{λh=>by cases h;rfl,λh=>by rw[h]}
def sC{i j:Array UInt8}:decide (V.byt i=V.byt j)=(i.toList==j.toList):=by rw[abo,decide_eq_true_iff,beq_iff_eq];exact{λh=>by cases h;rfl,λh=>by rw[Array.toList_inj.mp h]}
section
variable  {a b:Expr} {tc:TE}
def aU{Q:VK}{k k':Bool}(I:Inv X pins σ H s)(q:Q (.bl k) H)(e:k=k'):EP X pins σ Q (.bool k') s:=by subst e;exact{.bl k,H,I,rfl,q}
def Nf:OpR X (compareOp .Eq) rEq:=by intro pins s σ H x y v u Q I b a h;let⟨hs,q⟩:=h;cases x with|non=>{cases b;cases y with|non=>cases a;exact PySem.EqNone.eq_none_none (aU I q (by simp))|bl j=>cases a;exact PySem.EqNone.eq_none_bool (aU I q (by simp))|int j=>obtain ⟨t',rfl⟩:=a;exact PySem.EqNone.eq_none_int (aU I q (by simp))|str j=>obtain ⟨t',rfl⟩:=a;exact PySem.EqNone.eq_none_str (aU I q (by simp))|_=>exact absurd (show false=true from hs) ab3}|bl i=>{cases b;cases y with|non=>cases a;exact PySem.EqNone.eq_bool_none (aU I q (by simp))|bl j=>cases a;exact eq_bool (aU I q BQ)|str j=>obtain ⟨t',rfl⟩:=a;exact PySem.EqMixed.eq_bool_str (aU I q (by simp))|_=>exact absurd (show false=true from hs) ab3}|int i=>{let⟨t,rfl⟩:=b;cases y with|non=>cases a;exact PySem.EqNone.eq_int_none (aU I q (by simp))|int j=>obtain ⟨t',rfl⟩:=a;exact eq_int (aU I q sA)|str j=>obtain ⟨t',rfl⟩:=a;exact PySem.EqMixed.eq_int_str (aU I q (by simp))|_=>exact absurd (show false=true from hs) ab3}|str i=>{let⟨t,rfl⟩:=b;cases y with|non=>cases a;exact PySem.EqNone.eq_str_none (aU I q (by simp))|bl j=>cases a;exact PySem.EqMixed.eq_str_bool (aU I q (by simp))|int j=>obtain ⟨t',rfl⟩:=a;exact PySem.EqMixed.eq_str_int (aU I q (by simp))|str j=>obtain ⟨t',rfl⟩:=a;exact eq_str (aU I q sB)|_=>exact absurd (show false=true from hs) ab3}|byt i=>{let⟨t,rfl⟩:=b;cases y with|byt j=>obtain ⟨t',rfl⟩:=a;exact PySem.W.eq_bytes (aU I q sC)|_=>exact absurd (show false=true from hs) ab3}|_=>cases y<;>exact absurd (show false=true from hs) ab3
def Ng:OpR X (compareOp .NotEq) rNe:=by intro pins s σ H x y v u Q I b a h;let⟨hs,q⟩:=h;cases x with|non=>{cases b;cases y with|non=>cases a;exact PySem.EqNone.ne_none_none (aU I q (by simp))|bl j=>cases a;exact PySem.EqNone.ne_none_bool (aU I q (by simp))|int j=>obtain ⟨t',rfl⟩:=a;exact PySem.EqNone.ne_none_int (aU I q (by simp))|str j=>obtain ⟨t',rfl⟩:=a;exact PySem.EqNone.ne_none_str (aU I q (by simp))|_=>exact absurd (show false=true from hs) ab3}|bl i=>{cases b;cases y with|non=>cases a;exact PySem.EqNone.ne_bool_none (aU I q (by simp))|bl j=>cases a;exact ne_bool (aU I q (congrArg not BQ))|str j=>obtain ⟨t',rfl⟩:=a;exact PySem.EqMixed.ne_bool_str (aU I q (by simp))|_=>exact absurd (show false=true from hs) ab3}|int i=>{let⟨t,rfl⟩:=b;cases y with|non=>cases a;exact PySem.EqNone.ne_int_none (aU I q (by simp))|int j=>obtain ⟨t',rfl⟩:=a;exact ne_int (aU I q (congrArg not sA))|str j=>obtain ⟨t',rfl⟩:=a;exact PySem.EqMixed.ne_int_str (aU I q (by simp))|_=>exact absurd (show false=true from hs) ab3}|str i=>{let⟨t,rfl⟩:=b;cases y with|non=>cases a;exact PySem.EqNone.ne_str_none (aU I q (by simp))|bl j=>cases a;exact PySem.EqMixed.ne_str_bool (aU I q (by simp))|int j=>obtain ⟨t',rfl⟩:=a;exact PySem.EqMixed.ne_str_int (aU I q (by simp))|str j=>obtain ⟨t',rfl⟩:=a;exact ne_str (aU I q (congrArg not sB))|_=>exact absurd (show false=true from hs) ab3}|byt i=>{let⟨t,rfl⟩:=b;cases y with|byt j=>obtain ⟨t',rfl⟩:=a;exact PySem.W.ne_bytes (aU I q (congrArg not sC))|_=>exact absurd (show false=true from hs) ab3}|_=>cases y<;>exact absurd (show false=true from hs) ab3
def Nh:OpR X (compareOp .Lt) (rI0 λi j=>.bl (decide (i<j))):=-MF λ_ _ _ _ _ _ _ q=>lt_int q
def Nj:OpR X (compareOp .LtE) (rI0 λi j=>.bl (decide (i<=j))):=-MF λ_ _ _ _ _ _ _ q=>le_int q
def Nk:OpR X (compareOp .Gt) (rI0 λi j=>.bl (decide (j<i))):=-MF λ_ _ _ _ _ _ _ q=>gt_int q
def Nl:OpR X (compareOp .GtE) (rI0 λi j=>.bl (decide (j<=i))):=-MF λ_ _ _ _ _ _ _ q=>ge_int q
def sD:OpR X (compareOp .In) (λx y H Q=>∃i j,x=.str i/\y=.str j/\Q (.bl (⇑((Builtin.Str.occurrences j i 0 j.length 1).isEmpty))) H):=by intro pins s σ H x y v u Q I b a h;let⟨i,j,rfl,rfl,q⟩:=h;let⟨t,rfl⟩:=b;let⟨t',rfl⟩:=a;exact in_str (aU I q rfl)
def ID:OpR X (compareOp .Is) (λx y H Q=>y=.non/\Q (.bl (decide (x=.non))) H):=by
 intro pins s σ H x y v u Q I a b h;let⟨rfl,q⟩:=h;cases b;refine is_none_gen (aU I q ?_)
 cases x<;>first
  |(cases a;rfl)
  |(obtain ⟨t,rfl⟩:=a;rfl)
def Dw:OpR X (compareOp .IsNot) (λx y H Q=>y=.non/\Q (.bl (⇑(decide (x=.non)))) H):=by
 intro pins s σ H x y v u Q I a b h;let⟨rfl,q⟩:=h;cases b;refine isnot_none_gen (aU I q ?_)
 cases x<;>first
  |(cases a;rfl)
  |(obtain ⟨t,rfl⟩:=a;rfl)
def OpR.or(h:OpR X f r)(h':OpR X f r'):OpR X f (λx y H Q=>r x y H Q∨r' x y H Q):=by intro pins s σ H x y v u Q I b a q;rcases q with q|q;exact h pins s σ H x y v u Q I b a q;exact h' pins s σ H x y v u Q I b a q
def Dx(f:OpR X (compareOp op) r)(j:PE X a ta)(i:PE X b tb)(g:behindInMarks op b=false):PE X (.Compare a [op] [b] pos) (tOp r ta tb):=by intro pins s σ H Q I h;exact wpAny_Compare1 (Nb j i I h λv u c x y H2 k e d q=>f pins c σ H2 x y v u Q k e d q) g
def sE(t:TE):TT:=λσ H Q=>t σ H λx H'=>∃k,x=.bl k/\Q k H'
def Dy(o:OpR X (compareOp op) r)(t:PE X a ta)(q:PE X b tb)(p:behindInMarks op b=false):PT X (.Compare a [op] [b] pos) (sE (tOp r ta tb)):=by intro pins s σ H Q I h;refine wpAny_isTrue_Compare1 (thn (t pins s σ H _ I h) λv f {(x),H1,B,j,n}=>thn (q pins f σ H1 _ B n) λu d {(y),H2,A,i,m}=>thn (o pins d σ H2 x y v u _ A j i m) λc D {(z),C,w,g,k,e,l}=>?_) p;subst e;cases g;exact aaN {(C),w,l}
def lF(r r':R2)(ta tb tc:TE):TE:=λσ H Q=>ta σ H λx H1=>tb σ H1 λy H2=>r x y H2 λz a=>∃k,z=.bl k/\ (if k=true then tc σ a λb c=>r' y b c Q else Q (.bl false) a)
def xQ(F:OpR X (compareOp op) r)(f:OpR X (compareOp op') r')(L:PE X a ta)(K:PE X b tb)(J:PE X c tc)(G:lastMarks [op,op'] [b,c]=false:=by with_unfolding_all rfl):PE X (.Compare a [op,op'] [b,c] pos) (lF r r' ta tb tc):=by intro pins s σ H Q I h;refine Compare_chain (thn (L pins s σ H _ I h) λv t {(x),H1,O,B,E}=>chain_link (thn (K pins t σ H1 _ O E) λu q {(y),H2,N,g,D}=>thn (F pins q σ H2 x y v u _ N B g D) λd p {(z),l,j,A,k,e,i}=>?_)) G;subst e;cases A;refine aaN ?_;cases k with|false=>exact ite_ff {.bl false,l,j,rfl,i}|true=>exact ite_tt (chain_last (thn (J pins p σ l _ j i) λn o {(m),P,M,w,C}=>f pins o σ P y m u n Q M g w C))
def xR(K:OpR X (compareOp op) r)(f:OpR X (compareOp op') r')(O:PE X a ta)(N:PE X b tb)(M:PE X c tc)(L:lastMarks [op,op'] [b,c]=false:=by with_unfolding_all rfl):PT X (.Compare a [op,op'] [b,c] pos) (sE (lF r r' ta tb tc)):=by intro pins s σ H Q I h;refine isTrue_chain (thn (O pins s σ H _ I h) λv t {(x),H1,V,C,G}=>test_link (thn (N pins t σ H1 _ V G) λu q {(y),H2,U,g,F}=>thn (K pins q σ H2 x y v u _ U C g F) λd p {(z),l,j,B,k,e,i}=>?_)) L;subst e;cases B;refine aaN ?_;cases k with|false=>let⟨k',R,J⟩:=i;cases R;exact ite_ff {(l),j,J}|true=>refine ite_tt (test_last (thn (M pins p σ l _ j i) λn o {(m),Y,T,A,E}=>thn (f pins o σ Y y m u n _ T g A E) λd' s5 d=>?_));let⟨Z,W,S,w,k2,P,D⟩:=d;subst P;cases w;exact aaN {(W),S,D}
def MG(K:Frag)(x:V)(H:Hp)(k:Bool):Prop:=match x with|.non=>k=false|.bl b=>k=b|.int i=>k=(i !=0)|.str y=>y.length<=sizeLine/\k=((y.length:Int) !=0)|.byt y=>y.size<=sizeLine/\k=((y.size:Int) !=0)|.ref p=>(∃xs,SqL K H p xs/\k=⇑xs.isEmpty)∨(∃xs,SqT K H p xs/\k=⇑xs.isEmpty)∨∃kvs,H p=!(.dK kvs)/\k=⇑kvs.isEmpty|_=>False
def qH{κ:Type}{kvs:↥(κ×V)}{vs:↥(κ×Value)}(r:KV kvs vs):(⇑vs.isEmpty)=⇑kvs.isEmpty:=by cases r<;>rfl
def jQ{its:↥Value}(r:Vals xs its):(⇑its.toArray.isEmpty)=⇑xs.isEmpty:=by cases r<;>simp
def iF:(sizeLine:Nat)<2 ^ 63:=by rw[sizeLine_eq];decide
def IE:TruR X (λx H Q=>∃k,MG X.K x H k/\Q k H):=by intro pins s σ H x v Q I d h;let⟨k,e,q⟩:=h;have n:=iF;have hs:sizeLine=16777216:=sizeLine_eq;cases x with|non=>cases d;have a:k=false:=e;subst a;exact truthy_none {(H),I,q}|bl b=>cases d;have a:k=b:=e;subst a;exact aaN {(H),I,q}|int i=>let⟨t,rfl⟩:=d;have a:k=(i !=0):=e;subst a;exact PySem.P.truthy_int {(H),I,q}|str y=>let⟨t,rfl⟩:=d;obtain⟨j,a⟩:y.length<=sizeLine/\k=((y.length:Int) !=0):=e;subst a;exact PySem.P.truthy_str () {H,I.tok _,q}|byt y=>let⟨t,rfl⟩:=d;obtain⟨j,a⟩:y.size<=sizeLine/\k=((y.size:Int) !=0):=e;subst a;exact PySem.W.truthy_bytes () {H,I.tok _,q}|ref p=>{cases d;have a:(∃xs,SqL X.K H p xs/\k=⇑xs.isEmpty)∨(∃xs,SqT X.K H p xs/\k=⇑xs.isEmpty)∨∃kvs,H p=!(.dK kvs)/\k=⇑kvs.isEmpty:=e;rcases a with ⟨xs,f,a⟩|⟨xs,f,a⟩|⟨kvs,f,a⟩;subst a;let⟨its,r,pl,g⟩:=I.list f;have c:=r.length;exact wpAny_truthy_list pl.isList (by simp only[List.size_toArray];nofun) {H,I.tok _,by rw[jQ r];exact q};subst a;let⟨its,r,pl,g⟩:=I.tuple f;have c:=r.length;exact truthy_tuple pl (by simp only[List.size_toArray];nofun) {H,I.tok _,by rw[jQ r];exact q};subst a;obtain⟨g,l,vs,r,m⟩:kvs.length<=sizeLine/\(p==sysModules)=false/\∃vs,KV kvs vs/\s.1.DictOf (ay X.prog X.w) p vs:=I.hok p _ f;have c:kvs.length=vs.length:=aa9 r;exact wpAny_truthy_dict l m () {H,I.tok _,by rw[qH r];exact q}}|_=>exact(show False from e).elim
def oH(f:PE X a ta)(e:∀whole,isTrue a X.env whole=(do let v ← whole;standAt a.pos;holding [v] (truthy v))):PT X a (λσ H Q=>ta σ H λx H'=>∃k,MG X.K x H' k/\Q k H'):=by intro pins s σ H Q I h;exact isTrue_plain (thn (f pins s σ H _ I h) λv b {(x),H1,g,c,d}=>IE pins b σ H1 x v Q g c d) (e _)
def qI:OpR X (binaryOp .Add) (λx y H Q=>∃i j,x=.str i/\y=.str j/\i.length+j.length<=sizeLine/\Q (.str (i++j)) H):=by intro pins s σ H x y v u Q I b a h;let⟨i,j,rfl,rfl,c,q⟩:=h;let⟨t,rfl⟩:=b;let⟨t',rfl⟩:=a;exact add_str (λt' tk=>{.str (i++j),H,I.tok _,{_,rfl},q}) c
def eI{x:V}(r:Vals [x] us):∃u,us=[u]/\RelV x u:=by cases r with|cons b a=>cases a;exact{_,rfl,b}
def xS{x:V}(r:Vals [x,y] us):∃u a,us=[u,a]/\RelV x u/\RelV y a:=by cases r with|cons e d=>cases d with|cons c b=>cases b;exact {_,_,rfl,e,c}
def sG(b:X.calm=true):CallR X (.builtin "max") (λxs H Q=>∃i j,xs=[.int i,.int j]/\Q (.int (if j>i then j else i)) H):=by intro pins s σ H xs us Q I r h;let⟨i,j,rfl,q⟩:=h;let⟨u,c,rfl,⟨t,rfl⟩,⟨t',rfl⟩⟩:=xS r;refine max_two_ints (I.ok.hd b) λh' tk k=>{_,H,I.kept k,?_,q};by_cases a:j>i;rw[if_pos a,if_pos a];exact{_,rfl};rw[if_neg a,if_neg a];exact{_,rfl}
def sH(b:X.calm=true):CallR X (.builtin "min") (λxs H Q=>∃i j,xs=[.int i,.int j]/\Q (.int (if j<i then j else i)) H):=by intro pins s σ H xs us Q I r h;let⟨i,j,rfl,q⟩:=h;let⟨u,c,rfl,⟨t,rfl⟩,⟨t',rfl⟩⟩:=xS r;refine min_two_ints (I.ok.hd b) λh' tk k=>{_,H,I.kept k,?_,q};by_cases a:j<i;rw[if_pos a,if_pos a];exact{_,rfl};rw[if_neg a,if_neg a];exact{_,rfl}
def sI:CallR X (.type "int") (λxs H Q=>(∃i,xs=[.int i]/\Q (.int i) H)∨∃k,xs=[.bl k]/\Q (.int (if k then 1 else 0)) H):=by intro pins s σ H xs us Q I r h;rcases h with ⟨i,rfl,q⟩|⟨k,rfl,q⟩;let⟨u,rfl,t,rfl⟩:=eI r;exact call_int_int {.int i,H,I,{_,rfl},q};let⟨u,rfl,a⟩:=eI r;cases a;exact call_int_bool {.int (if k then 1 else 0),H,I.tok _,{_,rfl},q}
end
structure ObjM(h:Heap)(x dx C:Addr)(mA:Str->Option Value):Prop where
 obj:h.get? x=!(PySem.W.instObj C dx)
 ns:h.Ns1 dx mA
 ne:dx≠x
def sJ(n:h.Ns1 dx mA):∃od,h.get? dx=!od/\∀name,PySem.W.lookIn name od=!(mA name):=by let⟨o,es,ep,d,hd,g,_,f⟩:=n;refine{o,d,λname=>?_};have e:=f name;unfold nsFind findBy at e;rw[←Array.find?_toList]at e;unfold PySem.W.lookIn;rw[hd];dsimp only;split;rename_i y q;rw[q]at e;exact congrArg some e;rename_i q;rw[q]at e;have a:es.toList.any (·.refKey)=false:=by{rw[List.any_eq_false];intro y c;let⟨z,t,b⟩:=g y (Array.mem_toList_iff.mp c);simp[DictEntry.refKey,b]};have i:¬es.toList.any (·.refKey)=true:=by{rw[a];exact ab3};rw[if_neg i];exact congrArg some e
def ObjM.look{x:Addr}(I:ObjM h x dx C mA):∃od,PySem.W.InstAt h x (PySem.W.instObj C dx) C !od/\∀name,PySem.W.lookIn name od=!(mA name):=-
 let ⟨od,a,b⟩:=sJ I.ns
 {od,{(I.obj),rfl,rfl,a},b}
section
variable      {K:Frag} {x f:Addr}   {v:Value}
def Dz{expr:Bool}(X:K.In s.1)(I:ObjM s.1 x dx C mA)(d:PySem.W.plainGet K C name=true)(hh:PySem.W.hasDictIn K C=true)(e:PySem.W.findIn K (.ref C) name=!none)(b:mA name=!v)(a:PySem.W.handedIn v=true)(h:Q v {s with toks:=s.toks+1}):wpAny (model prog w) A (getAttr (.ref x) name expr) Q E s:=by let⟨od,J,c⟩:=I.look;exact PySem.W.get_value X J (PySem.W.plainGet_of d).1 (PySem.W.findObj_own hh e rfl (by rw[c,b])) a h
def xT{Q:Value×↥Value->Shared->Prop}(X:K.In s.1)(I:ObjM s.1 x dx C mA)(a:PySem.W.plainGet K C name=true)(e:PySem.W.findIn K (.ref C) name=!!(.ref f))(c:PySem.W.isFn K (.ref f)=true)(b:mA name=none)(h:Q (.ref f,[.ref x]) s):wpAny (model prog w) A (getMethod (.ref x) name pl) Q E s:=by let⟨od,J,d⟩:=I.look;exact PySem.W.method_fn X J (PySem.W.plainGet_of a).1 (PySem.W.plainGet_of a).2 e (beq_iff_eq.mp c) (by show (PySem.W.lookIn name od).map (·.isSome)=!false;rw[d,b];rfl) h
def DA{ns:↥Str}{Q:Unit->Shared->Prop}(X:K.In s.1)(I:ObjM s.1 x dx C mA)(hs:PySem.W.findIn K (.ref C) "__setattr__"=!!(.builtin "object.__setattr__"))(m:PySem.W.plainOver K C=true)(l:PySem.W.takerIn K C name=!none)(hh:PySem.W.hasDictIn K C=true)(k:PySem.Within mA ns)(hsz:ns.length<=sizeLine)(h:∀h',ObjM h' x dx C (λy=>if y=name then ↑v else mA y)->Heap.SameBut dx s.1 h'->Q PUnit.unit {s with heap:=h',toks:=s.toks+2}):wpAny (model prog w) A (setAttr (.ref x) name v) Q E s:=by let⟨od,J,t⟩:=I.look;refine PySem.W.set_plain X J hs (PySem.W.osa_open (s:={s with toks:=s.toks+1}) (r:=none) X J m l λb=>?_);let⟨u,n,g⟩:=PySem.W.any_some hh;have j:s.1.get? x=!{.ref C,!dx,.plain,#[]}:=I.obj;refine aaa (aaf (aaa (aaa (wpAny_loadPart j (aaa (PySem.W.Looks.here (s:={s with toks:=s.toks+1}) (PySem.W.looks_clsIn X n) ?_))))));rw[g];refine aaf (a:=!dx) (aaa (aaf (aaa ?_)));refine wpAny_nsSet1 (s:={s with toks:=s.toks+1}) I.ns λh' d c=>?_;let⟨q,o,p,e,f,i⟩:=d.count (PySem.Within.cons name v k);refine aaa (wpAny_lookBehind e (by rw[f];exact pastItsLine_dict (aao i (by rw[ab6];nofun))) ?_);exact aaf (h _ {(c.2 _ (abC I.ne)).trans I.obj,d,I.ne} c)
def xU{R:Result->Shared->Prop}{vs:↥Value}(X:K.In s.1)(a:PySem.W.makesIn K C=true)(hi:PySem.W.findIn K (.ref C) "__init__"=!!(.ref f))(b:PySem.W.typeIn K (.ref f)=!(.type "function"))(h:codeAny (model prog w) (A.under (.builtin "type.__call__" {.ref C::vs,kw})) (.call (.ref f) {.ref (s.1.1.size+1)::vs,kw}) (PySem.W.InitBack (s.1.1.size+1) R) {s with heap:=(s.1.push PySem.W.emptyDict).push (PySem.W.instObj C s.1.1.size)}):codeAny (model prog w) A (.call (.ref C) {(vs),kw}) R s:=by let⟨hh,g,d,t,os⟩:=s;exact PySem.W.make_core (PySem.W.makes_of X a) (PySem.W.looks_findIn X hi) (λself=>PySem.W.bind_fn X self b) (.inl rfl) h
end
def ge(f:Str)(v:V):↥(Str×V)->↥(Str×V)|[]=>[(f,v)]|(g,x)::r=>if g=f then (g,v)::r else (g,x)::ge f v r
theorem iG(f g:Str)(v:V):∀fs:↥(Str×V),(ge f v fs).lookup g=if g=f then ↑v else fs.lookup g|[]=>by show List.lookup g [(f,v)]=_;by_cases h:g=f;have a:(g==f)=true:=beq_iff_eq.mpr h;simp only[List.lookup,a,if_pos h];have a:(g==f)=false:=beq_eq_false_iff_ne.mpr h;simp only[List.lookup,a,if_neg h]|(k,x)::r=>by have c:=iG f g v r;rw[show ge f v ((k,x)::r)=(if k=f then (k,v)::r else (k,x)::ge f v r)from rfl];by_cases b:k=f;rw[if_pos b];by_cases h:g=k;have a:(g==k)=true:=beq_iff_eq.mpr h;simp only[List.lookup,a,if_pos (h.trans b)];have a:(g==k)=false:=beq_eq_false_iff_ne.mpr h;simp only[List.lookup,a,if_neg (λe:g=f=>h (e.trans b.symm))];rw[if_neg b];by_cases h:g=k;have a:(g==k)=true:=beq_iff_eq.mpr h;simp only[List.lookup,a,if_neg (λe:g=f=>b (h.symm.trans e))];have a:(g==k)=false:=beq_eq_false_iff_ne.mpr h;simp only[List.lookup,a];exact c
theorem iH(f:Str)(v:V):∀fs:↥(Str×V),f∈(ge f v fs).map (·.1)/\∀g,g∈fs.map (·.1)->g∈(ge f v fs).map (·.1)|[]=>{by simp[ge],λg h=>by simp at h}|(k,x)::r=>by let⟨c,b⟩:=iH f v r;rw[show ge f v ((k,x)::r)=(if k=f then (k,v)::r else (k,x)::ge f v r)from rfl];by_cases a:k=f;rw[if_pos a];subst a;exact{by simp,λg h=>(by exists h)};rw[if_neg a];refine{?_,λg h=>?_};rw[ab1];exact aad _ c;rw[ab1]at h ⊢;rcases ab2.mp h with e|e;exact ab2.mpr (.inl e);exact aad _ (b g e)
theorem iI(f:Str)(v:V):∀fs:↥(Str×V),(ge f v fs).length<=fs.length+1|[]=>by simp[ge]|(k,x)::r=>by have b:=iI f v r;rw[show ge f v ((k,x)::r)=(if k=f then (k,v)::r else (k,x)::ge f v r)from rfl];by_cases a:k=f;rw[if_pos a,ab6,ab6];nofun;rw[if_neg a,ab6,ab6];nofun
def RelO.some_of{o:Option Value}(r:RelO ↑v o):∃u,o=!u/\RelV v u:=by cases o with|none=>exact(show False from r).elim|some u=>exact{(u),rfl,r}
def RelO.none_of{o:Option Value}(r:RelO none o):o=none:=by cases o with|none=>rfl|some u=>exact(show False from r).elim
def sK(r:RelV v u):PySem.W.handedIn u=true:=by cases v with|non=>cases (show u=Value.none from r);rfl|bl b=>cases (show u=Value.bool b from r);rfl|int i=>obtain⟨t,e⟩:=(show ∃t,u=Value.int i t from r);cases e;rfl|str x=>obtain⟨t,e⟩:=(show ∃t,u=Value.str x t from r);cases e;rfl|byt b=>obtain⟨t,e⟩:=(show ∃t,u=Value.bytes b t from r);cases e;rfl|flt b=>obtain⟨t,e⟩:=(show ∃t,u=Value.float b t from r);cases e;rfl|ref a=>cases (show u=Value.ref a from r);rfl|ty n=>cases (show u=Value.type n from r);rfl
section
variable      {fs fs':↥(Str×V)}
def ky(hok:HOk P w H h)(e:H a=!(.ins C dx fs)):∃mA,ObjM h a dx C mA/\(∀f,RelO (fs.lookup f) (mA f))/\PySem.Within mA (fs.map (·.1))/\fs.length<=1000/\H dx=!(.own a):=by let⟨d,z,ne,ob,mA,n,r,q⟩:=(show ObjOk P w H h a (.ins C dx fs)from hok a _ e);exact{mA,{(ob),n,ne},r,q,z,d}
end
structure Cls(K:Frag)(C:Addr):Prop where
 pg:PySem.W.plainGet K C Str.empty=true
 hd:PySem.W.hasDictIn K C=true
 po:PySem.W.plainOver K C=true
 sa:PySem.W.findIn K (.ref C) "__setattr__"=!!(.builtin "object.__setattr__")
def Cls.get{K:Frag}(c:Cls K C)(f:Str):PySem.W.plainGet K C f=true:=-c.pg
def NoAttr(K:Frag)(C:Addr)(f:Str):Prop:=PySem.W.findIn K (.ref C) f=!none
def NoAttr.taker{K:Frag}{f:Str}(n:NoAttr K C f):PySem.W.takerIn K C f=!none:=by unfold PySem.W.takerIn;rw[show PySem.W.findIn K (.ref C) f=↑none from n];rfl
structure Meth(K:Frag)(C:Addr)(m:Str)(f:Addr):Prop where
 at_:PySem.W.findIn K (.ref C) m=!!(.ref f)
 fn:PySem.W.isFn K (.ref f)=true
 kp:PySem.W.keepIn K (.ref f)=true
section
variable       {fs:↥(Str×V)} {f:Str}
def jR{b:Bool}(I:Inv X pins σ H s)(e:H a=!(.ins C dx fs))(c:Cls X.K C)(n:NoAttr X.K C f)(l:fs.lookup f=!v)(h:∀u s',Inv X pins σ H s'->RelV v u->Q u s'):wpAny (model X.prog X.w) A (getAttr (.ref a) f b) Q E s:=by let⟨mA,O,r,_,_,_⟩:=ky I.hok e;let⟨u,g,d⟩:=RelO.some_of (v:=v) (o:=mA f) (by rw[←l];exact r f);exact Dz I.kIn O (c.get f) c.hd n g (sK d) (h u _ (I.tok _) d)
def gz{g:Addr}{Q:Value×↥Value->Shared->Prop}(I:Inv X pins σ H s)(e:H a=!(.ins C dx fs))(c:Cls X.K C)(k:Meth X.K C m g)(l:fs.lookup m=none)(h:Q (.ref g,[.ref a]) s):wpAny (model X.prog X.w) A (getMethod (.ref a) m pl) Q E s:=by let⟨mA,O,r,_,_,_⟩:=ky I.hok e;have b:mA m=none:=RelO.none_of (by rw[←l];exact r m);exact xT I.kIn O (c.get m) k.at_ k.fn b h
def jS{Q:Unit->Shared->Prop}(I:Inv X pins σ H s)(e:H a=!(.ins C dx fs))(c:Cls X.K C)(n:NoAttr X.K C f)(v:fs.length<1000)(k:RelV y u)(h:∀s',Inv X pins σ (upd H a (.ins C dx (ge f y fs))) s'->Q PUnit.unit s'):wpAny (model X.prog X.w) A (setAttr (.ref a) f u) Q E s:=by let⟨mA,O,r,wi,_,i⟩:=ky I.hok e;have l:(fs.map (·.1)).length<=sizeLine:=by{rw[abR,sizeLine_eq];nofun};refine DA I.kIn O c.sa c.po n.taker c.hd wi l λh' d j=>h _ ?_;have hd:∃o,h'.get? dx=!o:=let ⟨o,_,_,t,_⟩:=d.ns;{(o),t};refine I.write (x:=a) (e:=dx) (by rw[e];exact True.intro) (.inr i) (λb q p z=>(j.2 b p).trans z) hd ?_;refine{by rw[aj O.ne];exact i,?_,O.ne,d.obj,_,d.ns,λg=>?_,λg m=>?_};have:=iI f y fs;nofun;show RelO ((ge f y fs).lookup g) (if g=f then ↑u else mA g);rw[iG];by_cases q:g=f;rw[if_pos q,if_pos q];exact k;rw[if_neg q,if_neg q];exact r g;by_cases q:g=f;rw[q];exact(iH f y fs).1;refine(iH f y fs).2 g (wi g λz=>m ?_);show (if g=f then ↑u else mA g)=none;rw[if_neg q];exact z
def Inv.made(I:Inv X pins σ H s):Inv X pins σ (upd (upd H s.1.1.size (.own (s.1.1.size+1))) (s.1.1.size+1) (.ins C s.1.1.size [])) {s with heap:=(s.1.push PySem.W.emptyDict).push (PySem.W.instObj C s.1.1.size)}:=by have c:(s.1.push PySem.W.emptyDict).get? s.1.1.size=!PySem.W.emptyDict:=ab0 s.1 rfl;have i:((s.1.push PySem.W.emptyDict).push (PySem.W.instObj C s.1.1.size)).get? (s.1.1.size+1)=!(PySem.W.instObj C s.1.1.size):=by{have:=ab0 (s.1.push PySem.W.emptyDict) (o:=PySem.W.instObj C s.1.1.size) rfl;rwa [aa5]at this};have g:(s.1.push PySem.W.emptyDict).Ns s.1.1.size (λ_=>none):={PySem.W.emptyDict,#[],_,c,rfl,(λe f=>absurd f (by simp)),λ_=>rfl};have j:=I.laid (a:=s.1.1.size) (o:=.own (s.1.1.size+1)) (h':=s.1.push PySem.W.emptyDict) (t':=s.toks) (λb u q=>abV _ q) (aab _) {_,c};refine j.laid (a:=s.1.1.size+1) (o:=.ins C s.1.1.size []) (t':=s.toks) (λb u q=>abV _ q) (Nat.le_of_eq (aa5 _ _)) ?_;have ne:s.1.1.size≠s.1.1.size+1:=aap (aaz _);refine{by rw[aj ne,ah],aan _,ne,i,λ_=>none,(Heap.Ns1.of_empty g).at λo q=>abV _ q,λ_=>True.intro,λy d=>absurd rfl d}
def DB{env:Env}(b:attributeBase e f env (eval e env)=eval e env)(h:wpAny (model prog w) A (eval e env) (λo a=>wpAny (model prog w) A (getAttr o f true) Q E a) E s):wpAny (model prog w) A (eval (.Attribute e f pos) env) Q E s:=- Attribute_any_ h (by rw[arm_eval_Attribute,b])
end
def xV(K:Frag)(ta:TE)(f:Str):TE:=λσ H Q=>ta σ H λx H1=>∃a C dx fs v,x=.ref a/\H1 a=!(.ins C dx fs)/\Cls K C/\NoAttr K C f/\fs.lookup f=!v/\Q v H1
def MH(K:Frag)(ta tv:TE)(f:Str):TS:=λD σ H=>tv σ H λy H1=>ta σ H1 λx H2=>∃a C dx fs,x=.ref a/\H2 a=!(.ins C dx fs)/\Cls K C/\NoAttr K C f/\fs.length<1000/\ D.nx σ (upd H2 a (.ins C dx (ge f y fs)))
def OW(X:Cx)(op:Operator)(rd:V->V->Hp->VK->Prop):Prop:=∀(pins:↥(Addr×Obj))(s:Shared)(σ:St)(H:Hp)(x y:V)(u v:Value)(Q:VK),Inv X pins σ H s->RelV x u->RelV y v->rd x y H Q->wpAny (model X.prog X.w) X.A (inplaceOp op u v) (EP X pins σ Q) X.xe s
def nv(K:Frag)(ta tv:TE)(rd:V->V->Hp->VK->Prop)(f:Str):TS:=λD σ H=>ta σ H λx H1=>∃a C dx fs v,x=.ref a/\H1 a=!(.ins C dx fs)/\Cls K C/\NoAttr K C f/\fs.lookup f=↑v/\ tv σ H1 λy H2=>rd v y H2 λz c=>∃b fs',c a=!(.ins C b fs')/\fs'.length<1000/\D.nx σ (upd c a (.ins C b (ge f z fs')))
section
variable  {o value:Expr} {f:Str} {tpos:Pos} {tv:TE}
def IF(g:PE X e ta)(i:attributeBase e f X.env (eval e X.env)=eval e X.env):PE X (.Attribute e f pos) (xV X.K ta f):=by intro pins s σ H Q I h;refine DB i (thn (g pins s σ H _ I h) λu r y=>?_);let⟨x,H1,m,b,a,C,dx,fs,v,ex,j,c,n,l,q⟩:=y;subst ex;obtain rfl:u=Value.ref a:=b;exact jR m j c n l λo p k d=>{(v),H1,k,d,q}
def IG(j:PE X o ta)(i:PE X value tv)(hs:swapsWith value ↑(.Attribute o f pos') pos.line X.env=pure false):PS X (.Assign [.Attribute o f pos'] value pos) (MH X.K ta tv f):=by intro pins s σ H D I h;refine plainObj_wpAny_Assign_Attribute (thn (i pins s σ H _ I h) λu b {(y),H1,r,d,q}=>thn (j pins b σ H1 _ r q) λov v z=>?_) hs;let⟨x,H2,p,e,a,C,dx,fs,ex,k,c,n,l,g⟩:=z;subst ex;obtain rfl:ov=Value.ref a:=e;exact jS p k c n l d λt m=>{σ,_,m,g}
def sL{op:Operator}{rd:V->V->Hp->VK->Prop}(B:PE X o ta)(A:PE X value tv)(b:OW X op rd):PS X (.AugAssign (.Attribute o f tpos) op value pos) (nv X.K ta tv rd f):=by intro pins s σ H D I h;refine wpAny_AugAssign_AttributeAny (thn (B pins s σ H _ I h) λov Q N=>?_);let⟨x,H1,M,m,a,C,dx,fs,v,ex,E,c,n,l,q⟩:=N;subst ex;obtain rfl:ov=Value.ref a:=m;refine jR M E c n l λu i L p=>thn (A pins i σ H1 _ L q) λe g {(y),H2,K,k,t}=>thn (b pins g σ H2 v y u e _ K p k t) λN P O=>?_;let⟨z,R,J,j,F,fs',d,w,r⟩:=O;exact jS J d c n w j λO G=>{σ,_,G,r}
def Nm:V->V->Hp->VK->Prop:=λx y H Q=>∃i j,x=.int i/\y=.int j/\Q (.int (i+j)) H
def IH:OW X .Add Nm:=by rintro pins s σ H x y u v Q I b a ⟨i,j,rfl,rfl,q⟩;let⟨t,rfl⟩:=(show ∃t,u=Value.int i t from b);let⟨t',rfl⟩:=(show ∃t',v=Value.int j t' from a);exact PyProof.Rows.iadd_int {.int (i+j),H,I.tok _,{_,rfl},q}
def DC{args:↥Expr}(n:PE X e te)(I:Inv X pins σ H s)
  (h:te σ H λx H1=>∃a C dx fs g,x=.ref a/\H1 a=!(.ins C dx fs)/\Cls X.K C/\Meth X.K C m g/\fs.lookup m=none/\
   ∀b,Inv X pins σ H1 b->wpAny (model X.prog X.w) X.A (callWith pos (.ref g) [.ref a] (backTo pos (starEach args X.env)) (backToKw pos (keywordEach [] X.env))) Q X.xe b)
  (j:eval (.Call (.Attribute e m apos) args [] pos) X.env=(do
   let ov ← eval e X.env
   standAt apos.atName
   let (f,first) ← holding [ov] (getMethod ov m pl)
   callWith pos f first (backTo pos (starEach args X.env)) (backToKw pos (keywordEach [] X.env)))):
  wpAny (model X.prog X.w) X.A (eval (.Call (.Attribute e m apos) args [] pos) X.env) Q X.xe s:=by
 refine PySem.W.methodCall_KW (pl:=pl) (thn (n pins s σ H _ I h) λu b y=>?_) j;let⟨x,H1,d,i,a,C,dx,fs,g,ex,o,c,k,l,q⟩:=y;subst ex;obtain rfl:u=Value.ref a:=i;exact gz d o c k l (q b d)
end
section
variable         {c:Value} {b:Bool}
inductive TyOf(K:Frag)(H:Hp):V->Value->Prop where
 |non:TyOf K H .non (.type "NoneType")
 |bl (x:Bool):TyOf K H (.bl x) (.type "bool")
 |int (i:Int):TyOf K H (.int i) (.type "int")
 |str (x:Str):TyOf K H (.str x) (.type "str")
 |flt (x:UInt64):TyOf K H (.flt x) (.type "float")
 |lst {a:Addr} {xs:↥V} (e:H a=!(.lst xs)):TyOf K H (.ref a) (.type "list")
 |frz {a:Addr} {o:Obj} {xs:↥V} (e:H a=!(.frz o (.lst xs))):TyOf K H (.ref a) (.type "list")
 |tup {a:Addr} {xs:↥V} (e:H a=!(.tup xs)):TyOf K H (.ref a) (.type "tuple")
 |dK {a:Addr} {kvs:↥(Key×V)} (e:H a=!(.dK kvs)):TyOf K H (.ref a) (.type "dict")
 |dT {a:Addr} {kvs:↥(↥Key×V)} (e:H a=!(.dT kvs)):TyOf K H (.ref a) (.type "dict")
 |ins {a C dx:Addr} {fs:↥(Str×V)} (e:H a=!(.ins C dx fs)) (cl:Cls K C) (ha:PySem.W.findIn K (.ref C) "__class__"=!!(.builtin "object.__class__"))
   (hn:PySem.W.specialIn K (.builtin "object.__class__") "__get__"=!!(.builtin "getset_descriptor.__get__")) (htk:PySem.W.takesIn K (.builtin "object.__class__")=!true)
   (hm:PySem.W.mroIn K C (.type "object")=!true):TyOf K H (.ref a) (.ref C)
def gf{x:V}{t:Value}(I:Inv X pins σ H s)(d:RelV x u)(ty:TyOf X.K H x t)(e:PySem.W.kitOne X.K t c=!b)(h:∀tk,Q (.bool b) {s with toks:=tk}):wpAny (model X.prog X.w) A (call (.builtin "isinstance") [u,c]) Q E s:=by cases ty with|non=>cases (show u=Value.none from d);exact aaA PySem.W.kitx_none I.kIn True.intro e (λz=>nomatch z) h|bl y=>cases (show u=Value.bool y from d);exact aaA PySem.W.kitx_bool I.kIn True.intro e (λz=>nomatch z) h|int i=>obtain⟨t,q⟩:=(show ∃t,u=Value.int i t from d);cases q;exact aaA PySem.W.kitx_int I.kIn True.intro e (λz=>nomatch z) h|str y=>obtain⟨t,q⟩:=(show ∃t,u=Value.str y t from d);cases q;exact aaA PySem.W.kitx_str I.kIn True.intro e (λz=>nomatch z) h|flt y=>obtain⟨t,q⟩:=(show ∃t,u=Value.float y t from d);cases q;exact aaA PySem.W.kitx_float I.kIn True.intro e (λz=>nomatch z) h|@lst a xs f=>cases (show u=Value.ref a from d);let⟨_,_,n,_,h1⟩:=(show ObjOk X.prog X.w H s.1 a (.lst xs)from I.hok a _ f);exact aaA PySem.W.kitx_list I.kIn {_,h1,rfl} e (λz=>nomatch z) h|@frz a ob xs f=>cases (show u=Value.ref a from d);let⟨_,_,_,n,_,h1⟩:=(show ObjOk X.prog X.w H s.1 a (.frz ob (.lst xs))from I.hok a _ f);exact aaA PySem.W.kitx_list I.kIn {_,h1,rfl} e (λz=>nomatch z) h|@tup a xs f=>cases (show u=Value.ref a from d);let⟨_,_,_,p⟩:=(show ObjOk X.prog X.w H s.1 a (.tup xs)from I.hok a _ f);let⟨o,h1,h2,_⟩:=p;exact aaA PySem.W.kitx_tuple I.kIn {(o),h1,h2} e (λz=>nomatch z) h|@dK a kvs f=>cases (show u=Value.ref a from d);let⟨_,_,vs,_,p⟩:=(show ObjOk X.prog X.w H s.1 a (.dK kvs)from I.hok a _ f);let⟨o,es,ep,h1,h2,_⟩:=p;exact aaA abH I.kIn {(o),h1,h2.1} e (λz=>nomatch z) h|@dT a kvs f=>cases (show u=Value.ref a from d);let⟨_,_,xs,_,o,es,ep,h1,h2,_⟩:=(show ObjOk X.prog X.w H s.1 a (.dT kvs)from I.hok a _ f);exact aaA abH I.kIn {(o),h1,h2.1} e (λz=>nomatch z) h|@ins a C dx fs f cl l j g k=>cases (show u=Value.ref a from d);let⟨mA,O,_⟩:=ky I.hok f;let⟨od,J,_⟩:=O.look;exact aaA (PySem.W.kitx_own (cl.get _) cl.hd l j g k) I.kIn J e (λz=>nomatch z) h
end
structure Room(k:Nat)(A:Around):Prop where
 hd:A.handled=none
 dp:A.depth+3*k+5<recursionLimit
 un:A.units+16*k+200<cLine
 gd:A.guards=![]
def Room.mono(r:Room k A)(h:j<=k):Room j A:=-{r.hd,by have:=r.dp;nofun,by have:=r.un;nofun,r.gd}
def Room.deeper(r:Room (k+1) A)(env:Env):Room k (A.deeper env):=- {r.hd,by have:=r.dp;show A.depth+1+3*k+5<_;nofun,by have:=r.un;show A.units+3+16*k+200<_;nofun,r.gd}
def qJ:(A.under (.builtin "type.__call__" {.ref C::us,kw})).depth=A.depth+1:=by first|rfl|simp[Around.under,Code.weight,Code.isCreation,Code.isGuard,Code.isCaller,Code.frames,Code.isFrame,guardIds]
def qK:(A.under (.builtin "type.__call__" {.ref C::us,kw})).units=A.units+1:=by first|rfl|simp[Around.under,Code.cUnits,Code.frames,Code.isFrame]
def Room.make(r:Room (k+1) A)(C:Addr)(us:↥Value)(kw:↥(Str×Value)):Room k (A.under (.builtin "type.__call__" {.ref C::us,kw})):=- {r.hd,by have:=r.dp;rw[qJ];nofun,by have:=r.un;rw[qK];nofun,r.gd}
def Room.depth(r:Room k A):A.depth<recursionLimit:=by have:=r.dp;nofun
def Room.units(r:Room k A):A.units+64<cLine:=by have:=r.un;nofun
def iJ:TA:=λ_ H Q=>Q [] H
def cL(ta:TE)(a:TA):TA:=λσ H Q=>ta σ H λx H1=>a σ H1 λxs H2=>Q (x::xs) H2
def II:PA X [] iJ:=-λ_ _ _ _ H Q I h=>Calls.spliced_nil {[],H,I,.nil,h}
def DD(g:PE X e te)(hr:PA X es t)(hs:autoParam (starEach (e::es) X.env=(false,eval e X.env)::starEach es X.env) _L.aR._auto_1):PA X (e::es) (cL te t):=by intro pos pins s σ H Q I h;rw[hs];show wpAny _ _ (spliced ((false,eval e X.env)::backTo pos (starEach es X.env))) _ _ s;refine Calls.spliced_cons (thn (g pins s σ H _ I h) λu a y=>?_);let⟨x,H1,j,c,f⟩:=y;exact thn (hr pos pins a σ H1 _ j f) λus k {(xs),H2,i,b,d}=>{x::xs,H2,i,.cons c b,d}
def MI(t:TA):TE:=λσ H Q=>t σ H λxs H1=>xs.length<=sizeLine/\∀p,H1 p=none->Q (.ref p) (upd H1 p (.tup xs))
def MJ(t:TA):TE:=λσ H Q=>t σ H λxs H1=>xs.length<=sizeLine/\∀p,H1 p=none->Q (.ref p) (upd H1 p (.lst xs))
def IJ{d}(h:PA X es t):PE X (.Tuple es d pos) (MI t):=by intro pins s σ H Q I f;refine wpAny_Tuple_spliced (thn (h pos pins s σ H _ I f) λus a {(xs),H1,c,r,z,q}=>{by rw[←r.length];exact z,?_});have g:H1 a.1.1.size=none:=c.hok.fresh (aab _);refine{.ref a.1.1.size,upd H1 a.1.1.size (.tup xs),c.laid (t':=a.toks) (λb u e=>abV _ e) (aab _) ?_,rfl,q _ g};exact{z,us,r,{_,ab0 _ rfl,rfl,_,rfl}}
def IK(h:PA X es t):PE X (.List es pos) (MJ t):=by intro pins s σ H Q I d;refine wpAny_List_spliced (thn (h pos pins s σ H _ I d) λus a {(xs),H1,c,r,z,q}=>{by rw[←r.length];exact z,?_});have f:H1 a.1.1.size=none:=c.hok.fresh (aab _);refine{.ref a.1.1.size,upd H1 a.1.1.size (.lst xs),c.laid (t':=a.toks) (λb u e=>abV _ e) (aab _) ?_,rfl,q _ f};exact{z,us,0,r,ab0 _ rfl}
abbrev Sp:=↥V->Hp->VK->XK->Prop
variable{sp:Sp}
abbrev CXT:=↥Env->Hp->Shared->XK->Value->Shared->Prop
variable{CX:CXT}
structure Env0(P:Program)(w:World)(K:Frag)(mg:Str->Option Value)(base:Heap)(A:Around)(outer:↥Env)(s:Shared)(H:Hp):Prop where
 frames:A.frames=!outer
 mod:Mod K mg base
 bs:∀b o,base.get? b=!o->s.1.get? b=!o/\H b=none
 bsz:base.1.size<=s.1.1.size
 funs:s.1.FunFrames base outer
 frf:∀b∈frs outer,H b=none
 hok:HOk P w H s.1
 bare:AllBare s.gens
def CE(outer:↥Env)(P:Program)(w:World)(H:Hp)(s:Shared)(Q:VK)(u:Value)(s':Shared):Prop:=∃v H',s'.os=s.os/\AllBare s'.gens/\Un (frs outer) [] H H' s.1 s'.1/\HOk P w H' s'.1/\RelV v u/\Q v H'
def CR(CX:CXT)(outer:↥Env)(P:Program)(w:World)(H:Hp)(s:Shared)(Q:VK)(E:XK)(r:Result)(s':Shared):Prop:=match r with|.ok (.ret u)=>CE outer P w H s Q u s'|.ok _=>False|.error e=>CX outer H s E e s'
structure FnOk(P:Program)(w:World)(K:Frag)(mg:Str->Option Value)(base:Heap)(CX:CXT)(k:Nat)(f:Addr)(fd:FuncData)(ps:↥Str)(sp:Sp):Prop where
 len:∀vs H Q E,sp vs H Q E->vs.length=ps.length
 run:∀(A:Around)(outer:↥Env)(s:Shared)(H:Hp)(args:Args)(us:↥Value)(vs:↥V)(Q:VK)(E:XK),Room k A->Env0 P w K mg base A outer s H->BindsTo s fd args (ps.zip us)->Vals vs us->sp vs H Q E ->
  codeAny (model P w) A (.call (.ref f) args) (CR CX outer P w H s Q E) s
def FnOk.imp{K:Frag}{f:Addr}{a:Sp}(F:FnOk P w K mg base CX k f fd ps sp)(h:∀vs H Q E,a vs H Q E->sp vs H Q E):FnOk P w K mg base CX k f fd ps a:=- {λvs H Q E q=>F.len vs H Q E (h _ _ _ _ q),λA outer s H args us vs Q E hr c d b hs=>F.run A outer s H args us vs Q E hr c d b (h _ _ _ _ hs)}
def Env0.make{K:Frag}(e:Env0 P w K mg base A outer s H)(C:Addr)(us:↥Value)(kw:↥(Str×Value)):Env0 P w K mg base (A.under (.builtin "type.__call__" {.ref C::us,kw})) outer s H:=-{by first|exact e.frames|(simpa [Around.under,Code.envs,Code.isFrame,pushEnvs]using e.frames),e.mod,e.bs,e.bsz,e.funs,e.frf,e.hok,e.bare}
def Inv.env0(I:Inv X pins σ H s):Env0 X.prog X.w X.K X.mg X.base X.A X.stack s H:=- {I.ok.frames,I.ok.mod,I.bs,aao I.ok.bsz I.sz,I.stack,I.stkFree,I.hok,I.bare}
def Inv.after{Q:VK}(I:Inv X pins σ H s)(h:CE X.stack X.prog X.w H s Q u s'):EP X pins σ Q u s':=by let⟨v,H',os,bare,un,hok,r,q⟩:=h;let⟨hh,g,d,t,a⟩:=s';obtain rfl:a=s.os:=os;exact{v,H',I.call (h':=hh) (g':=g) (d':=d) (t':=t) (ch:=[]) un hok bare (λb z=>absurd z (by simp)),r,q}
def kz(sp:Sp)(dvs:↥V)(E:XK)(t:TA):TE:=λσ H Q=>t σ H λvs H1=>sp (vs++dvs) H1 Q E
def qL(C:Addr)(m:Str)(sp:Sp)(dvs:↥V)(E:XK)(ta:TE)(t:TA):TE:=λσ H Q=>ta σ H λx H1=>∃a dx fs,x=.ref a/\H1 a=!(.ins C dx fs)/\fs.lookup m=none/\ t σ H1 λvs H2=>sp (x::(vs++dvs)) H2 Q E
def DE(C:Addr)(sp:Sp)(dvs:↥V)(E:XK)(t:TA):TE:=λσ H Q=>t σ H λvs H1=>∀x dx,H1 x=none->H1 dx=none->dx≠x ->sp (.ref x::(vs++dvs)) (upd (upd H1 dx (.own x)) x (.ins C dx [])) (λv H2=>v=.non/\Q (.ref x) H2) E
def Binds(K:Frag)(fd:FuncData)(ps:↥Str)(ds:↥Value):Prop:=∀(s:Shared)(us:↥Value),K.In s.1->(us++ds).length=ps.length->BindsTo s fd {us,[]} (ps.zip (us++ds))
def Binds.all{K:Frag}(h:∀us:↥Value,us.length=ps.length->bindArgs fd {us,[]}=pure (ps.zip us)):Binds K fd ps []:=-λs us _ a=>by rw[aaw]at a ⊢;exact .of_eq (h us a)
def iK(CX:CXT)(X:Cx)(E:XK):Prop:=∀(pins:↥(Addr×Obj))(σ:St)(H:Hp)(s:Shared)(e:Value)(s':Shared),Inv X pins σ H s->CX X.stack H s E e s'->X.xe e s'
section
variable    {f:Addr}    {dvs:↥V} {ds:↥Value} {E:XK}   {o:Expr}
def sM{Q:VK}(F:FnOk X.prog X.w X.K X.mg X.base CX k f fd ps sp)(hr:Room k X.A)(d:Binds X.K fd ps ds)(hd:Vals dvs ds)(hx:iK CX X E)(I:Inv X pins σ H s)(r:Vals vs us)(h:sp (vs++dvs) H Q E):wpAny (model X.prog X.w) X.A (call (.ref f) us) (EP X pins σ Q) X.xe s:=by have b:Vals (vs++dvs) (us++ds):=r.append hd;have c:(us++ds).length=ps.length:=by{rw[←b.length];exact F.len _ _ _ _ h};refine wpAny_call (codeAny_mono (F.run X.A X.stack s H {us,[]} (us++ds) (vs++dvs) Q E hr I.env0 (d s us I.kIn c) b h) λr s' a=>?_);cases r with|error e=>exact hx pins σ H s e s' I a|ok fl=>cases fl with|ret u=>exact I.after a|next=>exact faa a|brk=>exact faa a|cont=>exact faa a
def DF(F:FnOk X.prog X.w X.K X.mg X.base CX k f fd ps sp)(hr:Room k X.A)(i:Gl X x)(d:X.mg x=!(.ref f))(g:PySem.W.keepIn X.K (.ref f)=true)(l:Binds X.K fd ps ds)(hd:Vals dvs ds)(hx:iK CX X E)(m:PA X (e::es) t)(b:autoParam ((x==("__debug__":Str))=false) _L.aD._auto_1)(j:autoParam (starEach (e::es) X.env=(false,eval e X.env)::starEach es X.env) _L.aR._auto_1)(a:autoParam ((backTo pos (starEach es X.env)).any (·.1)=false) _L.aR._auto_1):PE X (.Call (.Name x p) (e::es) [] pos) (kz sp dvs E t):=by intro pins s σ H Q I h;refine wpAny_Call_Name_kw (nk I i d ?_ b);refine PySem.W.callWith_K (h₀:=X.base) I.ok.mod.kin g (thn (m pos pins s σ H _ I h) λus n {(vs),H1,c,r,q}=>{c.kIn,?_}) j a;exact sM F hr l hd hx c r q
def DG(y:PE X o ta)(c:Cls X.K C)(g:Meth X.K C m f)(F:FnOk X.prog X.w X.K X.mg X.base CX k f fd ps sp)(hr:Room k X.A)(z:Binds X.K fd ps ds)(hd:Vals dvs ds)(hx:iK CX X E)(A:PA X (e::es) t)
  (b:autoParam (starEach (e::es) X.env=(false,eval e X.env)::starEach es X.env) _L.aR._auto_1) (d:autoParam ((backTo pos (starEach es X.env)).any (·.1)=false) _L.aR._auto_1)
  (w:autoParam (eval (.Call (.Attribute o m apos) (e::es) [] pos) X.env=(do
   let ov ← eval o X.env
   standAt apos.atName
   let (f,first) ← holding [ov] (getMethod ov m pl)
   callWith pos f first (backTo pos (starEach (e::es) X.env)) (backToKw pos (keywordEach [] X.env)))) _L.aR._auto_1):
  PE X (.Call (.Attribute o m apos) (e::es) [] pos) (qL C m sp dvs E ta t):=by
 intro pins s σ H Q I h;refine PySem.W.methodCall_KW (pl:=pl) (thn (y pins s σ H _ I h) λu n G=>?_) w;let⟨x,H1,j,p,a,dx,fs,ex,B,l,q⟩:=G;subst ex;obtain rfl:u=Value.ref a:=p;refine gz j B c g l ?_;refine PySem.W.callWith_K (first:=[.ref a]) (h₀:=X.base) I.ok.mod.kin g.kp (thn (A pos pins n σ H1 _ j q) λus D {(vs),H2,i,r,v}=>{i.kIn,?_}) b d;exact sM (us:=.ref a::us) (vs:=.ref a::vs) F hr z hd hx i (.cons rfl r) v
def xW(i:PE X o ta)(c:Cls X.K C)(d:Meth X.K C m f)(F:FnOk X.prog X.w X.K X.mg X.base CX k f fd ps sp)(hr:Room k X.A)(j:Binds X.K fd ps ds)(hd:Vals dvs ds)(hx:iK CX X E)
  (g:autoParam (eval (.Call (.Attribute o m apos) [] [] pos) X.env=(do
   let ov ← eval o X.env
   standAt apos.atName
   let (f,first) ← holding [ov] (getMethod ov m pl)
   callWith pos f first (backTo pos (starEach [] X.env)) (backToKw pos (keywordEach [] X.env)))) _L.aR._auto_1):
  PE X (.Call (.Attribute o m apos) [] [] pos) (qL C m sp dvs E ta iJ):=by
 intro pins s σ H Q I h;refine PySem.W.methodCall_KW (pl:=pl) (thn (i pins s σ H _ I h) λu p y=>?_) g;let⟨x,H1,b,e,a,dx,fs,ex,n,l,q⟩:=y;subst ex;obtain rfl:u=Value.ref a:=e;refine gz b n c d l ?_;exact PySem.W.callWith_K0 (first:=[.ref a]) b.kIn d.kp (sM (us:=[.ref a]) (vs:=[.ref a]) F hr j hd hx b (.cons rfl .nil) q)
structure Mk(K:Frag)(C f:Addr):Prop where
 makes:PySem.W.makesIn K C=true
 init:PySem.W.findIn K (.ref C) "__init__"=!!(.ref f)
 fn:PySem.W.isFn K (.ref f)=true
 kp:PySem.W.keepIn K (.ref C)=true
def xX{Q:VK}(M:Mk X.K C f)(F:FnOk X.prog X.w X.K X.mg X.base CX k f fd ps sp)(hr:Room (k+1) X.A)(l:Binds X.K fd ps ds)(hd:Vals dvs ds)(hx:iK CX X E)(I:Inv X pins σ H s)(r:Vals vs us)(h:∀x dx,H x=none->H dx=none->dx≠x->sp (.ref x::(vs++dvs)) (upd (upd H dx (.own x)) x (.ins C dx [])) (λv H2=>v=.non/\Q (.ref x) H2) E):wpAny (model X.prog X.w) X.A (call (.ref C) us) (EP X pins σ Q) X.xe s:=by have d:=h (s.1.1.size+1) s.1.1.size (I.hok.fresh (aba _)) (I.hok.fresh (aab _)) (aap (aaz _));have b:=Inv.made (C:=C) I;have c:Vals (V.ref (s.1.1.size+1)::(vs++dvs)) (Value.ref (s.1.1.size+1)::(us++ds)):=.cons rfl (r.append hd);have j:(Value.ref (s.1.1.size+1)::us++ds).length=ps.length:=by{have e:=c.length;rw[F.len _ _ _ _ d]at e;exact e.symm};refine wpAny_call (xU (f:=f) I.kIn M.makes M.init (beq_iff_eq.mp M.fn) (codeAny_mono (F.run _ X.stack _ _ {Value.ref (s.1.1.size+1)::us,[]} (Value.ref (s.1.1.size+1)::(us++ds)) _ _ E (hr.make C us []) (b.env0.make C us []) (l _ (Value.ref (s.1.1.size+1)::us) b.kIn j) c d) λr s' a=>?_));cases r with|error e=>exact hx pins σ _ _ e s' b a|ok fl=>cases fl with|ret u=>let⟨v,H',n,g,m,i⟩:=b.after a;subst m;exact{g,{V.ref (s.1.1.size+1),H',n,rfl,i}}|next=>exact faa a|brk=>exact faa a|cont=>exact faa a
def DH(M:Mk X.K C f)(F:FnOk X.prog X.w X.K X.mg X.base CX k f fd ps sp)(hr:Room (k+1) X.A)(g:Gl X x)(d:X.mg x=!(.ref C))(j:Binds X.K fd ps ds)(hd:Vals dvs ds)(hx:iK CX X E)(l:PA X (e::es) t)(b:autoParam ((x==("__debug__":Str))=false) _L.aD._auto_1)(i:autoParam (starEach (e::es) X.env=(false,eval e X.env)::starEach es X.env) _L.aR._auto_1)(a:autoParam ((backTo pos (starEach es X.env)).any (·.1)=false) _L.aR._auto_1):PE X (.Call (.Name x p) (e::es) [] pos) (DE C sp dvs E t):=by intro pins s σ H Q I h;refine wpAny_Call_Name_kw (nk I g d ?_ b);refine PySem.W.callWith_K (h₀:=X.base) I.ok.mod.kin M.kp (thn (l pos pins s σ H _ I h) λus m {(vs),H1,c,r,q}=>{c.kIn,?_}) i a;exact xX M F hr j hd hx c r q
end
structure FnScope(N P:↥Str)(sc:Scope):Prop where
 kind:sc.kind=.function
 co:sc.isCoroutine=false
 gen:sc.isGenerator=false
 nd:N.Nodup
 pre:N.take P.length=P
 par:∀x∈P,sc.names.lookup x=↑.local∨sc.names.lookup x=!.cell
 nofree:∀y∈sc.names,y.2≠.free
theorem lG{kindOf:Str->Option NameKind}{x:Str}:∀{binds:↥(Str×Value)}{m:Str->Option Value},(∀v,(x,v)∉binds)->bindL kindOf binds m x=m x|[],_,_=>rfl|(n,v)::r,m,h=>by unfold bindL;rw[lG λw a=>h w (aad _ a)];split;have:x≠n:=by{rintro rfl;exact h v aac};simp[this];rfl
theorem lH{kindOf:Str->Option NameKind}{x:Str}:∀{binds:↥(Str×Value)}{m:Str->Option Value},(∀v,(x,v)∉binds)->bindC kindOf binds m x=m x|[],_,_=>rfl|(n,v)::r,m,h=>by unfold bindC;rw[lH λw a=>h w (aad _ a)];split;rfl;have:x≠n:=by{rintro rfl;exact h v aac};simp[this]
theorem lI{kindOf:Str->Option NameKind}{x:Str}{v:Value}:∀{P:↥Str}{vs:↥Value}{i:Nat}{m:Str->Option Value},P.Nodup->P[i]?=!x->vs[i]?=!v->kindOf x=↑.local ->bindL kindOf (P.zip vs) m x=!v|[],_,_,_,_,h,_,_=>by simp at h|_::_,[],_,_,_,_,h,_=>by simp at h|p::P,w::vs,0,m,nd,h1,h2,a=>by simp at h1 h2;subst h1;subst h2;show bindL kindOf ((p,w)::P.zip vs) m p=_;unfold bindL;rw[lG λv b=>(List.nodup_cons.mp nd).1 (List.of_mem_zip b).1,if_pos a];simp|p::P,w::vs,i+1,m,nd,h1,h2,a=>by show bindL kindOf ((p,w)::P.zip vs) m x=_;unfold bindL;exact lI (i:=i) (ab4.mp nd).2 (by exists h1) (by exists h2) a
theorem lJ{kindOf:Str->Option NameKind}{x:Str}{v:Value}:∀{P:↥Str}{vs:↥Value}{i:Nat}{m:Str->Option Value},P.Nodup->P[i]?=!x->vs[i]?=!v->kindOf x≠↑.local ->bindC kindOf (P.zip vs) m x=!v|[],_,_,_,_,h,_,_=>by simp at h|_::_,[],_,_,_,_,h,_=>by simp at h|p::P,w::vs,0,m,nd,h1,h2,a=>by simp at h1 h2;subst h1;subst h2;show bindC kindOf ((p,w)::P.zip vs) m p=_;unfold bindC;rw[lH λv b=>(List.nodup_cons.mp nd).1 (List.of_mem_zip b).1,if_neg a];simp|p::P,w::vs,i+1,m,nd,h1,h2,a=>by show bindC kindOf ((p,w)::P.zip vs) m x=_;unfold bindC;exact lJ (i:=i) (ab4.mp nd).2 (by exists h1) (by exists h2) a
def start(N:↥Str)(vs:↥V):St:=vs.map some++List.replicate (N.length - vs.length) none
def sN(CX:CXT)(P:Program)(w:World)(K:Frag)(mg:Str->Option Value)(base:Heap)(N:↥Str)(qual:Str)(scope:Scope)(f:Addr)(cd:Value)(A:Around)(outer:↥Env)(s:Shared)(H:Hp)(E:XK):Cx where
 prog:=P
 w:=w
 K:=K
 mg:=mg
 base:=base
 A:=A.deeper (envOfC qual scope s.1.1.size f cd)
 N:=N
 s₀:=s
 H₀:=H
 env:=envOfC qual scope s.1.1.size f cd
 outer:=outer
 stack:=envOfC qual scope s.1.1.size f cd::outer
 ex:=[]
 calm:=true
 fn:=λ_=>true
 pn:=[]
 xe:=λe s'=>wpAny (model P w) (A.deeper (envOfC qual scope s.1.1.size f cd)) (leaving (envOfC qual scope s.1.1.size f cd) e) (λ_ s''=>CX outer H s E e s'') (λe' s''=>CX outer H s E e' s'') s'
def oI{a:Scope}(h:a.names.lookup x=!.cell):∃c,(cellsFrom n a.names []).lookup x=!c:=by have q:=PySem.W.cellsFrom_some a.names n [] (.inl h);exact acn.mp q
def sO{K:Frag}{f:Addr}{o:Value}{t:Shared}{E:XK}(S:FnScope N ps scope)(hd:A.handled=none)(d:Env0 P w K mg base A outer s H)(I:vs.length=ps.length)(r:Vals vs us)(x:InCallC s s.1.1.size (bindL (envOfC qual scope s.1.1.size f o).kindOf (ps.zip us) λ_=>none) (cellsFrom (s.1.1.size+1) scope.names []) (bindC (envOfC qual scope s.1.1.size f o).kindOf (ps.zip us) λ_=>none) t):Inv (sN CX P w K mg base N qual scope f o A outer s H E) [] (start N vs) H t:=by have F:ps.length<=N.length:=by{have:=congrArg List.length S.pre;rw[aam]at this;nofun};let⟨h1,tk,rfl,C⟩:=x.done;have g:∀b:Addr,b∉(sN CX P w K mg base N qual scope f o A outer s H E).ex:=λb z=>absurd (show b∈([]:↥Addr)from z) (by simp);refine{{d.mod,S.kind,rfl,rfl,aab _,λy z c h1 h2=>?_,λy j=>?_,λy c _ h=>?_,λ_=>hd,Around.frames_deeper d.frames,.inr {(rfl),rfl},λb z=>absurd z (g b),d.bs,d.bsz,λb _ _=>g b,λb z=>absurd z (g b),d.funs,d.frf},rfl,d.bare,Un.kept C,{_,x.toInCall.ns,λi y v h1 h2 J=>?_},λy c h=>{_,x.cell y c h},d.hok.fresh (aab _),λy c h=>?_,λp m=>absurd (show p∈([]:↥(Addr×Obj))from m) (by simp),d.hok.kept C,?_};exact name_of_addr x.apart (aaV h1) (aaV h2);have j:scope.names.lookup y=↑.cell∨scope.names.lookup y=!.free:=j;rcases j with j|j;exact oI j;exact absurd rfl (S.nofree _ (aaV j));exact acM (x.above y c (aaV h));have hi:i<vs.length:=by{unfold start at h2;by_cases hi:i<vs.length;exact hi;rw[ab7 (by exists hi)]at h2;rw[List.getElem?_replicate]at h2;split at h2<;>cases h2};have G:vs[i]?=!v:=by{unfold start at h2;rw[acg (by exists hi),abW]at h2;cases e:vs[i]? with|none=>rw[e]at h2;cases h2|some a=>rw[e]at h2;cases h2;rfl};let⟨u,B,D⟩:=r.get G;have m:ps[i]?=!y:=by{rw[←S.pre,acr ()];exact h1};have l:ps.Nodup:=by{rw[←S.pre];exact S.nd.sublist (aa6 _ _)};refine{u,D,?_};rcases S.par y (abX m)with k|k;exact .inl {k,lI l m B k};let⟨c,e⟩:=oI (n:=s.1.1.size+1) k;refine .inr {.inl k,c,e,?_};have q:=x.cell y c e;rw[lJ l m B (by show scope.names.lookup y≠_;rw[k];decide)]at q;exact q;exact d.hok.fresh (acM (x.above y c (aaV h)));unfold start;show _=N.length;rw[aag,abR,aaJ];nofun
def Nn{K:Frag}{f:Addr}{a:Arguments}{B kV doc pm cdv ct oc:Value}{an od:Option Addr}{osl:Array (Option Value)}   (lk:K.lookup f=!{oc,od,.func (PySem.W.fnOf name qual a body scope B kV doc pm an cdv ct),osl}) (p:PySem.W.codeIn K cdv qual=true) (S:FnScope N ps scope) (len:∀vs H Q E,sp vs H Q E->vs.length=ps.length) (g:∀(A:Around)(outer:↥Env)(s:Shared)(H:Hp)(vs:↥V)(Q:VK)(E:XK),Room k (A.deeper (envOfC qual scope s.1.1.size f cdv))->sp vs H Q E ->∃t,PSs (sN CX P w K mg base N qual scope f cdv A outer s H E) body t/\t {nx:=λ_ H'=>Q .non H',rt:=Q} (start N vs) H):FnOk P w K mg base CX (k+1) f (PySem.W.fnOf name qual a body scope B kV doc pm an cdv ct) ps sp:=by refine{len,λA outer s H args us vs Q E hr j O r i=>?_};have L:=len _ _ _ _ i;have C:K.In s.1:=j.mod.kin.keeps λb o e=>(j.bs b o e).1;have m:s.1.NoLimit:=j.mod.nolimit.keeps λb o e=>(j.bs b o e).1;have d:∀y∈ps.zip us,scope.names.lookup y.1=↑.local∨(scope.names.lookup y.1=!.cell/\((cellsFrom (s.1.1.size+1) scope.names []).lookup y.1).isSome=true):=fun⟨n,v⟩ D=>by{rcases S.par n (List.of_mem_zip D).1 with q|q;exact .inl q;exact .inr {q,PySem.W.cellsFrom_some _ _ _ (.inl q)}};refine codeAny_call_function hr.depth (C _ _ lk) rfl S.co S.gen rfl (PySem.W.codeRec_of C p) (O _ _ _ _ ?_);refine wpAny_newFunctionEnv_cells S.kind d λenv M z x=>?_;subst M;refine{m.keeps x.toInCall.keep,codeAny_func ?_};let⟨t,F,G⟩:=g A outer s H vs Q E (hr.deeper _) i;have I:Inv (sN CX P w K mg base N qual scope f cdv A outer s H E) [] (start N vs) H z:=sO S hr.hd j L r x;refine abz (F [] z (start N vs) H _ I G) (λfl s' hs=>?_) λe s' hs=>hs;have fin:∀{c:St}{H':Hp}{v:V}{u:Value},Inv (sN CX P w K mg base N qual scope f cdv A outer s H E) [] c H' s'->RelV v u->Q v H'->CE outer P w H s Q u s':=fun {c H' v u} J l q=>{(v),H',J.os,J.bare,J.base,J.hok,l,q};cases fl with|ret u=>let⟨v,c,H',J,l,q⟩:=hs;exact fin J l q|next=>let⟨c,H',J,q⟩:=hs;exact fin (v:=V.non) (u:=Value.none) J rfl q|brk=>let⟨_,_,_,q⟩:=hs;exact faa q|cont=>let⟨_,_,_,q⟩:=hs;exact faa q
section
variable       {id T:String} {r:↥V->Hp->VK->Prop}
def tCB(r:↥V->Hp->VK->Prop)(t:TA):TE:=λσ H Q=>t σ H λvs H1=>r vs H1 Q
def xY(m:CallR X (.builtin id) r)(k:Gl X x)(j:X.mg x=none)(g:bootBuiltins x=!(.builtin id))(n:PA X (e::es) t)(i:autoParam (x≠ "__name__") _L.aD._auto_1)(b:autoParam ((x==("__debug__":Str))=false) _L.aD._auto_1)(l:autoParam (starEach (e::es) X.env=(false,eval e X.env)::starEach es X.env) _L.aR._auto_1)(a:autoParam ((backTo pos (starEach es X.env)).any (·.1)=false) _L.aR._auto_1):PE X (.Call (.Name x p) (e::es) [] pos) (tCB r t):=by intro pins s σ H Q I h;refine wpAny_Call_Name_kw (iD I k j g ?_ i b);exact PyProof.Rows.callWith_builtin1 (thn (n pos pins s σ H _ I h) λus c {(vs),H1,o,d,f}=>m pins c σ H1 vs us Q o d f) l a
def sP(m:CallR X (.type T) r)(k:Gl X x)(j:X.mg x=none)(g:bootBuiltins x=!(.type T))(n:PA X (e::es) t)(i:autoParam (x≠ "__name__") _L.aD._auto_1)(b:autoParam ((x==("__debug__":Str))=false) _L.aD._auto_1)(l:autoParam (starEach (e::es) X.env=(false,eval e X.env)::starEach es X.env) _L.aR._auto_1)(a:autoParam ((backTo pos (starEach es X.env)).any (·.1)=false) _L.aR._auto_1):PE X (.Call (.Name x p) (e::es) [] pos) (tCB r t):=by intro pins s σ H Q I h;refine wpAny_Call_Name_kw (iD I k j g ?_ i b);exact aa7 (thn (n pos pins s σ H _ I h) λus c {(vs),H1,o,d,f}=>m pins c σ H1 vs us Q o d f) l a
end
end _L
namespace HT
open PySem PyProof.Rows
variable{t sl:Addr}{Q:Value->Shared->Prop}{vl vu:Value}{lo hi:Option Int}
section
variable{prog:Program}{w:World}{A:Around}{E:Value->Shared->Prop}{s:Shared}
def cat_tup{b:Addr}{vs ws:↥Value}(q:IsTup s.1 t vs.toArray)(r:IsTup s.1 b ws.toArray)(l:vs≠[])
  (h1:ws=[]->Q (.ref t) s) (h2:ws≠[]->Q (.ref s.1.1.size) {s with heap:=s.1.push {cls:=.type "tuple",data:=.seq (vs++ws).toArray}})
  (hsz:vs.length+ws.length<=sizeLine):wpAny (model prog w) A (binaryOp .Add (.ref t) (.ref b)) Q E s:=by
 let⟨⟨cls,o,data,sl⟩,j,m,n,hd⟩:=id q;let⟨⟨p,g,data2,c⟩,a,f,k,d⟩:=id r;simp only at m hd f d;subst m hd f d;have e:vs.toArray++ws.toArray=(vs++ws).toArray:=by simp
 by_cases i:ws=[]
 .exact concat_meets {_,j,rfl} {_,a,rfl} noFill_tuple_add seq_tuple_add PySem.F.slot_tuple_add PySem.F.entry_tuple_add (PySem.F.args_tuple_add_2 _ _)
   (tuple_addW1 t b vs.toArray ws.toArray n k o g sl c (by exists l) (by simp[i])) {j,a,h1 i}
 .refine concat_meets {_,j,rfl} {_,a,rfl} noFill_tuple_add seq_tuple_add PySem.F.slot_tuple_add PySem.F.entry_tuple_add (PySem.F.args_tuple_add_2 _ _)
   (tuple_addW2 t b vs.toArray ws.toArray n k o g sl c (by exists l) (by exists i) (by rw[aca,aca];exact hsz)) {j,a,?_}
  rw[e];exact h2 i
def sIx(n d:Nat):Option Int->Nat|none=>d|some v=>if v<0 then (v+(n:Int)).toNat else min v.toNat n
def sIx_none(n d:Nat):sIx n d none=d:=-rfl
def sIx_nat(n d k:Nat):sIx n d ↑(k:Int)=min k n:=by show (if (k:Int)<0 then ((k:Int)+(n:Int)).toNat else min (k:Int).toNat n)=min k n;rw[if_neg (),acq]
def sIx_le(n d:Nat)(hd:d<=n)(o:Option Int):sIx n d o<=n:=by cases o with|none=>exact hd|some v=>show (if v<0 then (v+(n:Int)).toNat else min v.toNat n)<=n;by_cases a:v<0;rw[if_pos a];nofun;rw[if_neg a];exact Nat.min_le_right _ _
def clip_eq(v:Int)(n d:Nat):(if v<0 then max (v+(n:Int)) 0 else min v (n:Int))=((sIx n d ↑v:Nat):Int):=by show (if v<0 then max (v+(n:Int)) 0 else min v (n:Int))=(((if v<0 then (v+(n:Int)).toNat else min v.toNat n):Nat):Int);by_cases a:v<0;simp only[if_pos a];nofun;simp only[if_neg a];nofun
def qM(lo hi:Option Int)(n:Nat):Builtin.Slice.sliceAdjust lo hi 1 (n:Int)=(((sIx n 0 lo:Nat):Int),((sIx n n hi:Nat):Int)):=by have h1:¬((1:Int)<0):=();unfold Builtin.Slice.sliceAdjust;simp only[h1,if_false];refine Prod.ext ?_ ?_;cases lo with|none=>rfl|some v=>{exact clip_eq v n 0};cases hi with|none=>rfl|some v=>exact clip_eq v n n
def qO(i j:Nat):Builtin.Slice.slicePlaces (i:Int) (j:Int) 1=j - i:=by unfold Builtin.Slice.slicePlaces;have h1:(1:Int)>0:=();simp only[h1,if_true,Int.ediv_one];split<;>nofun
def jT{v:Value}{o:Option Int}{Q:Option Int->Shared->Prop}(p:IsPart v o)(h:Q o s):wpAny (model prog w) A (Builtin.Slice.slicePartIndex v) Q E s:=by cases p with|none=>exact slicePart_none h|int i t=>exact slicePart_int h
def eu{n:Nat}{Q:Int×Int×Nat->Shared->Prop}(hs:s.1.IsSliceOf sl vl vu .none)(pl:IsPart vl lo)(c:IsPart vu hi)(h:Q (((sIx n 0 lo:Nat):Int),1,sIx n n hi - sIx n 0 lo) s):wpAny (model prog w) A (Builtin.Slice.sliceApplied (.ref sl) (pure (n:Int))) Q E s:=by let⟨os,a,d,b⟩:=id hs;unfold Builtin.Slice.sliceApplied Builtin.Slice.sliceFields;refine aaa (aaa (wpAny_field a b (x:=vl) rfl (aaa (wpAny_field a b (x:=vu) rfl (aaa (wpAny_field a b (x:=.none) rfl (aaf ?_)))))));refine aaa (slicePart_none ?_);show wpAny _ _ (if ((1:Int)==0)=true then _ else _) _ _ s;rw[if_neg (by decide)];refine aaa (jT pl (aaa (jT c (aaa (aaf ?_)))));show wpAny _ _ (match Builtin.Slice.sliceAdjust lo hi 1 (n:Int)with|(lo,hi)=>pure (lo,(1:Int),Builtin.Slice.slicePlaces lo hi 1)) _ _ s;rw[qM lo hi n];show wpAny _ _ (pure (((sIx n 0 lo:Nat):Int),(1:Int),Builtin.Slice.slicePlaces ((sIx n 0 lo:Nat):Int) ((sIx n n hi:Nat):Int) 1)) _ _ s;rw[qO];exact aaf h
def xZ(xs:Array Value)(i k:Nat):((List.range k).filterMap λ(m:Nat)=>xs[((i:Int)+(m:Int)*1).toNat]?).toArray=((xs.toList.drop i).take k).toArray:=by have e:(λ(m:Nat)=>xs[((i:Int)+(m:Int)*1).toNat]?)=λm=>xs[i+m]?:=by{funext m;have:((i:Int)+(m:Int)*1).toNat=i+m:=();rw[this]};rw[e];have:=pick_run xs i k;rw[List.filterMap_map]at this;have a:((λx=>xs[x]?) ∘ λx=>i+x)=λm=>xs[i+m]?:=rfl;rw[a]at this;rw[this]
def getItem_tuple_cut{items:Array Value}(b:IsTup s.1 t items)(hs:s.1.IsSliceOf sl vl vu .none)(pl:IsPart vl lo)(g:IsPart vu hi)
  (i:¬(sIx items.size 0 lo=0/\sIx items.size items.size hi=items.size))
  (h:Q (.ref s.1.1.size) {s with heap:=s.1.push {cls:=.type "tuple",data:=.seq ((items.toList.drop (sIx items.size 0 lo)).take (sIx items.size items.size hi - sIx items.size 0 lo)).toArray}})
  (hsz:items.size<=sizeLine):wpAny (model prog w) A (getItem (.ref t) (.ref sl)) Q E s:=by
 have a:sizeOk (.seq ((items.toList.drop (sIx items.size 0 lo)).take (sIx items.size items.size hi - sIx items.size 0 lo)).toArray):=by
  show ((items.toList.drop (sIx items.size 0 lo)).take (sIx items.size items.size hi - sIx items.size 0 lo)).toArray.size<=sizeLine;rw[aca,aam,aaC,acd];omega
 have n:sIx items.size items.size hi<=items.size:=sIx_le _ _ (aab _) hi;let⟨os,c,e,j⟩:=id hs;have f:s.TypeIs (.ref sl) "slice":={(os),c,e};unfold getItem
 try with_reducible refine aaT ?_
 first|refine aaa (aaf ?_)|skip
 refine aaa (wpAny_sequenceKey b.typeIs (by decide) ?_)
 refine aaa (wpAny_callSpecial?_slot (name:=Str.ofString "__getitem__") b.typeIs abd
  (aaF abd b.typeIs entry_tuple_getitem ?_ (args_tuple_getitem _ _)))
 show wpAny _ _ (Builtin.Tuple.tupleItemsOf (.ref t)>>=_) _ _ s;refine aaa (tupleItemsOf_ b ?_);refine aaa (wpAny_typeOf f ?_);rw[if_pos (by decide)];refine aaa (eu hs pl g ?_)
 have d:¬((((sIx items.size 0 lo:Nat):Int)==0&&(1:Int)==1&&(sIx items.size items.size hi - sIx items.size 0 lo)==items.size)=true):=by
  intro q;rw[ach,ach]at q;have l:((sIx items.size 0 lo:Nat):Int)=0:=eq_of_beq q.1.1;have k:sIx items.size items.size hi - sIx items.size 0 lo=items.size:=eq_of_beq q.2;exact i {by omega,by omega}
 show wpAny _ _ (if (((sIx items.size 0 lo:Nat):Int)==0&&(1:Int)==1&&(sIx items.size items.size hi - sIx items.size 0 lo)==items.size)=true then _ else _) _ _ s;rw[if_neg d,xZ]
 first
  |exact aaa (m:=Builtin.Tuple.tupleExact _) (aaO (aaf {_,rfl,aaf h}) a)
  |exact aaa (m:=Builtin.Tuple.tupleExact _) (aaO (aaa (aaf (aaf {_,rfl,aaf h}))) a)
  |exact aaa (aaa (m:=Builtin.Tuple.tupleExact _) (aaO (aaf (aaf {_,rfl,aaf h})) a))
  |exact aaa (aaa (m:=Builtin.Tuple.tupleExact _) (aaO (aaf {_,rfl,aaf h}) a))
end
end HT
namespace _L
open PySem PySem.Spec PyProof.Rows
variable{X:Cx}{e:Expr}{pos apos cpos:Pos}{r:V->Option Int->Option Int->Hp->VK->Prop}{xs:↥(↥Key×Addr×Value)}{us its its':↥Value}{n j t':Nat}{i:Int}{α:Type}{pins:↥(Addr×Obj)}{σ:St}{H H':Hp}{s:Shared}{ys:↥V}{A:Around}{y x d:V}{u v:Value}{T:String}{o:Option V}{b a:Addr}{w:World}{E Q:Value->Shared->Prop}{P:Program}{k:Key}{kvs:↥(↥Key×V)}{h':Heap}{td ty tv:TE}{trs:↥(TE×TE)}
abbrev TO:=St->Hp->(Option Int->Hp->Prop)->Prop
def PO(X:Cx)(e:Option Expr)(t:TO):Prop:=∀(pins:↥(Addr×Obj))(s:Shared)(σ:St)(H:Hp)(Q:Option Int->Hp->Prop),Inv X pins σ H s->t σ H Q ->wpAny (model X.prog X.w) X.A (evalPart e X.env) (λu s'=>∃o H',Inv X pins σ H' s'/\IsPart u o/\Q o H') X.xe s
def ny:TO:=λ_ H Q=>Q none H
def DI(t:TE):TO:=λσ H Q=>t σ H λx H1=>∃i,x=.int i/\Q ↑i H1
section
variable   {te:TE} {lo hi:Option Expr} {tl th:TO} {p2:Pos}
def DJ:PO X none ny:=by intro pins s σ H Q I h;rw[evalPart_none];exact aaf {none,H,I,.none,h}
def DK(h:PE X e te):PO X ↑e (DI te):=by intro pins s σ H Q I c;rw[evalPart_some];refine thn (h pins s σ H _ I c) λu f y=>?_;let⟨x,H1,d,a,b⟩:=y;let⟨i,rfl,q⟩:=b;let⟨t,rfl⟩:=a;exact{!i,H1,d,.int i t,q}
def SlR(X:Cx)(r:V->Option Int->Option Int->Hp->VK->Prop):Prop:=∀(pins:↥(Addr×Obj))(s:Shared)(σ:St)(H:Hp)(x:V)(v vl vu:Value)(lo hi:Option Int)(sl:Addr)(Q:VK),Inv X pins σ H s->RelV x v->s.1.IsSliceOf sl vl vu .none->IsPart vl lo->IsPart vu hi->r x lo hi H Q ->∃T id,typeLookup (.type T) "__getitem__"=pure !(.builtin id)/\s.TypeIs v T/\wpAny (model X.prog X.w) X.A (getItem v (.ref sl)) (EP X pins σ Q) X.xe s
def SlR.or{r':V->Option Int->Option Int->Hp->VK->Prop}(h:SlR X r)(h':SlR X r'):SlR X (λx lo hi H Q=>r x lo hi H Q∨r' x lo hi H Q):=by intro pins s σ H x v vl vu lo hi sl Q I a hs pl b q;rcases q with q|q;exact h pins s σ H x v vl vu lo hi sl Q I a hs pl b q;exact h' pins s σ H x v vl vu lo hi sl Q I a hs pl b q
def tSl(r:V->Option Int->Option Int->Hp->VK->Prop)(te:TE)(tl th:TO):TE:=λσ H Q=>te σ H λx H1=>tl σ H1 λl H2=>th σ H2 λu a=>r x l u a Q
def oJ(hr:SlR X r)(w:PE X e te)(p:PO X lo tl)(n:PO X hi th):PE X (.Subscript e (.Slice lo hi none p2) pos) (tSl r te tl th):=by intro pins s σ H Q I h;refine Subscript_ (thn (w pins s σ H _ I h) λv f b=>?_);let⟨x,H1,C,g,k⟩:=b;refine wpAny_Slice (thn (p pins f σ H1 _ C k) λvl d {(l),H2,B,pl,j}=>thn (n pins d σ H2 _ B j) λvu a D=>?_);let⟨u,c,A,m,i⟩:=D;rw[evalPart_none];refine aaf ?_;have z:Inv X pins σ c {a with heap:=a.1.push {cls:=.type "slice",data:=.fields #[vl,vu,.none]}}:=A.kept (t':=a.toks) λb ob q=>abV _ q;let⟨T,id,y,o,t⟩:=hr pins {a with heap:=a.1.push {cls:=.type "slice",data:=.fields #[vl,vu,.none]}} σ c x v vl vu l u a.1.1.size Q z g (Heap.IsSliceOf.new ..) pl m i;show wpAny (model X.prog X.w) X.A (subscriptTail e (.Slice lo hi none p2) v (.ref a.1.1.size)) (EP X pins σ Q) X.xe {a with heap:=a.1.push {cls:=.type "slice",data:=.fields #[vl,vu,.none]}};exact tail_any (ops:=[.ref a.1.1.size,v]) o y t (by with_unfolding_all rfl)
def HN(xs:↥V)(lo hi:Option Int):↥V:=(xs.drop (HT.sIx xs.length 0 lo)).take (HT.sIx xs.length xs.length hi - HT.sIx xs.length 0 lo)
def iL(xs:↥V)(lo hi:Option Int):(HN xs lo hi).length<=xs.length:=by unfold HN;rw[aam,aaC];nofun
def OX(K:Frag):V->Option Int->Option Int->Hp->VK->Prop:=λx lo hi H Q=>∃a xs,x=.ref a/\SqT K H a xs/\ ¬(HT.sIx xs.length 0 lo=0/\HT.sIx xs.length xs.length hi=xs.length)/\∀p,H p=none->Q (.ref p) (upd H p (.tup (HN xs lo hi)))
def IL:SlR X (OX X.K):=by intro pins s σ H x v vl vu lo hi sl Q I f hs pl g h;let⟨a,xs,rfl,i,j,q⟩:=h;cases f;let⟨its,r,e,d⟩:=I.tuple i;have c:its.toArray.size=xs.length:=by{rw[aca];exact r.length.symm};refine{"tuple",_,PyProof.Rows.slot_tuple_getitem.lookup,e.typeIs,?_};refine HT.getItem_tuple_cut e hs pl g (by rw[c];exact j) ?_ (by rw[c];exact d);rw[c];refine{.ref s.1.1.size,_,I.laid (t':=s.toks) (o:=.tup (HN xs lo hi)) (λb ob q=>abV _ q) (aab _) ?_,rfl,q _ (I.hok.fresh (aab _))};exact{aao (iL xs lo hi) d,_,(r.drop (HT.sIx xs.length 0 lo)).take (HT.sIx xs.length xs.length hi - HT.sIx xs.length 0 lo),IsTup.new _ _}
def IM(K:Frag):R2:=λx y H Q=>∃a b xs ys,x=.ref a/\y=.ref b/\SqT K H a xs/\SqT K H b ys/\xs≠[]/\xs.length+ys.length<=sizeLine/\ (ys=[]->Q (.ref a) H)/\(ys≠[]->∀p,H p=none->Q (.ref p) (upd H p (.tup (xs++ys))))
def Vals.nil_iff{xs:↥V}(r:Vals xs us):us=[]↔xs=[]:=by cases r with|nil=>simp|cons _ _=>simp
def DL:OpR X (binaryOp .Add) (IM X.K):=by intro pins s σ H x y v u Q I i g h;let⟨a,b,xs,ys,rfl,rfl,p,n,m,f,k,j⟩:=h;cases i;cases g;let⟨its,d,l,_⟩:=I.tuple p;let⟨e,c,p2,_⟩:=I.tuple n;refine HT.cat_tup l p2 (λz=>m (d.nil_iff.mp z)) (λz=>{.ref a,H,I,rfl,k (c.nil_iff.mp z)}) (λz=>?_) (by rw[←d.length,←c.length];exact f);refine{.ref s.1.1.size,_,I.laid (t':=s.toks) (o:=.tup (xs++ys)) (λb ob q=>abV _ q) (aab _) ?_,rfl,j (λw=>z (c.nil_iff.mpr w)) _ (I.hok.fresh (aab _))};exact{by rw[aag];exact f,_,d.append c,IsTup.new _ _}
end
def ixN(n:Nat)(i:Int):Option Nat:=if 0<=i then (if i<n then ↑i.toNat else none) else if -(n:Int)<=i then ↑(i+n).toNat else none
def atI{α:Type}(xs:↥α)(i:Int):Option α:=(ixN xs.length i).bind λj=>xs[j]?
def sQ(h:ixN n i=!j):seqIndex? i n=!j/\j<n/\-(n:Int)<=i/\i<n:=by unfold ixN at h;by_cases a:0<=i;rw[if_pos a]at h;by_cases h1:i<n;rw[if_pos h1]at h;have e:i.toNat=j:=aak h;exact{by rw[seqIndex_of a h1,e],(),(),h1};rw[if_neg h1]at h;cases h;rw[if_neg a]at h;by_cases h1:-(n:Int)<=i;rw[if_pos h1]at h;have e:(i+n).toNat=j:=aak h;exact{by rw[seqIndex_neg () h1,e],(),h1,()};rw[if_neg h1]at h;cases h
def nD{xs:↥α}{v:α}(h:atI xs i=!v):∃j,seqIndex? i xs.length=!j/\xs[j]?=!v/\j<xs.length/\-(xs.length:Int)<=i/\i<xs.length:=by unfold atI at h;cases e:ixN xs.length i with|none=>rw[e]at h;cases h|some j=>rw[e]at h;let⟨h1,h2,b,a⟩:=sQ e;exact{(j),h1,h,h2,b,a}
def cV{xs:↥α}{v:α}(h:xs[j]?=!v):atI xs (j:Int)=!v:=by have a:j<xs.length:=(abT.mp h).1;have e:ixN xs.length (j:Int)=!j:=by{unfold ixN;rw[if_pos (),if_pos ()];simp};unfold atI;rw[e];exact h
def x2(xs:↥α)(v:α):atI (xs++[v]) (-1)=!v:=by have a:(xs++[v]).length=xs.length+1:=by{simp};have e:ixN (xs++[v]).length (-1)=!xs.length:=by{unfold ixN;rw[a,if_neg (by decide),if_pos ()];congr 1;nofun};unfold atI;rw[e];show (xs++[v])[xs.length]?=!v;simp
def DM(b:Expr):Prop:=∀o i,subscripted b false o i=operate [o,i] (getItem o i)
def IxR(X:Cx)(r:R2):Prop:=∀(value slice:Expr)(pins:↥(Addr×Obj))(s:Shared)(σ:St)(H:Hp)(x y:V)(v u:Value)(Q:VK),Inv X pins σ H s->RelV x v->RelV y u->r x y H Q ->subscripted slice false v u=operate [v,u] (getItem v u)->wpAny (model X.prog X.w) X.A (subscriptTail value slice v u) (EP X pins σ Q) X.xe s
def MtR(X:Cx)(id:String)(r:V->↥V->Hp->VK->Prop):Prop:=∀(pins:↥(Addr×Obj))(s:Shared)(σ:St)(H:Hp)(x:V)(xs:↥V)(v:Value)(us:↥Value)(Q:VK),Inv X pins σ H s->RelV x v->Vals xs us->r x xs H Q ->wpAny (model X.prog X.w) X.A (call (.builtin id) (v::us)) (EP X pins σ Q) X.xe s
section
variable  {a b:Expr} {ta tb:TE}
def IxR.or{r r':R2}(h:IxR X r)(h':IxR X r'):IxR X (λx y H Q=>r x y H Q∨r' x y H Q):=by intro value slice pins s σ H x y v u Q I b a q hs;rcases q with q|q;exact h value slice pins s σ H x y v u Q I b a q hs;exact h' value slice pins s σ H x y v u Q I b a q hs
def No{r:R2}(hr:IxR X r)(g:PE X a ta)(f:PE X b tb)(hs:DM b):PE X (.Subscript a b pos) (tOp r ta tb):=by intro pins s σ H Q I h;exact Subscript_ (Nb g f I h λv u c x y H2 i e d q=>hr a b pins c σ H2 x y v u Q i e d q (hs _ _))
def OY(K:Frag):R2:=λx y H Q=>∃p xs i v,x=.ref p/\y=.int i/\SqL K H p xs/\atI xs i=!v/\Q v H
def OZ(K:Frag):R2:=λx y H Q=>∃p xs i v,x=.ref p/\y=.int i/\SqT K H p xs/\atI xs i=!v/\Q v H
def O0:R2:=λx y H Q=>∃z i c,x=.str z/\y=.int i/\z.length<=sizeLine/\atI z.cps.toList i=!c/\Q (.str {#[c]}) H
def DN:IxR X (OY X.K):=by
 intro value slice pins s σ H x y v u Q I f e h hs;let⟨p,xs,i,z,rfl,rfl,g,l,q⟩:=h;cases f;let⟨t,rfl⟩:=e;let⟨its,r,pl,o⟩:=I.list g;let⟨j,h1,h2,B,n,m⟩:=nD l;let⟨w,d,a⟩:=r.get h2;have k:=r.length;have A:=iF;have fin:EP X pins σ Q w s:={(z),H,I,a,q};by_cases c:0<=i
 .have b:i.toNat=j:=by
   rw[seqIndex_of c m]at h1;exact aak h1
  exact item_listR pl.isList c () (by rw[b];simpa using d) fin hs
 .have b:(i+(its.toArray.size:Int)).toNat=j:=by
   rw[seqIndex_neg () n]at h1;rw[aca,←k];exact aak h1
  exact subscriptTail_builtinR (x:=w) pl.isList.typeIs slot_list_getitem.lookup
   (wpAny_getItem_list_neg (Q:=λr s'=>r=w/\EP X pins σ Q r s') pl.isList () (by rw[aca]<;>nofun) () (by rw[b];simpa using d) {(rfl),fin}) hs
def IN:IxR X (OZ X.K):=by
 intro value slice pins s σ H x y v u Q I c b h hs;let⟨p,xs,i,z,rfl,rfl,d,f,q⟩:=h;cases c;let⟨t,rfl⟩:=b;let⟨its,r,pl,k⟩:=I.tuple d;let⟨j,h1,h2,o,n,m⟩:=nD f;let⟨w,g,a⟩:=r.get h2;have e:=r.length;have l:=iF;have fin:EP X pins σ Q w s:={(z),H,I,a,q}
 exact subscriptTail_builtinR (x:=w) pl.typeIs slot_tuple_getitem.lookup
  (getItem_tuple (j:=j) (Q:=λr s'=>r=w/\EP X pins σ Q r s') pl () () (by rw[aca,←e];exact h1) (by exists g) {(rfl),fin}) hs
def IP:IxR X O0:=by intro value slice pins s σ H x y v u Q I b a h hs;let⟨z,i,c,rfl,rfl,m,e,q⟩:=h;let⟨t,rfl⟩:=b;let⟨t',rfl⟩:=a;let⟨j,h1,h2,o,g,f⟩:=nD e;have d:z.cps.toList.length=z.length:=by{simp[Str.length]};rw[d]at h1 g f;have n:=iF;exact tail_any (typeIs_str s z t) slot_str_getitem.lookup (getItem_str (c:=c) (by have l:decide (i< -(2 ^ 63:Int))=false:=decide_eq_false ();have k:decide (i ≥ 2 ^ 63)=false:=decide_eq_false ();rw[l,k,Bool.or_false]) (by rw[h1];simpa using h2) {.str {#[c]},H,I.tok _,{_,rfl},q}) hs
def rIx(K:Frag):R2:=λx y H Q=>OY K x y H Q∨OZ K x y H Q∨O0 x y H Q
def IQ:IxR X (rIx X.K):=-DN.or (IN.or IP)
def qP(its:↥Value)(n j:Nat)(u:Value):Obj.mapSeq (·.setIfInBounds j u) {cls:=.type "list",data:=.seq its.toArray n}={cls:=.type "list",data:=.seq (its.set j u).toArray n}:=by simp[Obj.mapSeq]
def Inv.lst{pins:↥(Addr×Obj)}{σ:St}{H:Hp}{s:Shared}{p:Addr}{xs:↥V}(I:Inv X pins σ H s)(h:H p=!(.lst xs)):∃(its:↥Value)(n:Nat),Vals xs its/\s.1.get? p=some {cls:=.type "list",data:=.seq its.toArray n}/\xs.length<=sizeLine:=by let⟨z,its,n,r,e⟩:=I.hok p _ h;exact{(its),n,r,e,z}
def Inv.lstUpd{p:Addr}{xs:↥V}{a:Nat}{f:Obj->Obj}(I:Inv X pins σ H s)(h:H p=!(.lst xs))(g:s.1.get? p=some {cls:=.type "list",data:=.seq its.toArray n})(c:f {cls:=.type "list",data:=.seq its.toArray n}={cls:=.type "list",data:=.seq its'.toArray a})(r:Vals ys its')(d:ys.length<=sizeLine)(t:Nat):Inv X pins σ (upd H p (.lst ys)) {s with heap:=s.1.update p f,toks:=t}:=by have e:(s.1.update p f).get? p=some {cls:=.type "list",data:=.seq its'.toArray a}:=by{rw[acE f g (by rw[c]<;>rfl),c]};refine I.write (x:=p) (e:=p) (by rw[h];trivial) (.inl rfl) (λb u i q=>(acv _ _ (abC i)).trans q) {_,e} ?_;exact{(d),its',a,r,e}
def DO:V->V->V->Hp->(Hp->Prop)->Prop:=λo i v H Q=>∃p xs k j,o=.ref p/\i=.int k/\H p=!(.lst xs)/\ixN xs.length k=!j/\Q (upd H p (.lst (xs.set j v)))
def ya:OS X DO:=by intro pins s σ H o i v ov A u Q I w x m h;let⟨p,xs,k,j,rfl,rfl,d,z,q⟩:=h;cases w;let⟨t,rfl⟩:=x;let⟨its,n,r,a,y⟩:=I.lst d;let⟨h1,h2,f,e⟩:=sQ z;have b:=r.length;have B:=iF;have l:Inv X pins σ (upd H p (.lst (xs.set j v))) {s with heap:=s.1.update p (Obj.mapSeq (·.setIfInBounds j u))}:=I.lstUpd d a (qP its n j u) (r.set m j) (by rw[aaG];exact y) s.toks;by_cases g:0<=k;have c:k.toNat=j:=by{rw[seqIndex_of g e]at h1;exact aak h1};exact PySem.W.ki_setAt a g () (by rw[aca,←b];exact e) (by rw[c];exact{_,l,q});have c:(k+(its.toArray.size:Int)).toNat=j:=by{rw[seqIndex_neg () f]at h1;rw[aca,←b];exact aak h1};exact PySem.W.ki_setBack a () (by rw[aca,←b];exact f) () (by rw[c];exact{_,l,q})
def lK(lo hi:Option Int)(n:Nat):(sliceBounds lo hi none n).1=((HT.sIx n 0 lo:Nat):Int)/\(sliceBounds lo hi none n).2.1=((HT.sIx n n hi:Nat):Int)/\(sliceBounds lo hi none n).2.2=1:=by refine{?_,?_,rfl};cases lo with|none=>simp [sliceBounds,HT.sIx]|some i=>{simp only[sliceBounds,HT.sIx,Option.getD_none,show (1:Int)>0 by decide,if_true];by_cases h:i<0;simp only[h,if_true]<;>nofun;simp only[h,if_false]<;>nofun};cases hi with|none=>simp [sliceBounds,HT.sIx]|some i=>simp only[sliceBounds,HT.sIx,Option.getD_none,show (1:Int)>0 by decide,if_true];by_cases h:i<0;simp only[h,if_true]<;>nofun;simp only[h,if_false]<;>nofun
def kB(its:↥Value)(lo hi:Option Int):slicePick its.toArray lo hi none=((its.drop (HT.sIx its.length 0 lo)).take (HT.sIx its.length its.length hi - HT.sIx its.length 0 lo)).toArray:=by let⟨h1,h2,a⟩:=lK lo hi its.toArray.size;unfold slicePick;rw[h1,h2,a];simp only[sliceRange_one,pick_run,List.size_toArray]<;>rfl
def O1(K:Frag):V->Option Int->Option Int->Hp->VK->Prop:=λx lo hi H Q=>∃a xs,x=.ref a/\SqL K H a xs/\∀p,H p=none->Q (.ref p) (upd H p (.lst (HN xs lo hi)))
def DP:SlR X (O1 X.K):=by intro pins s σ H x v vl vu lo hi sl Q I e hs pl f h;let⟨a,xs,rfl,i,q⟩:=h;cases e;let⟨its,r,d,g⟩:=I.list i;have c:=r.length;refine{"list",_,slot_list_getitem.lookup,d.isList.typeIs,?_};refine wpAny_getItem_list_slice d.isList hs pl f .none (by simp) ?_ (by rw[List.size_toArray]<;>nofun);rw[kB,←c];refine{.ref s.1.1.size,_,I.laid (t':=s.toks) (o:=.lst (HN xs lo hi)) (λb ob q=>abV _ q) (aab _) ?_,rfl,q _ (I.hok.fresh (aab _))};exact{aao (iL xs lo hi) g,_,0,(r.drop (HT.sIx xs.length 0 lo)).take (HT.sIx xs.length xs.length hi - HT.sIx xs.length 0 lo),ab0 _ rfl}
def iM:V->Bool|.non=>true|.bl _=>true|.int _=>true|.str _=>true|_=>false
def eqV:V->V->Bool|.non,.non=>true|.bl a,.bl b=>a==b|.bl a,.int b=>(if a then 1 else 0)==b|.int a,.bl b=>a==(if b then 1 else 0)|.int a,.int b=>a==b|.str a,.str b=>a==b|_,_=>false
def IR(d:RelV y u)(c:RelV x v)(f:iM y=true)(e:iM x=true):SeqAt.EqAt A s u v (eqV y x):=by cases y with|non=>{cases d;cases x with|non=>cases c;exact SeqAt.EqAt.same _|bl b=>cases c;exact SeqAt.EqAt.none_bool b|int b=>obtain ⟨t,rfl⟩:=c;exact SeqAt.EqAt.none_int b t|str b=>obtain ⟨t,rfl⟩:=c;exact SeqAt.EqAt.none_str b t|_=>exact absurd (show false=true from e) ab3}|bl a=>{cases d;cases x with|non=>cases c;exact SeqAt.EqAt.bool_none a|bl b=>cases c;exact SeqAt.EqAt.bool_bool a b|int b=>obtain ⟨t,rfl⟩:=c;exact SeqAt.EqAt.bool_int a b t|str b=>obtain ⟨t,rfl⟩:=c;exact SeqAt.EqAt.bool_str a b t|_=>exact absurd (show false=true from e) ab3}|int a=>{let⟨t',rfl⟩:=d;cases x with|non=>cases c;exact SeqAt.EqAt.int_none a t'|bl b=>cases c;exact SeqAt.EqAt.int_bool a t' b|int b=>obtain ⟨t,rfl⟩:=c;exact SeqAt.EqAt.int_int a t' b t|str b=>obtain ⟨t,rfl⟩:=c;exact SeqAt.EqAt.int_str a t' b t|_=>exact absurd (show false=true from e) ab3}|str a=>{let⟨t',rfl⟩:=d;cases x with|non=>cases c;exact SeqAt.EqAt.str_none a t'|bl b=>cases c;exact SeqAt.EqAt.str_bool a t' b|int b=>obtain ⟨t,rfl⟩:=c;exact SeqAt.EqAt.str_int a t' b t|str b=>obtain ⟨t,rfl⟩:=c;exact SeqAt.EqAt.str_str a t' b t|_=>exact absurd (show false=true from e) ab3}|_=>exact absurd (show false=true from f) ab3
def eqU(x:V)(u:Value):Bool:=match u with|.none=>eqV .non x|.bool b=>eqV (.bl b) x|.int i _=>eqV (.int i) x|.str z _=>eqV (.str z) x|_=>false
def BR(r:RelV y u)(f:iM y=true):eqU x u=eqV y x:=by cases y with|non=>cases r;rfl|bl b=>cases r;rfl|int i=>obtain⟨t,rfl⟩:=r;rfl|str z=>obtain⟨t,rfl⟩:=r;rfl|_=>exact absurd (show false=true from f) ab3
theorem iN{x:V}:∀{xs:↥V}{us:↥Value},Vals xs us->xs.all iM=true->us.any (eqU x)=xs.any λy=>eqV y x|_,_,.nil,_=>rfl|y::xs,u::us,.cons r t,f=>by rw[aaU,ach]at f;rw[abD,abD,BR r f.1,iN t f.2]
theorem gg{A:Around}{s:Shared}{x:V}{v:Value}(b:RelV x v)(c:iM x=true):∀{xs:↥V}{us:↥Value},Vals xs us->xs.all iM=true->∀u∈us,SeqAt.EqAt A s u v (eqU x u)|_,_,.nil,_=>λu a=>by cases a|y::xs,u::us,.cons r t,f=>λd a=>by rw[aaU,ach]at f;rcases ab2.mp a with rfl|a;rw[BR r f.1];exact IR r b f.1 c;exact gg b c t f.2 d a
def inV(x:V)(xs:↥V):Bool:=xs.any λy=>eqV y x
def rIn(K:Frag)(neg:Bool):R2:=λx y H Q=>∃p xs,y=.ref p/\(SqL K H p xs∨SqT K H p xs)/\iM x=true/\xs.all iM=true/\Q (.bl (if neg then ⇑(inV x xs) else inV x xs)) H
def sR:OpR X (compareOp .In) (rIn X.K false):=by intro pins s σ H x y v u Q I c e h;let⟨p,xs,rfl,a,d,fs,q⟩:=h;cases e;rcases a with a|a;let⟨its,r,pl,f⟩:=I.list a;refine SeqAt.in_listAt (eqU x) pl.isList (λw b=>gg c d r fs w (by exists b)) {.bl _,H,I,rfl,?_};rw[show its.toArray.any (eqU x)=its.any (eqU x) by simp,iN r fs];exact q;let⟨its,r,pl,f⟩:=I.tuple a;refine SeqAt.in_tupleAt (eqU x) pl (λw b=>gg c d r fs w (by exists b)) {.bl _,H,I,rfl,?_};rw[show its.toArray.any (eqU x)=its.any (eqU x) by simp,iN r fs];exact q
def lL:OpR X (compareOp .NotIn) (rIn X.K true):=by intro pins s σ H x y v u Q I c e h;let⟨p,xs,rfl,a,d,fs,q⟩:=h;cases e;rcases a with a|a;let⟨its,r,pl,f⟩:=I.list a;refine SeqAt.notIn_listAt (eqU x) pl.isList (λw b=>gg c d r fs w (by exists b)) {.bl _,H,I,rfl,?_};rw[show its.toArray.any (eqU x)=its.any (eqU x) by simp,iN r fs];exact q;let⟨its,r,pl,f⟩:=I.tuple a;refine SeqAt.notIn_tupleAt (eqU x) pl (λw b=>gg c d r fs w (by exists b)) {.bl _,H,I,rfl,?_};rw[show its.toArray.any (eqU x)=its.any (eqU x) by simp,iN r fs];exact q
def lM:OpR X (compareOp .NotIn) (λx y H Q=>∃i j,x=.str i/\y=.str j/\Q (.bl (⇑(⇑((Builtin.Str.occurrences j i 0 j.length 1).isEmpty)))) H):=by intro pins s σ H x y v u Q I b a h;let⟨i,j,rfl,rfl,q⟩:=h;let⟨t,rfl⟩:=b;let⟨t',rfl⟩:=a;exact notIn_str {.bl _,H,I,rfl,q}
def lN:CallR X (.builtin "len") (λxs H Q=>∃p ys,xs=[.ref p]/\(SqL X.K H p ys∨SqT X.K H p ys)/\Q (.int ys.length) H):=by intro pins s σ H xs us Q I r h;let⟨p,ys,rfl,b,q⟩:=h;let⟨u,rfl,c⟩:=eI r;cases c;have e:=iF;rcases b with b|b;let⟨its,r',pl,d⟩:=I.list b;have a:=r'.length;exact Calls.call_len_list pl.isList (by simp only[List.size_toArray]<;>nofun) {.int ys.length,H,I.tok _,{s.toks+1,by rw[aca,a]},q};let⟨its,r',pl,d⟩:=I.tuple b;have a:=r'.length;exact len_tuple pl (by simp only[List.size_toArray]<;>nofun) {.int ys.length,H,I.tok _,{s.toks+1,by rw[aca,a]},q}
def lO:CallR X (.builtin "len") (λxs H Q=>∃z,xs=[.str z]/\z.length<=sizeLine/\Q (.int z.length) H):=by intro pins s σ H xs us Q I r h;let⟨z,rfl,a,q⟩:=h;let⟨u,rfl,t,rfl⟩:=eI r;have b:=iF;exact len_str () {.int z.length,H,I.tok _,{_,rfl},q}
def CallR.or{f:Value}{r r':↥V->Hp->VK->Prop}(h:CallR X f r)(h':CallR X f r'):CallR X f (λxs H Q=>r xs H Q∨r' xs H Q):=by intro pins s σ H xs us Q I a q;rcases q with q|q;exact h pins s σ H xs us Q I a q;exact h' pins s σ H xs us Q I a q
def lP:CallR X (.type "list") (λxs H Q=>∃p ys,xs=[.ref p]/\(SqL X.K H p ys∨SqT X.K H p ys)/\∀l,H l=none->Q (.ref l) (upd H l (.lst ys))):=by intro pins s σ H xs us Q I r h;let⟨p,ys,rfl,d,q⟩:=h;let⟨u,rfl,j⟩:=eI r;cases j;have fin:∀(its:↥Value),Vals ys its->ys.length<=sizeLine->∀(h':Heap)(a:Nat),(∀b o',s.1.get? b=!o'->h'.get? b=!o') ->h'.get? s.1.1.size=some {cls:=.type "list",dict:=none,data:=.seq its.toArray a,slots:=#[]}->EP X pins σ Q (.ref s.1.1.size) {s with heap:=h'}:=λits r' c h' a kp e=>{.ref s.1.1.size,_,I.laid (t':=s.toks) kp (aab _) (show ObjOk X.prog X.w _ h' _ (.lst ys)from {(c),its,a,r',e}),rfl,q _ (I.hok.fresh (aab _))};rcases d with d|d;let⟨its,r',pl,c⟩:=I.list d;have f:=r'.length;let⟨o,g,i,n,hd⟩:=pl.isList;exact call_list_seq p (.inl rfl) g i hd (λh' a kp e=>fin its r' c h' a kp e) (by simp only[List.size_toArray]<;>nofun);let⟨its,r',pl,c⟩:=I.tuple d;have f:=r'.length;let⟨o,g,i,n,hd⟩:=pl;exact call_list_seq p (.inr rfl) g i hd (λh' a kp e=>fin its r' c h' a kp e) (by simp only[List.size_toArray]<;>nofun)
def kC:CallR X (.type "tuple") (λxs H Q=>∃p ys,xs=[.ref p]/\((SqL X.K H p ys/\∀l,H l=none->Q (.ref l) (upd H l (.tup ys)))∨(SqT X.K H p ys/\Q (.ref p) H))):=by intro pins s σ H xs us Q I r h;let⟨p,ys,rfl,h⟩:=h;let⟨u,rfl,g⟩:=eI r;cases g;rcases h with ⟨a,q⟩|⟨a,q⟩;let⟨its,r',pl,c⟩:=I.list a;have d:=r'.length;refine call_tuple_list pl.isList (λh' kp=>?_) (by simp only[List.size_toArray]<;>nofun);have f:Inv X pins σ H {s with heap:=h'}:=I.kept (t':=s.toks) kp;have i:Inv X pins σ (upd H h'.1.size (.tup ys)) {s with heap:=h'.push {cls:=.type "tuple",data:=.seq its.toArray}}:=f.laid (t':=s.toks) (λb o e=>abV _ e) (aab _) (show ObjOk X.prog X.w _ _ _ (.tup ys)from {c,its,r',IsTup.new _ _});exact{.ref h'.1.size,_,i,rfl,q _ (f.hok.fresh (aab _))};let⟨its,r',pl,c⟩:=I.tuple a;exact call_tuple_same pl {.ref p,H,I,rfl,q}
def tyV(K:Frag)(T:String)(x:V)(H:Hp):Prop:=match x with|.str _=>T="str"|.int _=>T="int"|.ref p=>(T="list" /\ ∃xs,SqL K H p xs)∨(T="tuple" /\ ∃o,K.lookup p=!o/\o.cls=.type "tuple" /\ o.dict=none)∨(T="dict" /\ ((∃kvs,H p=!(.dK kvs))∨∃kvs,H p=!(.dT kvs)))∨(T="set" /\ ∃S n,H p=!(.set S n))|_=>False
def BU(I:Inv X pins σ H s)(r:RelV x v)(ty:tyV X.K T x H):s.TypeIs v T/\∀a,v=.ref a->∃ob,s.1.get? a=!ob/\ob.dict=none:=by cases x with|str z=>let⟨t,rfl⟩:=r;cases (show T="str" from ty);exact{typeIs_str s z t,λ_ e=>nomatch e}|int i=>let⟨t,rfl⟩:=r;cases (show T="int" from ty);exact{typeIs_int s i t,λ_ e=>nomatch e}|ref p=>{cases r;rcases ty with ⟨rfl,xs,f⟩|⟨rfl,o,b,g,hd⟩|⟨rfl,b⟩|⟨rfl,S,n,b⟩;let⟨its,_,pl,_⟩:=I.list f;refine{pl.isList.typeIs,λa e=>?_};cases e;let⟨o,n,e,c,hd,_⟩:=pl;exact{(o),e,hd};refine{{o,I.kIn p o b,g},λa e=>?_};cases e;exact{o,I.kIn _ o b,hd};have z:∃o,s.1.get? p=!o/\o.ExactDict:=by{rcases b with ⟨kvs,b⟩|⟨kvs,b⟩;let⟨_,_,_,_,o,_,_,e,ex,_⟩:=I.hok p _ b;exact{(o),e,ex};let⟨_,_,_,_,o,_,_,e,ex,_⟩:=I.hok p _ b;exact{(o),e,ex}};let⟨o,e,ex⟩:=z;refine{{(o),e,ex.1},λa d=>?_};cases d;exact{(o),e,ex.2.1};let⟨o,_,_,_,e,ex,_⟩:=I.hok p _ b;refine{{(o),e,ex.1},λa d=>?_};cases d;exact{(o),e,ex.2.1}}|_=>exact faa ty
def MK(K:Frag)(T:String)(r:V->↥V->Hp->VK->Prop)(to:TE):TE:=λσ H Q=>to σ H λx H1=>tyV K T x H1/\r x [] H1 Q
def tBM(K:Frag)(T:String)(r:V->↥V->Hp->VK->Prop)(to:TE)(t:TA):TE:=λσ H Q=>to σ H λx H1=>tyV K T x H1/\t σ H1 λxs H2=>r x xs H2 Q
variable{o:Expr}{es:↥Expr}{to:TE}{t:TA}{name:Str}  {id:String} {r:V->↥V->Hp->VK->Prop}
def IS(i:PlainAttrs T)(slot:Slot T name id)(c:typeOf (.builtin id)=pure (.type "method_descriptor"))(k:MtR X id r)(j:PE X o to)(b:autoParam (attributeBase o name X.env (eval o X.env)=eval o X.env) _L.aR._auto_1)(a:autoParam ((apos.endLine==cpos.line)=true) _L.aR._auto_1):PE X (.Call (.Attribute o name apos) [] [] cpos) (MK X.K T r to):=by intro pins s σ H Q I h;refine wpAny_Call_method0_late b a (thn (j pins s σ H _ I h) λv f y=>?_);let⟨x,H1,e,d,ty,g⟩:=y;let⟨h1,h2⟩:=BU e d ty;exact{T,id,i,slot,c,h1,h2,abj rfl (PySem.evalArgs_none (k pins f σ H1 x [] v [] Q e d .nil g))}
def Np(q:PlainAttrs T)(slot:Slot T name id)(f:typeOf (.builtin id)=pure (.type "method_descriptor"))(w:MtR X id r)(u:PE X o to)(y:PA X (e::es) t)(c:autoParam (attributeBase o name X.env (eval o X.env)=eval o X.env) _L.aR._auto_1)(d:autoParam (((backTo cpos (starEach (e::es) X.env)).all (λx=>⇑x.1)&&(backToKw cpos (keywordEach [] X.env)).all (λx=>x.1.isSome) && decide ((e::es).length+([]:↥Keyword).length+(if ([]:↥Keyword).isEmpty then 0 else 1)<30))=true) _L.aR._auto_1)(b:autoParam ((apos.endLine==cpos.line)=true) _L.aR._auto_1)(hs:autoParam (starEach (e::es) X.env=(false,eval e X.env)::starEach es X.env) _L.aR._auto_1)(a:autoParam ((backTo cpos (starEach es X.env)).any (·.1)=false) _L.aR._auto_1):PE X (.Call (.Attribute o name apos) (e::es) [] cpos) (tBM X.K T r to t):=by intro pins s σ H Q I h;refine wpAny_Call_method_late c d b rfl (thn (u pins s σ H _ I h) λv l A=>?_);let⟨x,H1,j,g,ty,p⟩:=A;let⟨h1,h2⟩:=BU j g ty;refine{T,id,q,slot,f,h1,h2,?_};have i:=y cpos pins l σ H1 _ j p;rw[hs]at i ⊢;refine abj (by show (false||(backTo cpos (starEach es X.env)).any (·.1))=false;rw[a]<;>rfl) (Calls.evalArgs_plain ?_);exact thn i λus k {(vs),H2,z,m,n}=>w pins k σ H2 x vs v us Q z g m n
/- xs.append(e),list.index on a module's tuple .. are MtR facts of 06m -/
end
def MtM(X:Cx)(id:String)(r:V->↥V->Hp->VK->Prop):Prop:=∀(pins:↥(Addr×Obj))(s:Shared)(σ:St)(H:Hp)(x:V)(xs:↥V)(v:Value)(us:↥Value)(Q:VK),Inv X pins σ H s->RelV x v->Vals xs us->r x xs H Q ->wpAny (model X.prog X.w) X.A (call (.builtin id) (v::us)) (EP X pins σ Q) X.xe s
def Vals.one(h:Vals [x] us):∃u,us=[u]/\RelV x u:=by cases h with|cons r t=>cases t;exact{_,rfl,r}
theorem Vals.zero:∀{us:↥Value},Vals [] us->us=[]|_,.nil=>rfl
def Vals.dropLast{xs:↥V}(h:Vals xs us):Vals xs.dropLast us.dropLast:=by induction h with|nil=>exact .nil|cons r t a=>cases t with|nil=>exact .nil|cons q t'=>exact .cons r a
def Vals.reverse{xs:↥V}(h:Vals xs us):Vals xs.reverse us.reverse:=by induction h with|nil=>exact .nil|cons r t a=>rw[aaW,aaW];exact Vals.append a (.cons r .nil)
def qQ(l:↥α):l.eraseIdx (l.length - 1)=l.dropLast:=by induction l with|nil=>rfl|cons a r c=>cases r with|nil=>rfl|cons b r=>have e:(a::b::r).length - 1=((b::r).length - 1)+1:=by{have h1:(a::b::r).length=r.length+2:=rfl;have h2:(b::r).length=r.length+1:=rfl;nofun};rw[e,List.eraseIdx_cons_succ,c];all_goals rfl
section
variable      {l:Addr} {xs zs:↥V}
def Inv.lset{f:Array Value->Array Value}(I:Inv X pins σ H s)(i:H l=!(.lst xs))(e:s.1.get? l=some {cls:=.type "list",data:=.seq its.toArray n})(d:f its.toArray=its'.toArray)(b:Vals ys its')(a:ys.length<=sizeLine):Inv X pins σ (upd H l (.lst ys)) {s with heap:=s.1.update l (Obj.mapSeq f),toks:=t'}:=by have q:=PySem.IsL.update e f;rw[d]at q;refine I.write (x:=l) (e:=l) (by rw[i];exact trivial) (.inl rfl) (λj u g c=>(acv s.1 (Obj.mapSeq f) (abC g)).trans c) {_,q} ?_;exact{a,its',_,b,q}
def Inv.lnew(I:Inv X pins σ H s)(b:Vals ys its)(a:ys.length<=sizeLine):Inv X pins σ (upd H s.1.1.size (.lst ys)) {s with heap:=s.1.push {cls:=.type "list",data:=.seq its.toArray},toks:=t'}:=- I.laid (λ_ _ q=>abV _ q) (aab _) {a,its,0,b,ab0 _ rfl}
def Inv.fresh(I:Inv X pins σ H s):H s.1.1.size=none:=-I.hok.fresh (aab _)
def Inv.lstM(I:Inv X pins σ H s)(a:H l=!(.lst xs)):xs.length<=sizeLine/\∃(its:↥Value)(n:Nat),Vals xs its/\xs.length=its.length/\s.1.get? l=some {cls:=.type "list",data:=.seq its.toArray n}:=by let⟨z,its,n,r,e⟩:=I.hok l _ a;exact{(z),its,n,r,r.length,e}
end
def dB:V->↥V->Hp->VK->Prop:=λx vs H Q=>∃l xs y,x=.ref l/\vs=[y]/\H l=!(.lst xs)/\xs.length<sizeLine/\Q .non (upd H l (.lst (xs++[y])))
def lQ:MtM X "list.append" dB:=by intro pins s σ H x vs v us Q I b c h;let⟨l,xs,y,rfl,rfl,a,f,q⟩:=h;cases b;let⟨u,rfl,d⟩:=c.one;let⟨z,its,n,r,g,e⟩:=I.lstM a;refine call_meets F.slot_list_append {_,e,rfl} F.entry_list_append (F.args_list_append_2 _ _) (PySem.list_append l its.toArray n u (by rw[aca];nofun)) {e,?_};refine{.non,_,I.lset (its':=its++[u]) a e (by simp) (r.append (.cons d .nil)) ?_,rfl,q};rw[aag,aaR];nofun
def Nq:V->↥V->Hp->VK->Prop:=λx vs H Q=>∃l xs y,x=.ref l/\vs=[]/\H l=!(.lst xs)/\xs[xs.length - 1]?=!y/\Q y (upd H l (.lst xs.dropLast))
def IT:MtM X "list.pop" Nq:=by intro pins s σ H x vs v us Q I d f h;let⟨l,xs,y,rfl,rfl,c,i,q⟩:=h;cases d;have b:=f.zero;subst b;let⟨z,its,n,r,k,e⟩:=I.lstM c;let⟨u,j,g⟩:=r.get i;have a:its.toArray[its.toArray.size - 1]?=!u:=by{show its.toArray[its.length - 1]?=!u;rw[←acf,←k];exact j};refine call_meets F.slot_list_pop {_,e,rfl} F.entry_list_pop (F.args_list_pop_1 _) (MeetsSeq.list_pop_last l its.toArray n u a (by rw[aca];nofun)) {e,?_};refine{y,_,I.lset (its':=its.dropLast) c e ?_ r.dropLast ?_,g,q};show its.toArray.eraseIdxIfInBounds (its.toArray.size - 1)=its.dropLast.toArray;rw[aca,List.eraseIdxIfInBounds_toArray,qQ];rw[List.length_dropLast];nofun
section
variable{κ:Type}[DecidableEq κ]
def ib(kvs:↥(κ×V))(k:κ):Option V:=(kvs.find? λa=>decide (a.1=k)).map (·.2)
def iO(kvs:↥(κ×V))(k:κ)(v:V):↥(κ×V):=if (kvs.any λa=>decide (a.1=k))=true then kvs.map (λa=>if a.1=k then (a.1,v) else a) else kvs++[(k,v)]
def jF(kvs:↥(κ×V))(k:κ):↥(κ×V):=kvs.filter λa=>decide (a.1≠k)
def il{p:κ×V}{r:↥(κ×V)}{k:κ}(e:p.1=k):ib (p::r) k=!p.2:=by simp[ib,List.find?_cons,e]
def im{p:κ×V}{r:↥(κ×V)}{k:κ}(e:¬p.1=k):ib (p::r) k=ib r k:=by simp[ib,List.find?_cons,e]
theorem io(k:κ):∀kvs:↥(κ×V),(kvs.any λkv=>decide (kv.1=k))=(ib kvs k).isSome|[]=>rfl|p::r=>by rw[abD];by_cases e:p.1=k;simp only[il e,decide_eq_true e,Bool.true_or,Option.isSome_some];rw[im e,decide_eq_false e,Bool.false_or];exact io k r
def fK(kvs:↥(κ×V))(k:κ)(v:V):(iO kvs k v).length<=kvs.length+1:=by unfold iO;split;rw[abR];nofun;rw[aag,ab6,abQ];nofun
def RelO.isSome_eq{u:Option Value}(r:RelO o u):o.isSome=u.isSome:=by
 cases o with
 |none=>cases u with
  |none=>rfl
  |some _=>exact (show False from r).elim
 |some _=>cases u with
  |none=>exact (show False from r).elim
  |some _=>rfl
def RelO.getD{u:Option Value}{d':Value}(r:RelO o u)(rd:RelV d d'):RelV (o.getD d) (u.getD d'):=by
 cases o with
 |none=>cases u with
  |none=>exact rd
  |some _=>exact (show False from r).elim
 |some _=>cases u with
  |none=>exact (show False from r).elim
  |some _=>exact r
def KV.val{kvs:↥(κ×V)}{vs:↥(κ×Value)}(r:KV kvs vs)(k:κ):RelO (ib kvs k) (valueAt vs k):=by unfold KV at r;induction r with|nil=>exact True.intro|@cons p q ps a h t d=>let⟨h1,h2⟩:=h;by_cases e:p.1=k;have c:q.1=k:=h1.symm.trans e;have b:valueAt (q::a) k=!q.2:=by{simp[valueAt,List.find?_cons,c]};rw[il e,b];exact h2;have c:¬q.1=k:=λz=>e (h1.trans z);have b:valueAt (q::a) k=valueAt a k:=by{simp[valueAt,List.find?_cons,c]};rw[im e,b];exact d
def KV.any{kvs:↥(κ×V)}{vs:↥(κ×Value)}(r:KV kvs vs)(k:κ):(kvs.any λkv=>decide (kv.1=k))=vs.any λkv=>decide (kv.1=k):=by unfold KV at r;induction r with|nil=>rfl|cons h t a=>rw[abD,abD,a,h.1]
def KV.repl{kvs:↥(κ×V)}{vs:↥(κ×Value)}(r:KV kvs vs)(k:κ)(a:RelV y u):KV (kvs.map λkv=>if kv.1=k then (kv.1,y) else kv) (vs.map λkv=>if kv.1=k then (kv.1,u) else kv):=by unfold KV at r ⊢;induction r with|nil=>exact .nil|@cons p q ps c h t b=>rw[ab1,ab1];refine .cons ?_ b;let⟨h1,h2⟩:=h;by_cases e:p.1=k;rw[if_pos e,if_pos (h1.symm.trans e)];exact{(h1),a};rw[if_neg e,if_neg (λz=>e (h1.trans z))];exact{(h1),h2}
def KV.put{kvs:↥(κ×V)}{vs:↥(κ×Value)}(r:KV kvs vs)(k:κ)(a:RelV y u):KV (iO kvs k y) (stored vs k u):=by unfold iO stored;rw[r.any k];by_cases e:(vs.any λb=>decide (b.1=k))=true;rw[if_pos e,if_pos e];exact r.repl k a;rw[if_neg e,if_neg e];exact Paired.snoc r {(rfl),a}
def KV.drop{kvs:↥(κ×V)}{vs:↥(κ×Value)}(r:KV kvs vs)(k:κ):KV (jF kvs k) (without vs k):=by unfold KV at r ⊢;unfold jF without;induction r with|nil=>exact .nil|@cons p q ps f h t c=>let⟨h1,h2⟩:=h;rw[List.filter_cons,List.filter_cons];by_cases e:p.1=k;have a:¬decide (p.1≠k)=true:=by{simp[e]};have b:¬decide (q.1≠k)=true:=by{simp[h1.symm.trans e]};rw[if_neg a,if_neg b];exact c;have d:¬q.1=k:=λz=>e (h1.trans z);have a:decide (p.1≠k)=true:=by{simp[e]};have b:decide (q.1≠k)=true:=by{simp[d]};rw[if_pos a,if_pos b];exact .cons {(h1),h2} c
def KV.length{kvs:↥(κ×V)}{vs:↥(κ×Value)}(r:KV kvs vs):kvs.length=vs.length:=-aa9 r
def oK(kvs:↥(κ×V))(k:κ):(jF kvs k).length<=kvs.length:=-aaZ _ _
end
def jG(r:RelV (kV k) u):(ay P w).is k u=true:=by cases k with|inl i=>obtain⟨t,e⟩:=(show ∃t,u=Value.int i t from r);subst e;exact ni P w i t|inr x=>obtain⟨t,e⟩:=(show ∃t,u=Value.str x t from r);subst e;exact nj P w x t
theorem lR{P:Program}{w:World}:∀{ks:↥Key}{us:↥Value},Vals (ks.map kV) us->ItemsAre (ay P w) ks us|[],_,r=>by rw[List.map_nil]at r;cases r;exact .nil|k::ks,_,r=>by rw[ab1]at r;cases r with|cons h t=>exact .cons (jG h) (lR t)
abbrev KT(H:Hp):↥(↥Key×V)->↥(↥Key×Addr×Value)->Prop:=Paired λp q=>p.1=q.1/\H q.2.1=!(.tup (p.1.map kV))/\RelV p.2 q.2.2
def KT.val(r:KT H kvs xs)(k:↥Key):RelO (ib kvs k) ((atKey xs k).map (·.2)):=by induction r with|nil=>exact True.intro|@cons p q ps a h t d=>let⟨h1,_,h2⟩:=h;by_cases e:p.1=k;have c:q.1=k:=h1.symm.trans e;have b:atKey (q::a) k=!q.2:=by{simp[atKey,List.find?_cons,c]};rw[il e,b];exact h2;have c:¬q.1=k:=λz=>e (h1.trans z);have b:atKey (q::a) k=atKey a k:=by{simp[atKey,List.find?_cons,c]};rw[im e,b];exact d
def KT.repl(r:KT H kvs xs)(k:↥Key)(a:RelV y u):KT H (kvs.map λkv=>if kv.1=k then (kv.1,y) else kv) (xs.map (putAt k u)):=by induction r with|nil=>exact .nil|@cons p q ps d h t b=>rw[ab1,ab1];refine .cons ?_ b;let⟨h1,h2,c⟩:=h;unfold putAt;by_cases e:p.1=k;rw[if_pos e,if_pos (h1.symm.trans e)];exact{(h1),h2,a};rw[if_neg e,if_neg (λz=>e (h1.trans z))];exact{(h1),h2,c}
def KT.put(r:KT H kvs xs)(k:↥Key)(d:H b=!(.tup (k.map kV)))(a:RelV y u):KT H (iO kvs k y) (storedH xs k b u):=by have e:(kvs.any λc=>decide (c.1=k))=(atKey xs k).isSome:=by{rw[io,(r.val k).isSome_eq,Option.isSome_map]};unfold iO storedH;rw[e];by_cases q:(atKey xs k).isSome=true;rw[if_pos q,if_pos q];exact r.repl k a;rw[if_neg q,if_neg q];exact Paired.snoc r {(rfl),d,a}
def KT.keeps(r:KT H kvs xs)(a:∀b ys,H b=!(.tup ys)->H' b=!(.tup ys)):KT H' kvs xs:=- Paired.mapP r λ_ _ z=>{z.1,a _ _ z.2.1,z.2.2}
section
variable    {h:Heap}
def IU{u:HO}(ok:HOk P w H h)(e:Rd H a u):ObjOk P w H h a u:=-e.ok ok
def jH{kvs:↥(Key×V)}(ok:HOk P w H h)(e:Rd H a (.dK kvs)):kvs.length<=sizeLine/\(a==sysModules)=false/\∃vs,KV kvs vs/\h.DictOf (ay P w) a vs:=- show ObjOk P w H h a (.dK kvs)from IU ok e
def sS{kvs:↥(Key×V)}(ok:HOk P w H h)(e:H a=!(.dK kvs)):kvs.length<=sizeLine/\(a==sysModules)=false/\∃vs,KV kvs vs/\h.DictOf (ay P w) a vs:=-jH ok (.inl e)
def jU{ks:↥Key}(ok:HOk P w H h)(e:H a=!(.tup (ks.map kV))):(tupleKind (ay P w)).is h ks a:=by let⟨_,its,r,o,h1,h2,n,b⟩:=(show ObjOk P w H h a (.tup (ks.map kV))from ok a _ e);exact{o,its.toArray,n,h1,h2,b,by simpa using lR r}
def nE(ok:HOk P w H h)(e:Rd H a (.dT kvs)):kvs.length<=sizeLine/\(a==sysModules)=false/\ ∃xs,KT H kvs xs/\h.DictOfH (tupleKind (ay P w)) a xs:=by let⟨z,y,xs,r,o,es,ep,h1,h2,i,g,f⟩:=(show ObjOk P w H h a (.dT kvs)from IU ok e);refine{z,y,xs,r,o,es,ep,h1,h2,i,g,λx b=>?_,f};have all:∀{l:↥(↥Key×V)}{m:↥(↥Key×Addr×Value)},KT H l m->∀x∈m,(tupleKind (ay P w)).is h x.1 x.2.1:=by{intro l m q;induction q with|nil=>intro x b;exact nomatch b|@cons p q ps j c t d=>intro x b;rcases ab2.mp b with e|b;subst e;exact jU ok (by rw[←c.1];exact c.2.1);exact d x b};exact all r x b
def Nr(ok:HOk P w H h)(e:H a=!(.dT kvs)):kvs.length<=sizeLine/\(a==sysModules)=false/\ ∃xs,KT H kvs xs/\h.DictOfH (tupleKind (ay P w)) a xs:=-nE ok (.inl e)
end
def DGet(H:Hp)(a:Addr)(y:V)(r:Option V):Prop:=(∃kvs k,Rd H a (.dK kvs)/\y=kV k/\r=ib kvs k)∨∃kvs k b,Rd H a (.dT kvs)/\y=.ref b/\H b=!(.tup (k.map kV))/\r=ib kvs k
def O3(H:Hp)(a:Addr)(y v:V)(H':Hp):Prop:=(∃kvs k,H a=!(.dK kvs)/\y=kV k/\kvs.length<sizeLine/\H'=upd H a (.dK (iO kvs k v)))∨∃kvs k b,H a=!(.dT kvs)/\y=.ref b/\H b=!(.tup (k.map kV))/\kvs.length<sizeLine/\H'=upd H a (.dT (iO kvs k v))
section
variable       {v:V} {r:Value}
def Inv.big(I:Inv X pins σ H s):sysModules<s.1.1.size:=by have h:mainGlobals<s.1.1.size:=(I.mod.glob.keeps I.bk).lt;exact acL (by decide) h
def sT(q:A.units+1<cLine)(I:Inv X pins σ H s)(g:DGet H a y !v)(n:RelV y u)(h:∀d s',Inv X pins σ H s'->RelV v d->Q d s'):wpAny (model X.prog X.w) A (getItem (.ref a) u) Q E s:=by rcases g with ⟨kvs,k,e,j,l⟩|⟨kvs,k,b,e,j,t,l⟩;subst j;let⟨z,hd,vs,rel,m⟩:=jH I.hok e;let⟨d,f,c⟩:=RelO.some_of (v:=v) (o:=valueAt vs k) (by rw[l];exact rel.val k);exact wpAny_getItem_of (jG n) m.mapOf f (h d _ (I.tok _) c);subst j;cases (show u=Value.ref b from n);let⟨z,hd,xs,rel,m⟩:=nE I.hok e;let⟨d,f,c⟩:=RelO.some_of (v:=v) (o:=(atKey xs k).map (·.2)) (by rw[l];exact rel.val k);let⟨p,r,i⟩:=acG.mp f;refine wpAny_getItem_heap (tupleKind_room_in1 q) (jU I.hok t) m r ?_;rw[i];exact h d _ (I.tok _) c
def d_in(i:A.units+1<cLine)(I:Inv X pins σ H s)(g:DGet H a y o)(f:RelV y u)(h:∀s',Inv X pins σ H s'->Q (.bool o.isSome) s'):wpAny (model X.prog X.w) A (compareOp .In u (.ref a)) Q E s:=by rcases g with ⟨kvs,k,e,c,l⟩|⟨kvs,k,b,e,c,j,l⟩;subst c;let⟨z,hd,vs,rel,d⟩:=jH I.hok e;refine wpAny_in_of (jG f) hd d.mapOf ?_;rw[← (rel.val k).isSome_eq,←l];exact h _ (I.tok _);subst c;cases (show u=Value.ref b from f);let⟨z,hd,xs,rel,d⟩:=nE I.hok e;refine wpAny_in_heap (tupleKind_room_in1 i) (jU I.hok j) hd d ?_;have q:=(rel.val k).isSome_eq;rw[Option.isSome_map]at q;rw[←q,←l];exact h _ (I.tok _)
def DQ(i:A.units+1<cLine)(I:Inv X pins σ H s)(g:DGet H a y o)(f:RelV y u)(h:∀s',Inv X pins σ H s'->Q (.bool (⇑o.isSome)) s'):wpAny (model X.prog X.w) A (compareOp .NotIn u (.ref a)) Q E s:=by rcases g with ⟨kvs,k,e,c,l⟩|⟨kvs,k,b,e,c,j,l⟩;subst c;let⟨z,hd,vs,rel,d⟩:=jH I.hok e;refine wpAny_notIn_of (jG f) hd d.mapOf ?_;rw[← (rel.val k).isSome_eq,←l];exact h _ (I.tok _);subst c;cases (show u=Value.ref b from f);let⟨z,hd,xs,rel,d⟩:=nE I.hok e;refine wpAny_notIn_heap (tupleKind_room_in1 i) (jU I.hok j) hd d ?_;have q:=(rel.val k).isSome_eq;rw[Option.isSome_map]at q;rw[←q,←l];exact h _ (I.tok _)
def gA{ob:HO}(I:Inv X pins σ H s)(c:Mut (H a))(hs:Heap.SameBut a s.1 h')(d:∃q,h'.get? a=!q)(new:ObjOk X.prog X.w (upd H a ob) h' a ob):Inv X pins σ (upd H a ob) {s with heap:=h',toks:=t'}:=- I.write (x:=a) (e:=a) c (.inl rfl) (λb q f z=>(hs.2 b f).trans z) d new
def iP{kvs:↥(Key×V)}{vs:↥(Key×Value)}(z:kvs.length<=sizeLine)(hd:(a==sysModules)=false)(rel:KV kvs vs)(b:h'.DictOf (ay P w) a vs):ObjOk P w H' h' a (.dK kvs):=-{(z),hd,vs,rel,b}
def sU{Q:Unit->Shared->Prop}(B:A.units+1<cLine)(I:Inv X pins σ H s)(g:O3 H a y v H')(p:RelV y u)(t:RelV v r)(h:∀s',Inv X pins σ H' s'->Q PUnit.unit s'):wpAny (model X.prog X.w) A (setItem (.ref a) u r) Q E s:=by rcases g with ⟨kvs,k,e,m,l,n⟩|⟨kvs,k,b,e,m,x,l,n⟩;subst m n;let⟨z,hd,vs,rel,o⟩:=sS I.hok e;have i:vs.length<=sizeLine:=by{rw[←rel.length];exact z};have j:(iO kvs k v).length<=sizeLine:=by{have:=fK kvs k v;nofun};refine wpAny_setItem_pairs (hsz:=i) (jG p) o λh' d hs=>h _ ?_;have C:∃q,h'.get? a=!q:=let ⟨q,_,_,f,_⟩:=d;{(q),f};exact gA I (by rw[e];exact True.intro) hs C (iP j hd (rel.put k t) d);subst m n;cases (show u=Value.ref b from p);let⟨z,hd,xs,rel,o⟩:=Nr I.hok e;have i:xs.length<=sizeLine:=by{rw[←aa9 rel];exact z};have j:(iO kvs k v).length<=sizeLine:=by{have:=fK kvs k v;nofun};refine wpAny_setItem_heap (hsz:=i) (tupleKind_room_in1 B) (jU I.hok x) o λh' d hs=>h _ ?_;let⟨q,es,ep,f,h2,G,F,_,D⟩:=d;refine gA I (by rw[e];exact True.intro) hs {(q),f} {j,hd,_,(rel.put k x t).keeps λc ys w=>?_,q,es,ep,f,h2,G,F,D};rw[aj (MW w e (λz=>nomatch z))];exact w
end
section
variable       {kvs:↥(Key×V)}
def IV{Q:Unit->Shared->Prop}(I:Inv X pins σ H s)(e:H a=!(.dK kvs))(d:RelV (kV k) u)(l:(ib kvs k).isSome=true)(h:∀s',Inv X pins σ (upd H a (.dK (jF kvs k))) s'->Q PUnit.unit s'):
  wpAny (model X.prog X.w) A (delItem (.ref a) u) Q E s:=by
 let⟨z,hd,vs,rel,c⟩:=sS I.hok e
 refine wpAny_delItem_slot c.typeIs (by decide) PySem.F.slot_dict_delitem
  (call_meetsIn PySem.F.slot_dict_delitem c.typeIs PySem.F.entry_dict_delitem (PySem.F.args_dict_delitem_2 _ _) (meets_dict_delitem_pairs (ay X.prog X.w) a (jG d)) {vs,c,by rw[←rel.length];exact z,by rw[← (rel.val k).isSome_eq];exact l,λh' b hs=>h _ ?_})
 have g:∃q,h'.get? a=!q:=let ⟨q,_,_,f,_⟩:=b;{(q),f};exact gA I (by rw[e];exact True.intro) hs g (iP (aao (oK kvs k) z) hd (rel.drop k) b)
def Nt{v:V}{more:↥Value}(I:Inv X pins σ H s)(e:H a=!(.dK kvs))(d:RelV (kV k) u)(l:ib kvs k=!v)(g:more=[]∨∃x,more=[x])(h:∀b s',Inv X pins σ (upd H a (.dK (jF kvs k))) s'->RelV v b->Q b s'):wpAny (model X.prog X.w) A (call (.builtin "dict.pop") (.ref a::u::more)) Q E s:=by let⟨z,hd,vs,rel,j⟩:=sS I.hok e;let⟨b,m,f⟩:=RelO.some_of (v:=v) (o:=valueAt vs k) (by rw[←l];exact rel.val k);have p:(keyPart u).isSome=true:=by{cases k with|inl i=>obtain ⟨t,q⟩:=(show ∃t,u=Value.int i t from d);subst q;rfl|inr x=>obtain ⟨t,q⟩:=(show ∃t,u=Value.str x t from d);subst q;rfl};have w:argsOk "dict.pop" {.ref a::u::more,[]}:=by{rcases g with q|⟨x,q⟩;subst q;exact PySem.F.args_dict_pop_2 _ _;subst q;exact PySem.F.args_dict_pop_3 _ _ _};refine call_meetsIn PySem.F.slot_dict_pop j.typeIs PySem.F.entry_dict_pop w (meets_dict_pop_there (ay X.prog X.w) a (jG d) more g p) {vs,b,j,by rw[←rel.length];exact z,m,λh' c hs=>h b _ ?_ f};have r:∃q,h'.get? a=!q:=let ⟨q,_,_,n,_⟩:=c;{(q),n};exact gA I (by rw[e];exact True.intro) hs r (iP (aao (oK kvs k) z) hd (rel.drop k) c)
def Nu(I:Inv X pins σ H s)(e:Rd H a (.dK kvs))(h:∀t s',Inv X pins σ H s'->Q (.int kvs.length t) s'):wpAny (model X.prog X.w) A (call (.builtin "len") [.ref a]) Q E s:=by let⟨z,hd,vs,rel,b⟩:=jH I.hok e;refine call_len_dict hd b (by rw[←rel.length];rw[sizeLine_eq]at z;nofun) ?_;rw[←rel.length];exact h _ _ (I.tok _)
end
def nF(I:Inv X pins σ H s)(g:DGet H a y o):s.TypeIs (.ref a) "dict":=by rcases g with ⟨kvs,k,e,_,_⟩|⟨kvs,k,b,e,_,_,_⟩;let⟨_,_,vs,_,c⟩:=jH I.hok e;exact c.typeIs;let⟨_,_,xs,_,c⟩:=nE I.hok e;exact c.typeIs
def yb(td ty tv:TE):TS:=λD σ H=>tv σ H λv H1=>td σ H1 λx H2=>ty σ H2 λy c=>∃a b,x=.ref a/\O3 c a y v b/\D.nx σ b
section
variable  {o i value:Expr} {pos' tpos:Pos}
def DR(n:X.A.units+1<cLine)(p:PE X o td)(hi:PE X i ty)(m:PE X value tv)(hs:swapsWith value ↑(.Subscript o i pos') pos.line X.env=pure false):PS X (.Assign [.Subscript o i pos'] value pos) (yb td ty tv):=by intro pins s σ H D I h;refine wpAny_Assign_Subscript (thn (m pins s σ H _ I h) λr c {(v),H1,z,f,l}=>thn (p pins c σ H1 _ z l) λu b {(x),H2,w,e,k}=>thn (hi pins b σ H2 _ w k) λE C r=>?_) hs;let⟨y,F,t,d,a,A,ex,g,j⟩:=r;subst ex;obtain rfl:u=Value.ref a:=e;exact sU n t g d f λB q=>{(σ),A,q,j}
end
def oM(h:Heap)(a:sysModules<h.1.size):ObjOk P w H (h.push {cls:=.type "dict",data:=.dict #[]}) h.1.size (.dK []):=- {aan _,beq_eq_false_iff_ne.mpr (abC (aap a)),[],.nil,Heap.DictOf.new h}
def yc(h:Heap)(a:sysModules<h.1.size):ObjOk P w H (h.push {cls:=.type "dict",data:=.dict #[]}) h.1.size (.dT []):=- {aan _,beq_eq_false_iff_ne.mpr (abC (aap a)),[],.nil,_,#[],0,ab0 _ rfl,{(rfl),rfl,rfl},rfl,rfl,aaH}
def sV:TE:=λ_ H Q=>∀p,H p=none->Q (.ref p) (upd H p (.dK []))
def sW:TE:=λ_ H Q=>∀p,H p=none->Q (.ref p) (upd H p (.dT []))
def yd:PE X (.Dict [] [] pos) sV:=-λpins s σ H Q I h=>wpAny_Dict_empty {.ref s.1.1.size,_,I.laid (a:=s.1.1.size) (o:=.dK []) (t':=s.toks) (λ_ _ q=>abV _ q) (aab _) (oM s.1 I.big),rfl,h _ (I.hok.fresh (aab _))}
def ye:PE X (.Dict [] [] pos) sW:=-λpins s σ H Q I h=>wpAny_Dict_empty {.ref s.1.1.size,_,I.laid (a:=s.1.1.size) (o:=.dT []) (t':=s.toks) (λ_ _ q=>abV _ q) (aab _) (yc s.1 I.big),rfl,h _ (I.hok.fresh (aab _))}
def sX:↥(TE×TE)->St->Hp->(↥(V×V)->Hp->Prop)->Prop|[],_,H,Q=>Q [] H|(tk,tv)::r,σ,H,Q=>tk σ H λx H1=>tv σ H1 λy H2=>sX r σ H2 λps a=>Q ((x,y)::ps) a
abbrev VV:↥(V×V)->↥(Value×Value)->Prop:=Paired λp q=>RelV p.1 q.1/\RelV p.2 q.2
def PPs(X:Cx)(pos:Pos)(keys:↥(Option Expr))(values:↥Expr)(trs:↥(TE×TE)):Prop:=∀(pins:↥(Addr×Obj))(s:Shared)(σ:St)(H:Hp)(Q:↥(V×V)->Hp->Prop),Inv X pins σ H s->sX trs σ H Q ->wpAny (model X.prog X.w) X.A (evalPairs (pairTrees keys values X.env pos)) (λvs s'=>∃ps H',Inv X pins σ H' s'/\VV ps vs/\Q ps H') X.xe s
def DS:PPs X pos [] [] []:=-λpins s σ H Q I h=>pairTrees_nil_walk {[],H,I,.nil,h}
def yf{k v:Expr}{ks:↥(Option Expr)}{vs:↥Expr}{tk:TE}(j:PE X k tk)(i:PE X v tv)(hr:PPs X pos ks vs trs):PPs X pos (↑k::ks) (v::vs) ((tk,tv)::trs):=-λpins s σ H Q I h=>pairTrees_cons_walk (thn (j pins s σ H _ I h) λu b {(x),H1,n,d,g}=>thn (i pins b σ H1 _ n g) λq a {(y),H2,m,c,f}=>thn (hr pins a σ H2 _ m f) λp r {(ps),o,l,rel,e}=>{(x,y)::ps,o,l,.cons {(d),c} rel,e})
def gh(kvs more:↥(Key×V)):↥(Key×V):=more.foldl (λacc a=>iO acc a.1 a.2) kvs
def KV.merge:∀{more:↥(Key×V)}{a:↥(Key×Value)}{kvs:↥(Key×V)}{vs:↥(Key×Value)},KV more a->KV kvs vs->KV (gh kvs more) (merged vs a):=by intro more a kvs vs r;unfold KV at r;induction r generalizing kvs vs with|nil=>intro q;exact q|@cons p q ps d h t c=>intro b;have e:KV (iO kvs p.1 p.2) (stored vs q.1 q.2):=by{have:=b.put p.1 h.2;rw[←h.1];exact this};exact c e
theorem dQ:∀(more kvs:↥(Key×V)),(gh kvs more).length<=kvs.length+more.length|[],kvs=>by show kvs.length<=kvs.length+0;nofun|p::r,kvs=>by have h1:=dQ r (iO kvs p.1 p.2);have h2:=fK kvs p.1 p.2;show (gh (iO kvs p.1 p.2) r).length<=_;rw[ab6];nofun
theorem jV{P:Program}{w:World}:∀{kvs:↥(Key×V)}{e:↥(Value×Value)},VV (kvs.map λkv=>(kV kv.1,kv.2)) e->∃d,Carries (ay P w) e d/\KV kvs d|[],_,r=>by rw[List.map_nil]at r;cases r;exact{[],True.intro,.nil}|p::kvs,_,r=>by rw[ab1]at r;cases r with|@cons a b as bs h t=>let⟨d,c,q⟩:=jV (P:=P) (w:=w) t;let⟨b1,b2⟩:=b;exact{(p.1,b2)::d,{jG h.1,rfl,c},.cons {(rfl),h.2} q}
def DT(trs:↥(TE×TE)):TE:=λσ H Q=>∀p,H p=none->sX trs σ (upd H p (.dK [])) λps H2=>H2 p=!(.dK [])/\∃kvs:↥(Key×V),ps=kvs.map (λa=>(kV a.1,a.2))/\kvs.length<=15/\Q (.ref p) (upd H2 p (.dK (gh [] kvs)))
def DU{keys:↥(Option Expr)}{values:↥Expr}(h:PPs X pos keys values trs)(b:keys.all (·.isSome)=true)(r:keys.length=values.length)(u:keys≠[])(f:keys.length<=15):PE X (.Dict keys values pos) (DT trs):=by intro pins s σ H Q I q;have p:=I.hok.fresh (aab s.1.1.size);have x:=I.laid (a:=s.1.1.size) (o:=.dK []) (h':=s.1.push {cls:=.type "dict",data:=.dict #[]}) (t':=s.toks) (λ_ _ q=>abV _ q) (aab _) (oM s.1 I.big);refine wpAny_Dict_walk (knd:=ay X.prog X.w) b r u f (thn (h pins _ σ _ _ x (q _ p)) λy A y=>?_);let⟨ps,H2,g,rel,e,kvs,ep,lk,l⟩:=y;subst ep;let⟨j,c,rk⟩:=jV (P:=X.prog) (w:=X.w) rel;let⟨z,hd,i,k,v⟩:=sS g.hok e;cases k;refine{j,c,v,λh' d hs=>{.ref s.1.1.size,_,?_,rfl,l}};have m:(gh [] kvs).length<=sizeLine:=by{have h1:=dQ kvs [];rw[abQ]at h1;rw[sizeLine_eq];nofun};have t:∃q,h'.get? s.1.1.size=!q:=let ⟨q,_,_,n,_⟩:=d;{(q),n};exact gA g (by rw[e];exact True.intro) hs t (iP m hd (rk.merge .nil) d)
structure M1(X:Cx)(o:Expr)(m:Str)(apos:Pos)(e:Expr)(cpos:Pos):Prop where
 base:attributeBase o m X.env (eval o X.env)=eval o X.env
 few:((backTo cpos (starEach [e] X.env)).all (λx=>⇑x.1)&&(backToKw cpos (keywordEach [] X.env)).all (λx=>x.1.isSome)
  && decide (([e]:↥Expr).length+([]:↥Keyword).length+(if ([]:↥Keyword).isEmpty then 0 else 1)<30))=true
 line:(apos.endLine==cpos.line)=true
 trees:backTo cpos (starEach [e] X.env)=[(false,eval e X.env)]
def IsD(H:Hp)(a:Addr):Prop:=(∃kvs,Rd H a (.dK kvs))∨∃kvs,Rd H a (.dT kvs)
def sY(I:Inv X pins σ H s)(d:IsD H a):s.TypeIs (.ref a) "dict" /\ (∀b,Value.ref a=.ref b->∃ob,s.1.get? b=!ob/\ob.dict=none)/\(a==sysModules)=false:=by rcases d with ⟨kvs,e⟩|⟨kvs,e⟩;let⟨_,hd,vs,_,c⟩:=jH I.hok e;refine{c.typeIs,λb q=>?_,hd};cases q;let⟨ob,_,_,h1,h2,_⟩:=c;exact{(ob),h1,h2.2.1};let⟨_,hd,xs,_,c⟩:=nE I.hok e;refine{c.typeIs,λb q=>?_,hd};cases q;let⟨ob,_,_,h1,h2,_⟩:=c;exact{(ob),h1,h2.2.1}
section
variable        {r:Value}
def IW(j:A.units+1<cLine)(I:Inv X pins σ H s)(g:DGet H a y o)(i:RelV y u)(h:∀f s',Inv X pins σ H s'->RelV (o.getD .non) f->Q f s'):wpAny (model X.prog X.w) A (call (.builtin "dict.get") [.ref a,u]) Q E s:=by rcases g with ⟨kvs,k,e,d,l⟩|⟨kvs,k,b,e,d,m,l⟩;subst d;let⟨z,hd,vs,rel,c⟩:=jH I.hok e;refine call_meetsIn PySem.F.slot_dict_get c.typeIs PySem.F.entry_dict_get (PySem.F.args_dict_get_2 _ _) (meets_dict_get (ay X.prog X.w) a (jG i) hd) {_,c.mapOf,h _ _ (I.tok _) ?_};rw[l];exact(rel.val k).getD rfl;subst d;cases (show u=Value.ref b from i);let⟨z,hd,xs,rel,c⟩:=nE I.hok e;refine call_meetsIn PySem.F.slot_dict_get c.typeIs PySem.F.entry_dict_get (PySem.F.args_dict_get_2 _ _) (meetsH_dict_get (tupleKind (ay X.prog X.w)) a b hd) {tupleKind_room_in1 j,k,xs,jU I.hok m,c,h _ _ (I.tok _) ?_};rw[l];exact(rel.val k).getD rfl
end
def sZ(td ty:TE):TE:=λσ H Q=>td σ H λx H1=>∃a,x=.ref a/\IsD H1 a/\ty σ H1 λy H2=>∃o,DGet H2 a y o/\Q (o.getD .non) H2
def oN(td ty:TE):TE:=λσ H Q=>td σ H λx H1=>∃a,x=.ref a/\IsD H1 a/\ty σ H1 λy H2=>∃kvs k v,H2 a=!(.dK kvs)/\y=kV k/\ib kvs k=!v/\Q v (upd H2 a (.dK (jF kvs k)))
section
variable  {o f:Expr}  {tx:TE}
def yg(q:X.A.units+1<cLine)(r:PE X o td)(t:PE X e ty)(m:M1 X o "get" apos e cpos):PE X (.Call (.Attribute o "get" apos) [e] [] cpos) (sZ td ty):=by intro pins s σ H Q I h;refine wpAny_Call_method m.base m.few m.line abB PySem.F.slot_dict_get PySem.F.type_dict_get (thn (r pins s σ H _ I h) λu j z=>?_);let⟨x,H1,c,l,a,ex,d,p⟩:=z;subst ex;obtain rfl:u=Value.ref a:=l;let⟨i,f,_⟩:=sY c d;refine{i,f,?_};rw[m.trees];refine abj rfl (Calls.evalArgs_plain (Calls.spliced_cons (thn (t pins j σ H1 _ c p) λC B {(y),H2,w,k,ov,g,n}=>Calls.spliced_nil ?_)));exact IW q w g k λz A v b=>{_,H2,v,b,n}
def yh(r:PE X o td)(t:PE X e ty)(m:M1 X o "pop" apos e cpos):PE X (.Call (.Attribute o "pop" apos) [e] [] cpos) (oN td ty):=by intro pins s σ H Q I h;refine wpAny_Call_method m.base m.few m.line abB PySem.F.slot_dict_pop PySem.F.type_dict_pop (thn (r pins s σ H _ I h) λu i C=>?_);let⟨x,H1,c,n,a,ex,d,q⟩:=C;subst ex;obtain rfl:u=Value.ref a:=n;let⟨g,f,_⟩:=sY c d;refine{g,f,?_};rw[m.trees];refine abj rfl (Calls.evalArgs_plain (Calls.spliced_cons (thn (t pins i σ H1 _ c q) λF E {(y),H2,B,j,kvs,k,v,z,w,l,p}=>Calls.spliced_nil ?_)));subst w;exact Nt B z j l (.inl rfl) λC D A b=>{v,_,A,b,p}
end
section
variable       {kvs:↥(Key×V)}
def yi(I:Inv X pins σ H s)(e:Rd H a (.dK kvs))(h:∀p s',H p=none->Inv X pins σ (upd H p (.dK kvs)) s'->Q (.ref p) s'):wpAny (model X.prog X.w) A (call (.type "dict") [.ref a]) Q E s:=by let⟨z,hd,vs,rel,f⟩:=jH I.hok e;refine kt_call_dict hd f (by rw[←rel.length];exact z) λh' c hs=>?_;refine h _ _ (I.hok.fresh (aab _)) (I.laid (a:=s.1.1.size) (o:=.dK kvs) (t':=s.toks) (λb q d=>?_) (aab _) (iP z (beq_eq_false_iff_ne.mpr (abC (aap I.big))) rel c));exact(hs.2 b (aap (aaj d))).trans (abV _ d)
end
end _L
namespace Att
open PySem PySem.W PySem.Calls PyProof.Rows
variable{P:Params}{h:Heap}{n:Nat}
def iQ:∀(ns:↥Int)(vs:↥Value),WellAll P h vs (ns.map WData.int)->IntsAre vs ns:=by intro ns;induction ns with|nil=>intro vs w;rw[List.map_nil]at w;cases w;exact .nil|cons n ns c=>intro vs w;rw[ab1]at w;cases w with|cons a b=>cases a;exact .cons _ _ (c _ b)
def tm{l:OpenLaw}(u:l.most=!n){args:↥WData}{b:↥Value}
  (c:l.row.toRowW.claim.pre args=true) (j:WellAll P h b args):
  ∃a vs ns,b=[Value.ref a]/\args=[WData.list (ns.map WData.int)]/\h.get? a=some {cls:=.type "list",data:=.seq vs.toArray}/\IntsAre vs ns/\ns.length<=n:=by
 have k:WShape.hasAll [] args [.list .int]=true:=(pre_splitW c).1;have m:l.pre.holds [] {args:=args}=true:=(pre_splitW c).2;let⟨d,r,rfl,h1,h2⟩:=hasAllW_cons k;obtain rfl:=hasAllW_nil h2;let⟨xs,rfl,v⟩:=hasW_list h1;let⟨ns,rfl⟩:=items_int v
 have e:ns.length<=n:=by
  unfold OpenLaw.pre at m
  have i:(WTm.not (.lt (.lit (.int (n:Int))) (.len (.arg 0)))).holds [] {args:=[.list (ns.map .int)]}=true:=by
   have i:=(holds_andW m).1;rw[u]at i;exact i
  have g:=condW_of i (w_not (w_lt w_lit (w_len_list (w_arg rfl))));rw[abR]at g;refine Nat.le_of_not_lt λq=>?_;have s:(n:Int)<((ns.length:Nat):Int):=()
  first
   |(rw[decide_eq_true s]at g;exact absurd g (by decide))
   |(simp at g;nofun)
 cases j with
 |cons p o=>
  cases o
  cases p with
  |list t f=>exact {_,_,ns,rfl,rfl,t,iQ ns _ f,e}
def tq(l:OpenLaw)(args:↥WData):l.row.toRowW.claim.post args (.bool true) args=true:=- postW_of (r:=l.row.toRowW) (X:=(true==true)) (show WShape.has [] (.bool true) .bool=true by first|rfl|decide|simp[WShape.has,WShape.arms,WShape.armsAll]) (show (WTm.eq .res (.lit (.bool true))).value [] {args:=args,res:=!(.bool true),after:=args}=↑(.bool (true==true))from w_eq_bool (w_res rfl) w_lit) rfl
def attach_call{l:OpenLaw}{q:Program}{loose:↥Str}{XP:(Str->Option Value)->Heap->Prop}{y:World->Heap->Prop}{d:DefRec}(C:l.most=!n)(s:d.params.defaults=[])(call:∀(w:World)(s₀ b:Shared)(mg k:Str->Option Value)(fa:Addr)(o:Obj)(pm j doc:Value)(a:Addr)(vs:↥Value)(ns:↥Int),Ground q loose [] XP w s₀ mg k b.1->y w b.1 ->b.1.get? fa=!o->o.data=.func (docDef d.name d.params d.body d.scope pm j doc)->b.1.CodeRec j d.name->mg d.name=↑(.ref fa) ->b.1.get? a=some {cls:=.type "list",data:=.seq vs.toArray}->IntsAre vs ns->ns.length<=n->b.gens=#[] ->codeAny (model l.prog w) callerA (.call (.ref fa) {[.ref a],[]}) (λr s'=>r=.ok (.ret (.bool true))/\OldK b.1 s'.1/\s'.os=b.os/\AllBare s'.gens) b):WalkO q loose XP y l.row.toRowW d [] (λf vs=>PySem.call f vs):=by intro w s₀ b mg k G Y fa o pm j doc J kV B hd t x p F args u as e v z m E;obtain rfl:J=.none:=Dflts.none x s;obtain rfl:kV=.none:=Dflts.noKw x;let⟨a,vs,ns,rfl,rfl,g,c,i⟩:=tm C e m;refine enter_call (codeAny_mono (call w s₀ b mg k fa o pm j doc a vs ns G Y B (fd_plain hd) t p g c i F) λr s' A=>?_);let⟨rfl,h2,I,H⟩:=A;exact{.inl {.bool true,.bool true,[],rfl,λ_=>rfl,.bool true,tq l _,λ_=>{List.Pairwise.nil,λ_ D=>(nomatch D)}},h2,I,H}
end Att
namespace _L
open PySem PySem.Spec PyProof.Rows
variable{P:Program}{w:World}{mg:Str->Option Value}{k:Nat}{a f p:Addr}{fd:FuncData}{x qual y:Str}{sp:Sp}{X:Cx}{st:Stmt}{ps T F:↥Str}{A:Around}{H H':Hp}{xs:↥V}{E:Value->Shared->Prop}{s:Shared}{elt iter tg:Expr}{ifs:↥Expr}{scope:Scope}{pos:Pos}{env:Env}{pins:↥(Addr×Obj)}{σ:St}{ixs:↥Nat}{v:V}{wi:TI}{g:TG}{tc:TT}{te:TE}{Q:VK}
theorem lS:∀{vs:↥Value}{ns:↥Int},IntsAre vs ns->Vals (ns.map V.int) vs|_,_,.nil=>.nil|_,_,.cons n t h=>.cons {(t),rfl} (lS h)
def Nv(H:Hp):Prop:=∀b,H b=none∨∃o xs,H b=!(.frz o (.lst xs))
def yj{K:Frag}{N:Str->Option Value}{CX:CXT}{fa:Addr}{c:Shared}{vs:↥Value}{ns:↥Int}
  (KX:K.In c.1) (E:c.1.Ns mainGlobals mg) (g:c.1.Ns builtinsNs N) (R:∀x:Str,x≠ "__name__" ->N x=bootBuiltins x) (G:c.1.NoLimit) (hg:c.gens=#[])
  (J:c.1.get? a=some {cls:=.type "list",data:=.seq vs.toArray}) (hi:IntsAre vs ns) (W:ns.length<=sizeLine) (hr:Room k callerA)
  (F:∀base:Heap,K.In base->base.Ns mainGlobals mg->FnOk P w K mg base CX k fa fd [x] sp) (l:∀(s:Shared)(u:Value),BindsTo s fd {[u],[]} [(x,u)])
  (O:∀H:Hp,Nv H->SqL K H a (ns.map V.int)->sp [.ref a] H (λv _=>v=.bl true) λ_ _ _=>False)
  (S:∀H e s',CX [] H c (λ_ _ _=>False) e s'->False):
  codeAny (model P w) callerA (.call (.ref fa) {[.ref a],[]}) (λr s'=>r=.ok (.ret (.bool true))/\OldK c.1 s'.1/\s'.os=c.os/\AllBare s'.gens) c:=by
 have U:=lS hi;have C:=hi.length
 have core:∀H:Hp,Nv H->SqL K H a (ns.map V.int)->HOk P w H c.1->(∀b,H b≠none->b=a)->(H a≠none->K.lookup a=none) ->
   codeAny (model P w) callerA (.call (.ref fa) {[.ref a],[]}) (λr s'=>r=.ok (.ret (.bool true))/\OldK c.1 s'.1/\s'.os=c.os/\AllBare s'.gens) c:=by
  intro H X hS hok Y hK;have f:∀{b:Addr}{o:Obj},c.1.get? b=!o->H b=none->(xH c.1 H).get? b=!o:=λe n=>xI e n
  have M:∀{b:Addr}{o:Obj}{es:Array DictEntry}{ep:Nat},c.1.get? b=!o->o.data=.dict es ep->H b=none:=fun {b o es ep} e d=>by
   cases q:H b with
   |none=>rfl
   |some u=>
    have T:b=a:=Y b (by rw[q];simp);subst T;rw[J]at e;cases e;have d':Data.seq vs.toArray _=Data.dict es ep:=d;cases d'
  have j:∀{b:Addr}{m:Str->Option Value},c.1.Ns b m->(xH c.1 H).Ns b m:=fun {b m} ⟨o,es,ep,e,d,r⟩=>{o,es,ep,f e (M e d),d,r}
  have I:K.In (xH c.1 H):=λb o e=>f (KX b o e) (by
   cases q:H b with
   |none=>rfl
   |some u=>
    have T:b=a:=Y b (by rw[q];simp);subst T;rw[hK (by rw[q];simp)]at e;cases e)
  have hM:Mod K mg (xH c.1 H):={I,j E,{N,j g,R},let ⟨mc,h1,h2⟩:=G;{mc,j h1,h2}};have e0:Env0 P w K mg (xH c.1 H) callerA [] c H:={rfl,hM,λb o e=>Da e,Nat.le_of_eq (sk _ _),trivial,λb g=>absurd (show b∈([]:↥Addr)from g) (by simp),hok,.of_eq hg};refine codeAny_mono ((F _ I (j E)).run callerA [] c H {[.ref a],[]} [.ref a] [.ref a] _ _ hr e0 (l c (.ref a)) (.cons rfl .nil) (O H X hS)) λr s' h=>?_
  cases r with
  |error e=>exact (S H e s' h).elim
  |ok fl=>
   cases fl with
   |next=>exact faa h
   |brk=>exact faa h
   |cont=>exact faa h
   |ret u=>
    let⟨v,H',os,bare,un,D,r',q⟩:=h;have q':v=.bl true:=q;subst q';obtain rfl:u=Value.bool true:=r';refine{rfl,OldK.of_keep λb o e=>?_,os,bare}
    cases q:H b with
    |none=>exact un.keep b o e q (by intro z;exact absurd (show b∈([]:↥Addr)from z) (by simp)) (by simp)
    |some u=>
     rcases X b with z|⟨ob,xs,z⟩
     .rw[q]at z;cases z
     .have z2:=un.frzs b ob _ z;let⟨Z,_⟩:=hok b _ z;let⟨e2,_⟩:=D b _ z2;rw[e]at Z;cases Z;exact e2
 cases Q:K.lookup a with
 |some o=>
  have e:=KX a o Q;rw[J]at e;cases e;refine core (λ_=>none) (λ_=>.inl rfl) (.inr {_,vs.toArray,_,Q,rfl,rfl,rfl,by rw[aca,C];exact W,(by exists U)}) (λb u z=>by have t:(none:Option HO)=!u:=z;cases t) (λb z=>absurd rfl z) λz=>absurd rfl z
 |none=>
  refine core (λb=>if b=a then ↑(.frz {cls:=.type "list",data:=.seq vs.toArray} (.lst (ns.map V.int))) else none) (λb=>?_) (.inl (.inr {{cls:=.type "list",data:=.seq vs.toArray},if_pos rfl})) (λb u z=>?_) (λb z=>?_) λ_=>Q
  .by_cases g:b=a
   .exact .inr {_,_,if_pos g}
   .exact .inl (if_neg g)
  .by_cases g:b=a
   .have t:=(if_pos g).symm.trans z;cases t;subst g;exact{J,by rw[abR];exact W,vs,_,U,J}
   .have t:=(if_neg g).symm.trans z;cases t
  .by_cases g:b=a
   .exact g
   .exact absurd (if_neg g) z
def walk_of{l:PySem.W.OpenLaw}{n:Nat}{q:Program}{loose:↥Str}{XP:(Str->Option Value)->Heap->Prop}{y:World->Heap->Prop}{d:DefRec}{K:Params->Frag}{CX:World->CXT}{sp:World->Sp}(A:l.most=!n)(m:n<=sizeLine)(r:d.params.defaults=[])(hr:Room k callerA)(E:∀(w:World)(h:Heap),y w h->(K w.params).In h)(F:∀(w:World)(mg:Str->Option Value)(fa:Addr)(h:Heap),(K w.params).In h->h.Ns mainGlobals mg->mg d.name=↑(.ref fa) ->∃fd:FuncData,(∀(s:Shared)(u:Value),BindsTo s fd {[u],[]} [(x,u)])/\ ∀base:Heap,(K w.params).In base->base.Ns mainGlobals mg->FnOk l.prog w (K w.params) mg base (CX w) k fa fd [x] (sp w))(j:∀(w:World)(H:Hp)(a:Addr)(ns:↥Int),ns.length<=n->Nv H->SqL (K w.params) H a (ns.map V.int)->sp w [.ref a] H (λv _=>v=.bl true) λ_ _ _=>False)(t:∀(w:World)(H:Hp)(s:Shared)(e:Value)(s':Shared),CX w [] H s (λ_ _ _=>False) e s'->False):PySem.W.WalkO q loose XP y l.row.toRowW d [] (λf vs=>PySem.call f vs):=by refine Att.attach_call A r λw s₀ g mg M fa o pm O doc a vs ns G Y N hd C p i c b B=>?_;have z:=E w _ Y;let⟨fd,D,L⟩:=F w mg fa _ z G.T.g p;exact yj z G.T.g G.T.b G.T.builtins G.T.nolimit B i c (aao b m) hr L D (λH J I=>j w H a ns b J I) λH e s'=>t w H g e s'
def cW(s:Stmt):Arguments:=match s with|.FunctionDef _ a _ _ _ _ _ _ _ _=>a|_=>{posonlyargs:=[],args:=[],vararg:=none,kwonlyargs:=[],kw_defaults:=[],kwarg:=none,defaults:=[]}
def bH(s:Stmt):↥Stmt:=match s with|.FunctionDef _ _ b _ _ _ _ _ _ _=>b|_=>[]
def ax(s:Stmt):Scope:=match s with|.FunctionDef _ _ _ _ _ _ a _ _ _=>a|_=>{kind:=.function,names:=[],isGenerator:=false,isCoroutine:=false}
abbrev CX0:CXT:=λ_ _ _ _ _ _=>False
abbrev E0:XK:=λ_ _ _=>False
def yk:iK CX0 X E0:=-λ_ _ _ _ _ _ _ h=>h.elim
structure Fun(K:Frag)(x qual:Str)(st:Stmt)(f:Addr)(fd:FuncData):Prop where
 ex:∃(oc:Value)(od:Option Addr)(kV doc pm:Value)(an:Option Addr)(cdv ct:Value)(osl:Array (Option Value)),
  fd=PySem.W.fnOf x qual (cW st) (bH st) (ax st) .none kV doc pm an cdv ct/\K.lookup f=!⟨oc,od,.func fd,osl⟩/\PySem.W.codeIn K cdv qual=true
 kp:PySem.W.keepIn K (.ref f)=true
section
variable   {K:Frag}  {base:Heap}
def Fun.ok{N:↥Str}(F:Fun K x qual st f fd)(S:FnScope N ps (ax st))(len:∀vs H Q E,sp vs H Q E->vs.length=ps.length)(a:∀(cdv:Value)(A:Around)(outer:↥Env)(s:Shared)(H:Hp)(vs:↥V)(Q:VK)(E:XK),Room k (A.deeper (envOfC qual (ax st) s.1.1.size f cdv))->sp vs H Q E ->∃t,PSs (sN CX0 P w K mg base N qual (ax st) f cdv A outer s H E).nox (bH st) t/\t {nx:=λ_ H'=>Q .non H',rt:=Q} (start N vs) H):FnOk P w K mg base CX0 (k+1) f fd ps sp:=by let⟨oc,od,kV,doc,pm,an,cdv,ct,osl,rfl,lk,c⟩:=F.ex;refine Nn lk c S len λA outer s H vs Q E hr b=>?_;let⟨t,h,q⟩:=a cdv A outer s H vs Q E hr b;exact{(t),h.nox,q}
def Fun.binds(F:Fun K x qual st f fd)(h:∀(kV doc pm:Value)(an:Option Addr)(cdv ct:Value)(us:↥Value),us.length=ps.length->bindArgs (PySem.W.fnOf x qual (cW st) (bH st) (ax st) .none kV doc pm an cdv ct) {us,[]}=pure (ps.zip us)):Binds K fd ps []:=by let⟨oc,od,kV,doc,pm,an,cdv,ct,osl,rfl,lk,a⟩:=F.ex;exact .all (h kV doc pm an cdv ct)
def BV{oc:Value}{od an:Option Addr}{osl:Array (Option Value)}{kV doc pm cdv ct:Value}(l:K.lookup f=!{oc,od,.func (PySem.W.fnOf x qual (cW st) (bH st) (ax st) .none kV doc pm an cdv ct),osl})(c:PySem.W.codeIn K cdv qual=true)(k:PySem.W.keepIn K (.ref f)=true):Fun K x qual st f (PySem.W.fnOf x qual (cW st) (bH st) (ax st) .none kV doc pm an cdv ct):=-{{(oc),od,kV,doc,pm,an,cdv,ct,osl,rfl,l,c},k}
end
def Nw(hr:Room k A):A.units+1<cLine:=-Nat.lt_of_le_of_lt (Nat.add_le_add_left (by decide:1<=64) _) hr.units
def Same(H H':Hp):Prop:=∀b o,H b=!o->H' b=!o
def Same.refl(H:Hp):Same H H:=-λ_ _ h=>h
def Same.trans{H1 H2:Hp}(a:Same H H1)(b:Same H1 H2):Same H H2:=-λc o h=>b c o (a c o h)
def Same.free(e:Same H H'){l:Addr}(h:H' l=Option.none):H l=Option.none:=by cases q:H l with|none=>rfl|some o=>rw[e l o q]at h;cases h
def Same.seq{K:Frag}(e:Same H H')(h:SqL K H a xs):SqL K H' a xs:=by rcases h with (h|⟨o,h⟩)|h;exact .inl (.inl (e _ _ h));exact .inl (.inr {o,e _ _ h});exact .inr h
section
variable{prog:Program}    {R:Result->Shared->Prop}
def lT{target:Expr}{it acc:Value}(I:Nat->Shared->Prop)
  (l:∀n s,I n s->wpAny (model prog w) A (pyNext it) (λr d=>match r with
   |none=>R (.ok .next) d
   |some v=>wpAny (model prog w) A (letOwnedTupleGo target it v) (λ_ b=>wpAny (model prog w) A (assign target env v) (λ_ g=>
     wpAny (model prog w) A (forIn ifs true λc r=>if r=true then do let ok ← isTrue c env (eval c env);pure (ForInStep.yield ok) else pure (ForInStep.yield r)) (λok a=>
      if ok=true then wpAny (model prog w) A (eval elt env) (λx f=>
       wpAny (model prog w) A (call (.builtin "list.append") [acc,x]) (λ_ e=>∃m,m<n/\I m e) (λ_ _=>False) f) (λ_ _=>False) a
      else ∃m,m<n/\I m a) (λ_ _=>False) g) (λ_ _=>False) b) (λ_ _=>False) d) (λ_ _=>False) s)
  (n:Nat) (h:I n s):
  codeAny (model prog w) A (.compLoop (.ListComp elt [{(target),iter,ifs,0}] scope pos) 0 it acc env) R s:=by
 refine codeAny_loop rfl I (λn s t=>?_) n h;show wpAny _ A ((compTurn (.ListComp elt [{(target),iter,ifs,0}] scope pos) 0 it acc env).onRaise (λx=>do noteFrame x env;theTreesLotGoes x)) _ _ s;refine wpAny_noted ?_;rw[compTurn_list];refine aaa (wpAny_standAt (aaa (abz (l n s t) (λr d j=>?_) λ_ _ h'=>h'.elim)))
 cases r with
 |none=>exact aaf j
 |some v=>
  refine aaa (abz j (λ_ b k=>?_) λ_ _ h'=>h'.elim);refine aaa (abz k (λ_ g q=>aaa (abz q (λok a i=>?_) λ_ _ h'=>h'.elim)) λ_ _ h'=>h'.elim)
  cases ok with
  |false=>exact aaf {(rfl),i}
  |true=>
   exact aaa (aaa (abz i (λx f p=>aaa (abz p (λ_ e o=>aaf (aaf {(rfl),o})) λ_ _ h'=>h'.elim)) λ_ _ h'=>h'.elim))
end
def HP(X:Cx)(ifs:↥Expr)(t:TT):Prop:=∀(pins:↥(Addr×Obj))(s:Shared)(σ:St)(H:Hp)(Q:Bool->Hp->Prop),Inv X pins σ H s->t σ H Q ->wpAny (model X.prog X.w) X.A (forIn ifs true λc r=>if r=true then do let ok ← isTrue c X.env (eval c X.env);pure (ForInStep.yield ok) else pure (ForInStep.yield r)) (TP X pins σ Q) X.xe s
def Nx:TT:=λ_ H Q=>Q true H
def DW:HP X [] Nx:=-λ_ _ _ H _ I h=>wpAny_tests_nil {(H),I,h}
def DX{c:Expr}{t:TT}(h:PT X c t):HP X [c] t:=-λpins s σ H Q I q=>wpAny_tests_one (h pins s σ H Q I q)
def bE(X:Cx)(N:↥Str)(scope:Scope)(cl:↥(Str×Addr))(C:Addr)(s:Shared)(H:Hp)(fp:↥Addr):Cx:={X with N:=N,s₀:=s,H₀:=H,env:=compEnvC scope cl C X.env,outer:=X.stack,ex:=fp,fn:=λ_=>false,pn:=[],xe:=λ_ _=>False}
def lU(σ:St)(ixs:↥Nat):St:=ixs.map λi=>(σ[i]?).getD none
structure CompScope(X:Cx)(T F:↥Str)(ixs:↥Nat)(scope:Scope):Prop where
 kind:scope.kind=.function
 nocell:∀y∈scope.names,y.2≠.cell
 names:∀y∈scope.names,y.2=.local->scope.names.lookup y.1=!.local
 cap:∀(j:Nat)(i:Nat)(x:Str),ixs[j]?=!i->F[j]?=!x->X.N[i]?=!x/\scope.names.lookup x=!.free
 len:ixs.length=F.length
 out:∀y∈scope.names,y.2=.free->X.env.scope.names.lookup y.1=↑.cell∨X.env.scope.names.lookup y.1=!.free
def aL(env:Env):↥(Str×NameKind)->↥(Str×Addr)->↥(Str×Addr)|[],a=>a|(n,k)::r,a=>if k==.free then aL env r ((n,(env.cells.lookup n).getD 0)::a) else aL env r a
def kD(h:∀y∈scope.names,y.2=.free->∃c,env.cells.lookup y.1=!c):closureFor scope env=pure (aL env scope.names []):=by
 unfold closureFor
 have gen:∀(l:↥(Str×NameKind))(a:↥(Str×Addr)),(∀y∈l,y.2=.free->∃c,env.cells.lookup y.1=!c) ->
   (do
    let mut a:=a
    for (name,kind)in l do
     if kind==.free then a:=(name,←cellOf env name)::a
    return a:Sem ↥(Str×Addr))=pure (aL env l a):=by
  intro l
  induction l with
  |nil=>intro a _;rfl
  |cons p r g=>
   intro a i;let⟨n,k⟩:=p;have hr:=λy j=>i y (aad _ j);by_cases d:k=.free
   .let⟨c,f⟩:=i (n,k) aac d;have f:env.cells.lookup n=!c:=f;have e:=g ((n,(env.cells.lookup n).getD 0)::a) hr;subst d;simp only[aL,List.forIn_cons,f,cellOf]at e ⊢;simpa using e
   .have e:=g a hr;have b:(k==NameKind.free)=false:=(by exists d);simp only[aL,List.forIn_cons,b,if_neg Bool.false_ne_true]at e ⊢;simpa using e
 exact gen scope.names [] h
theorem dR{env:Env}:∀{l:↥(Str×NameKind)}{cs:↥(Str×Addr)}{x:Str}{c:Addr},(∀y∈l,y.2=.free->∃c,env.cells.lookup y.1=!c)->(∀x c,cs.lookup x=!c->env.cells.lookup x=!c) ->(aL env l cs).lookup x=!c->env.cells.lookup x=!c|[],cs,x,c,_,a,h=>a x c h|(n,k)::r,cs,x,c,g,a,h=>by have hr:=λy i=>g y (aad _ i);unfold aL at h;split at h;rename_i j;have b:k=.free:=(by exists j);let⟨m,d⟩:=g (n,k) aac b;have d:env.cells.lookup n=!m:=d;refine dR hr (λf o h'=>?_) h;rw[aaK]at h';split at h';rename_i e;have e:f=n:=(by exists e);subst e;rw[d]at h' ⊢;simpa using h';exact a f o h';exact dR hr a h
theorem fA{env:Env}:∀{l:↥(Str×NameKind)}{cs:↥(Str×Addr)}{x:Str},((x,NameKind.free)∈l∨∃c,cs.lookup x=!c)->∃c,(aL env l cs).lookup x=!c|[],cs,x,h=>by{rcases h with h|h;cases h;exact h}|(n,k)::r,cs,x,h=>by unfold aL;split;rename_i a;have b:k=.free:=(by exists a);refine fA ?_;rcases h with h|h;rcases ab2.mp h with e|h;have e:x=n:=by{injection e};subst e;exact .inr {(env.cells.lookup x).getD 0,by rw[aaK];simp};exact .inl h;let⟨c,h⟩:=h;refine .inr ?_;rw[aaK];split;exact{_,rfl};exact{(c),h};rename_i a;refine fA ?_;rcases h with h|h;rcases ab2.mp h with e|h;have e:NameKind.free=k:=by{injection e};subst e;simp at a;exact .inl h;exact .inr h
theorem dS{env:Env}:∀{names:↥(Str×NameKind)}{x:Str}{q:NameKind},(names.map λ(n,k)=>if (k==NameKind.free&&env.scope.kind==.function&&env.kindOf n==!.cell) then (n,NameKind.cell) else (n,k)).lookup x=↑q ->names.lookup x=↑q∨(q=.cell/\names.lookup x=!.free)|[],_,_,h=>by simp at h|(n,k)::r,x,q,h=>by have c:=@dS env r x q;rw[ab1]at h;dsimp only at h;by_cases b:(k==NameKind.free&&env.scope.kind==.function&&env.kindOf n==!.cell)=true;rw[if_pos b,aaK]at h;rw[aaK];cases a:x==n with|true=>rw[a]at h;have d:k=.free:=by{simp only[Bool.and_eq_true]at b;simpa using b.1.1};exact .inr {(aak h).symm,by rw[d]}|false=>{rw[a]at h;exact c h};rw[if_neg b,aaK]at h;rw[aaK];cases a:x==n with|true=>rw[a]at h;exact .inl h|false=>rw[a]at h;exact c h
theorem gR{env:Env}:∀{names:↥(Str×NameKind)}{x:Str},names.lookup x=↑.free ->(names.map λ(n,k)=>if (k==NameKind.free&&env.scope.kind==.function&&env.kindOf n==!.cell) then (n,NameKind.cell) else (n,k)).lookup x=!.cell∨(names.map λ(n,k)=>if (k==NameKind.free&&env.scope.kind==.function&&env.kindOf n==!.cell) then (n,NameKind.cell) else (n,k)).lookup x=!.free|[],_,h=>by simp at h|(n,k)::r,x,h=>by have b:=@gR env r x;rw[ab1];dsimp only;rw[aaK]at h;by_cases c:(k==NameKind.free&&env.scope.kind==.function&&env.kindOf n==!.cell)=true;rw[if_pos c,aaK];cases a:x==n with|true=>exact .inl rfl|false=>{rw[a]at h;exact b h};rw[if_neg c,aaK];cases a:x==n with|true=>rw[a]at h;exact .inr h|false=>rw[a]at h;exact b h
def eP(no:Nat)(ixs:↥Nat)(wi:TI)(g:TG)(tc:TT)(te:TE):TE:=λσ H Q=>wi σ H λJ H1=>∀D,H1 D=none->∃W:Nat->Nat->↥V->St->Hp->Prop,(∃m,W 0 m [] (List.replicate no none++lU σ ixs) (upd H1 D (.lst [])))/\∀i m acc e H',W i m acc e H' ->(J.stop i H'/\Q (.ref D) H')∨(J.go i H'/\∃N:↥V->St->Hp->Prop,(∀c d H2,N c d H2->∃f,f<m/\W (i+1) f c d H2)/\ ∀x H2,J.yld i H' x H2->g x e H2 λa l=>tc a l λb k=>if b=true then te a k λy j=>j D=!(.lst acc)/\acc.length<sizeLine/\N (acc++[y]) a (upd j D (.lst (acc++[y]))) else N acc a k)
section
variable         {fp:↥Addr}
def DY(I:Inv X pins σ H s)(S:CompScope X T F ixs scope)(a:∀b∈fp,sr X pins H b)(j:∀b∈fp,∃o,s.1.get? b=!o):(bE X (T++F) scope (aL X.env scope.names []) s.1.1.size s H fp).Ok:=by have i:∀y∈scope.names,y.2=.free->∃c,X.env.cells.lookup y.1=!c:=λy m k=>by{rcases S.out y m k with e|e;exact I.ok.has _ (.inl e);exact I.ok.has _ (.inr e)};have f:∀x c,(aL X.env scope.names []).lookup x=!c->X.env.cells.lookup x=!c:=λx c h=>dR i (λ_ _ z=>by simp at z) h;refine{I.ok.mod,S.kind,I.ok.glob,I.ok.blt,aab _,λx y c h1 h2=>I.ok.inj x y c (f x c h1) (f y c h2),λx d=>?_,λ_ _ z=>(nomatch z),I.ok.hd,I.ok.frames,.inl rfl,λb g=>{?_,λx c e=>?_},I.bs,aao I.ok.bsz I.sz,λb o e g=>?_,λb g l=>?_,I.stack,I.stkFree};have d:(relabel scope X.env).names.lookup x=↑.cell∨(relabel scope X.env).names.lookup x=!.free:=d;have k:scope.names.lookup x=!.free:=by{rcases d with d|d;rcases dS d with q|⟨_,q⟩;exact absurd rfl (S.nocell _ (aaV q));exact q;rcases dS d with q|⟨z,_⟩;exact q;cases z};exact fA (.inl (aaV k));let⟨o,n⟩:=j b g;exact aap (aaj n);exact(a b g).2.2.2.2.1 x c (f x c e);rcases (a b g).2.2.2.1 with z|z;exact I.ok.noex b o e z;exact absurd (aau (aaj e) (aao I.ok.bsz z)) (aa2 _);rcases ab2.mp (I.stkSub b l)with e|z;exact(a b g).2.1 e;exact(a b g).2.2.1 z
def tu{j:Nat}(h:(lU σ ixs)[j]?=!!v):∃i,ixs[j]?=!i/\σ[i]?=!!v:=by unfold lU at h;rw[abW]at h;cases e:ixs[j]? with|none=>rw[e]at h;cases h|some i=>rw[e]at h;refine{i,rfl,?_};have h:(σ[i]?).getD none=!v:=aak h;cases q:σ[i]? with|none=>rw [q]at h;cases h|some u=>rw [q]at h;exact congrArg some h
def yl(I:Inv X pins σ H s)(S:CompScope X T F ixs scope)(D:∀b∈fp,sr X pins H b)(E:∀b∈fp,∃o,s.1.get? b=!o){h':Heap}{t':Nat}{m:Str->Option Value}(C:∀b o,s.1.get? b=!o->h'.get? b=!o)(P:h'.Ns s.1.1.size m):Inv (bE X (T++F) scope (aL X.env scope.names []) s.1.1.size s H fp) [] (List.replicate T.length none++lU σ ixs) H {s with heap:=h',toks:=t'}:=by have ok:=DY I S D E;have l:∀y∈scope.names,y.2=.free->∃c,X.env.cells.lookup y.1=!c:=λy K w=>by{rcases S.out y K w with e|e;exact I.ok.has _ (.inl e);exact I.ok.has _ (.inr e)};have f:∀x c,(aL X.env scope.names []).lookup x=!c->X.env.cells.lookup x=!c:=λx c h=>dR l (λ_ _ z=>by simp at z) h;have a:∀c v,s.1.IsCell c v->h'.IsCell c v:=λc v {(o),N,hd}=>{o,C c o N,hd};refine{ok,rfl,I.bare,Un.kept C,{m,P,λj x v A n W=>?_},λx c e=>?_,I.hok.fresh (aab _),λx c e=>I.freeC x c (f x c e),λp M=>absurd (show p∈([]:↥(Addr×Obj))from M) (by simp),I.hok.kept C,?_};have t:T.length<=j:=by{refine Nat.le_of_not_lt λt=>?_;rw[acg (by exists t),List.getElem?_replicate]at n;split at n<;>cases n};rw[ab7 (by exists t),aaJ]at n;have A:(T++F)[j]?=!x:=A;rw[ab7 t]at A;let⟨i,hi,L⟩:=tu n;let⟨U,w⟩:=S.cap _ i x hi A;let⟨V,O,Q⟩:=I.loc;have G:=aaV w;have d:X.env.scope.names.lookup x=↑.cell∨X.env.scope.names.lookup x=!.free:=S.out _ G rfl;let⟨u,J,lk⟩:=Q i x v U L (d.elim (λz=>.inr (.inl z)) λz=>.inr (.inr z));refine{u,J,?_};rcases lk with ⟨r,_⟩|⟨_,c,R,g⟩;have r:X.env.scope.names.lookup x=!.local:=r;rcases d with z|z;rw[r]at z;cases z;rw[r]at z;cases z;let⟨B,k⟩:=fA (env:=X.env) (cs:=[]) (.inl G);have e:B=c:=by{have:=f x B k;rw[R]at this;exact(aak this).symm};subst e;exact .inr {gR w,B,k,a B _ g};let⟨v,q⟩:=I.cell x c (f x c e);exact{v,a c v q};show _=(T++F).length;rw[aag,aaJ,aag,lU,abR,S.len]
def oO{pos':Pos}(hc:X.calm=true)(S:CompScope X T F ixs scope)
  (hi:PI X tg iter wi)
  (hg:∀C s H fp,PG (bE X (T++F) scope (aL X.env scope.names []) C s H fp) tg g)
  (ht:∀C s H fp,HP (bE X (T++F) scope (aL X.env scope.names []) C s H fp) ifs tc)
  (he:∀C s H fp,PE (bE X (T++F) scope (aL X.env scope.names []) C s H fp) elt te)
  (hs:∀x,foldedSetIterable iter X.env x=pure x) {use:Option (Value->Sem Unit)} {QQ:Value->Shared->Prop}      (I:Inv X pins σ H s) (h:eP T.length ixs wi g tc te σ H Q)
  (fine:∀(D C:Addr)(G:Hp)(E:Shared)(f:Flow),(∃m,E.1.Ns C m)->G C=none->C≠X.env.locals->(∀x c,X.env.cells.lookup x=!c->c≠C)->X.s₀.1.1.size<=C->(∀p∈X.pn++pins,p.1≠C) ->
   (∀h7,Heap.SameBut C E.1 h7->Inv X pins σ G {E with heap:=h7})->Q (.ref D) G->compPost (model X.prog X.w) X.A X.xe use QQ (.ref D) C (.ok f) E):
  wpAny (model X.prog X.w) X.A (comprehension (.ListComp elt [{(tg),iter,ifs,0}] scope pos) scope X.env pos' (newList []) false (eval iter X.env) use) QQ X.xe s:=by
 have hall:∀y∈scope.names,y.2=.free->∃c,X.env.cells.lookup y.1=!c:=λy hy hf=>by
  rcases S.out y hy hf with e|e
  .exact I.ok.has _ (.inl e)
  .exact I.ok.has _ (.inr e)
 refine wpAny_comprehension_free (use:=use) (cl:=aL X.env scope.names []) rfl hs (kD hall) S.kind S.names (thn (hi pins s σ H _ I h) λv s1 h1=>thn h1 λitv A h2=>?_);let⟨it,fp,tn,J,H2,e,I2,TT,st2,f2,q2⟩:=h2;subst e;refine aaO ?_
 have U:Inv X pins σ (upd H2 A.1.1.size (.lst [])) {A with heap:=A.1.push {cls:=.type "list",dict:=none,data:=.seq ([]:↥Value).toArray}}:=
  I2.laid (t':=A.toks) (λb u q=>abV _ q) (aab _) {aan _,[],0,.nil,ab0 _ rfl}
 have hD:H2 A.1.1.size=none:=I2.hok.fresh (aab _);have hfo:∀b∈fp,∃o,A.1.get? b=!o:=λb a=>let ⟨o,e,_⟩:=TT.obj _ _ st2 b a;{(o),e};have neD:∀b∈fp,b≠A.1.1.size:=λb a=>by let⟨o,e⟩:=hfo b a;exact aap (aaj e)
 have f3:∀b∈fp,sr X pins (upd H2 A.1.1.size (.lst [])) b:=λb a=>by
  let⟨a1,a2⟩:=f2 b a;exact{by rw[aj (neD b a)];exact a1,a2}
 let⟨W,⟨m0,w0⟩,turn⟩:=q2 A.1.1.size hD;generalize hs3:({A with heap:=A.1.push {cls:=.type "list",dict:=none,data:=.seq ([]:↥Value).toArray}}:Shared)=l at U ⊢;generalize hH3:upd H2 A.1.1.size (.lst [])=H3 at U f3 w0
 have hfo3:∀b∈fp,∃o,l.1.get? b=!o:=λb a=>by
  let⟨o,e⟩:=hfo b a;rw[←hs3];exact{o,abV _ e}
 have st3:tn 0 l.1:=TT.keep _ _ _ st2 λb a o e=>by rw[←hs3];exact abV _ e
 refine wpAny_newFunctionEnv S.nocell (by intro y hy;simp at hy) (λh4 hns4 hsb4=>?_) S.kind;have old:∀b o,l.1.get? b=!o->h4.get? b=!o:=λb o e=>hsb4.extBut b o (aap (aaj e)) (abV _ e);have J4:=yl U S f3 hfo3 (t':=l.toks+([]:↥(Str×Value)).length) old hns4;generalize hs4:({l with heap:=h4,toks:=l.toks+([]:↥(Str×Value)).length}:Shared)=s4 at J4 ⊢;have st4:tn 0 s4.1:=by rw[←hs4];exact TT.keep _ _ _ st3 λb a o e=>old b o e
 have hg':=hg l.1.1.size l H3 fp;have ht':=ht l.1.1.size l H3 fp;have he':=he l.1.1.size l H3 fp;generalize O:bE X (T++F) scope (aL X.env scope.names []) l.1.1.size l H3 fp=Y at J4 hg' ht' he';have yA:Y.A=X.A:=by rw[←O];rfl
 have yP:Y.prog=X.prog:=by rw[←O];rfl
 have Z:Y.w=X.w:=by rw[←O];rfl
 have yK:Y.K=X.K:=by rw[←O];rfl
 have yC:Y.calm=true:=by rw[←O];exact hc
 have yE:Y.env=compEnvC scope (aL X.env scope.names []) l.1.1.size X.env:=by rw[←O];rfl
 have yX:Y.xe=λ_ _=>False:=by rw[←O];rfl
 have fY:∀{H':Hp},(∀b∈fp,H' b=none)->∀b∈fp,sr Y [] H' b:=λhn b a=>by
  have k:=J4.ok;rw[←O]at k ⊢;exact{hn b a,(k.exf b a).1,k.exfs b a,.inl a,(k.exf b a).2,λp hp=>absurd (show p∈([]:↥(Addr×Obj))from hp) (by simp)}
 have P:codeAny (model X.prog X.w) X.A (.compLoop (.ListComp elt [{(tg),iter,ifs,0}] scope pos) 0 (.ref it) (.ref A.1.1.size) (compEnvC scope (aL X.env scope.names []) l.1.1.size X.env))
   (compPost (model X.prog X.w) X.A X.xe use QQ (.ref A.1.1.size) l.1.1.size) s4:=by
  refine lT (λn s'=>∃i acc t H',Inv Y [] t H' s'/\tn i s'.1/\(∀b∈fp,H' b=none)/\W i n acc t H') ?_ m0 {0,[],_,H3,J4,st4,λb a=>(f3 b a).1,w0};rintro n s5 ⟨i,acc,L,G,J5,st5,fr5,w5⟩;rcases turn i n acc L G w5 with ⟨stop,qn⟩|⟨go,N,hN,step⟩
  .have fin:=TT.done Y yP Z yK yC i [] s5 L G (λ_ _=>False) J5 (fY fr5) st5 stop;rw[yA]at fin;refine thn fin λr E r=>?_;let⟨hr,J6⟩:=r;subst hr
   let⟨m,hm,_⟩:=id J6.loc;have hm:E.1.Ns l.1.1.size m:=by rw[yE]at hm;exact hm
   have w:=J6.base;have M:=J6.os;have j:=J6.free;have hbare:=J6.bare;have hok6:HOk X.prog X.w G E.1:=by have:=J6.hok;rw[yP,Z]at this;exact this
   rw[yE]at j;have j:G l.1.1.size=none:=j;rw[←O]at w M;have w:Un (frs X.stack) fp H3 G l.1 E.1:=w;have M:E.os=l.os:=M;have ltC:∀b o,l.1.get? b=!o->b≠l.1.1.size:=λb o e=>aap (aaj e);refine fine _ _ G E _ {(m),hm} j ?hl ?hcl U.sz ?hpn (λh7 R=>?_) qn
   case hl=>exact λz=>aa2 _ (z ▸ U.lt)
   case hcl=>exact λx c e z=>by let⟨v,o,ho,_⟩:=U.cell x c e;exact ltC c o ho z
   case hpn=>exact λp hp z=>ltC p.1 p.2 (U.pin p hp).1 z
   have same:∀b,b<l.1.1.size->h7.get? b=E.1.get? b:=λb a=>R.2 b (aap a)
   have hok7:HOk X.prog X.w G h7:=λb o e=>by
    refine(hok6 b o e).stay (λc w' hc q=>(R.2 c ?_).trans q) (λ_ q=>q) λ_ _ q=>q;rintro rfl;rcases hc with z|z
    .rw[←z,j]at e;cases e
    .rw[j]at z;cases z
   have un7:Un (frs X.stack) fp H3 G l.1 h7:=
    {λb o e n a hx=>(same b (aaj e)).trans (w.keep b o e n a hx),λb o e n a hx=>by
     let⟨sl,q⟩:=w.slot b o e n a hx;exact{sl,(same b (aaj e)).trans q},w.free,λb o e hx=>by
     let⟨o',q⟩:=w.there b o e hx;exact{o',(same b (aaj e)).trans q},w.tups,w.frzs,w.tbls}
   exact U.call' (s':={E with heap:=h7}) M un7 hok7 hbare λb a=>by
    let⟨_,a2,a3,a4,a5,a6⟩:=f3 b a;exact{(a4),a2,a5,a6}
  .have nx:=TT.item Y yP Z yK yC i [] s5 L G (λ_ _=>False) J5 (fY fr5) st5 go;rw[yA]at nx;refine thn nx λr E x0=>?_;let⟨u,hr,h6⟩:=x0;subst hr;refine thn h6 λ_ s7 x1=>?_;let⟨x,H7,J7,r7,y7,st7,fr7⟩:=x1;have J7':=J7.pinned (fY fr7) (TT.obj _ _ st7);have asg:=hg' _ s7 L H7 x u _ J7' r7 (step x H7 y7);rw[yA,yP,Z,yE,yX]at asg;refine thn asg λ_ s8 x2=>?_;let⟨K,H8,J8,q8⟩:=x2;have tst:=ht' _ s8 K H8 _ J8 q8;rw[yA,yP,Z,yE,yX]at tst;refine thn tst λb s9 {(H9),J9,q9}=>?_
   have again:∀{s':Shared}{B:↥V}{t:St}{H':Hp},Inv Y ([]++jP fp s7.1) t H' s'->N B t H'->∃m,m<n/\∃i acc t H',Inv Y [] t H' s'/\tn i s'.1/\(∀b∈fp,H' b=none)/\W i m acc t H':=fun {s' B t H'} K7 n7=>by
    let⟨m',hm,w7⟩:=hN B t H' n7;refine{m',hm,i+1,B,t,H',K7.unpinned,TT.keep _ _ _ st7 λb a o e=>(K7.pin (b,o) (aal _ (aal _ (fw a e)))).1,λb a=>?_,w7};let⟨o,e,d⟩:=TT.obj _ _ st7 b a;exact(K7.pin (b,o) (aal _ (aal _ (fw a e)))).2.1
   cases b with
   |false=>
    rw[if_neg ab3]at q9 ⊢;exact again J9 q9
   |true=>
    rw[if_pos rfl]at q9 ⊢;have elv:=he' _ s9 K H9 _ J9 q9;rw[yA,yP,Z,yE,yX]at elv;refine thn elv λu10 s10 x3=>?_;let⟨y,H10,J10,r10,q10⟩:=x3;let⟨hl,hz,qN⟩:=q10;have app:=lQ (X:=Y) ([]++jP fp s7.1) s10 K H10 (.ref A.1.1.size) [y] (.ref A.1.1.size) [u10] (λ_ H'=>N (acc++[y]) K H') J10 rfl (.cons r10 .nil) {_,acc,y,rfl,rfl,hl,hz,qN};rw[yA,yP,Z,yX]at app;exact thn app λ_ s11 {_,H11,J11,_,q11}=>again J11 q11
 exact codeAny_compStart_list P (TT.self _ 0 _ _ _ st4 P)
def DZ(i:X.calm=true)(S:CompScope X T F ixs scope)(hi:PI X tg iter wi)(d:∀C s H fp,PG (bE X (T++F) scope (aL X.env scope.names []) C s H fp) tg g)(b:∀C s H fp,HP (bE X (T++F) scope (aL X.env scope.names []) C s H fp) ifs tc)(e:∀C s H fp,PE (bE X (T++F) scope (aL X.env scope.names []) C s H fp) elt te)(hs:autoParam (∀x,foldedSetIterable iter X.env x=pure x) _L.aI._auto_1):PE X (.ListComp elt [{(tg),iter,ifs,0}] scope pos) (eP T.length ixs wi g tc te):=by intro pins s σ H Q I h;rw[eval_ListComp];exact oO i S hi d b e hs I h λD C l n f {(m),c} _ _ _ _ _ a q=>{m,c,λj k=>{.ref D,l,a j k,rfl,q}}
def D0{i:Nat}{py c:Pos}(O:X.calm=true)(S:CompScope X T F ixs scope)(hi:PI X tg iter wi)(L:∀C s H fp,PG (bE X (T++F) scope (aL X.env scope.names []) C s H fp) tg g)(G:∀C s H fp,HP (bE X (T++F) scope (aL X.env scope.names []) C s H fp) ifs tc)(N:∀C s H fp,PE (bE X (T++F) scope (aL X.env scope.names []) C s H fp) elt te)(hs:∀x,foldedSetIterable iter X.env x=pure x)(Q:X.N.Nodup)(k:X.N[i]?=!y)(hx:Loc X.env.scope y)(j:swapsWith (.ListComp elt [{(tg),iter,ifs,0}] scope pos) ↑(.Name y py) c.line X.env=pure true)(M:X.fn y=true∨X.env.scope.names.lookup y=!.local):PS X (.Assign [.Name y py] (.ListComp elt [{(tg),iter,ifs,0}] scope pos) c) (qE (eP T.length ixs wi g tc te) (fG i)):=by intro pins s σ H D I h;rw[exec_Assign_Name_used _ _ _ _ j];refine aaa (wpAny_standAt (aaa ?_));show wpAny _ X.A (do let _ ← comprehension (.ListComp elt [⟨tg,iter,ifs,0⟩] scope pos) scope X.env _ (newList []) false (eval iter X.env) !(assign (.Name y py) X.env)) _ _ s;refine aaa (thn (oO (use:=!(assign (.Name y py) X.env)) (QQ:=λ_ s'=>SP X pins D .next s') O S hi L G N hs I h λu C t n f {(m),K} fC p r v B d q=>?_) λ_ s' J=>aaf (aaf J));have V:Inv X pins σ t n:=d n.1 (Heap.SameBut.refl _ _);refine wpAny_assign_Name (lE V Q k hx (show RelV (.ref u) (.ref u)from rfl) (λA U W=>?_) M);let⟨a,w,l⟩:=W;have R:C≠a:=by{rcases l with rfl|l;exact p;exact λz=>r y a l z.symm};refine{m,K.sameBut w R,λW E=>{_,t,?_,q}};exact U.turned (t':=A.toks) (λb o P e=>(E.2 b P).trans e) fC p (.inr v) r B
end
def Its(z:Str):It:={λi _=>i<z.cps.size,λi H x H'=>H'=H/\∃c,z.cps.toList[i]?=!c/\x=.str {#[c]},λi _=>i=z.cps.size}
theorem oP{K:Frag}(nm:String)(hnm:["enumerate","zip","dict_itemiterator","dict_reverseitemiterator","odict_iterator","itertools.zip_longest","itertools.pairwise"].contains nm=false)(it:Addr)(z:Str)(t:Tok)
  (W:∀A:Around,A.handled=none->Walks P w A it [it] [it] z.cps.size (SignAt z) (λi h=>h.IsStrIter it nm z t i))
  (hself:∀(A:Around)(i:Nat)(s:Shared)(Q:Value->Shared->Prop)(E:Value->Shared->Prop),s.1.IsStrIter it nm z t i->Q (.ref it) s->wpAny (model P w) A (pyIter (.ref it)) Q E s):Turn P w K tg (Its z) [it] it (λi h=>h.IsStrIter it nm z t i) where
 mem:=by simp
 obj:=λi h st b hb=>by
  have e:b=it:=(by exists hb);subst e;let⟨o,e,c,d⟩:=st;exact{o,e,λv q=>by rw[d]at q;cases q}
 keep:=λi h h' st k=>by
  let⟨o,e,r⟩:=st;exact{o,k it (by simp) o e,r}
 item:=by
  intro X hP hw hK hc i pins s σ H E I hf st hg;subst hP hw hK;let⟨f0,f1,f2,f3,f4,f5⟩:=hf it (by simp);refine(W X.A (I.ok.hd hc)).item i s _ _ hg st λv h' tk hv st' kk=>?_;let⟨c,u,hcx,rfl⟩:=hv;have I1:Inv X pins σ H {s with heap:=h',toks:=tk}:=I.turned (λb o hb e=>kk b o (by exists hb) e) f0 f1 f3 f4 f5;let⟨o,e,cl,d⟩:=id st';exact{_,rfl,iE (s:={s with heap:=h',toks:=tk}) e cl d hnm {.str {#[c]},H,I1,{(u),rfl},{rfl,c,(by exists hcx),rfl},st',λb hb=>(hf b hb).1}}
 done:=by
  intro X hP hw hK hc i pins s σ H E I hf st hg;subst hP hw hK;let⟨f0,f1,f2,f3,f4,f5⟩:=hf it (by simp);have hg:i=z.cps.size:=hg;subst hg;exact(W X.A (I.ok.hd hc)).done s _ _ st λh' tk kk=>{rfl,I.turned (λb o hb e=>kk b o (by exists hb) e) f0 f1 f3 f4 f5}
 self:=λA i s Q E st h=>hself A i s Q E st h
def Ny(tl:TE):TI:=λσ H R=>tl σ H λx H1=>∃z,x=.str z/\R (Its z) H1
def IX{l:Expr}{tl:TE}(j:PE X l tl):PI X tg l (Ny tl):=by intro pins s σ H R I h;refine thn (j pins s σ H _ I h) λv a y=>?_;let⟨x,H1,c,g,i⟩:=y;let⟨z,e,q⟩:=i;subst e;let⟨t,rfl⟩:=g;have fp:∀b∈[a.1.1.size],sr X pins H1 b:=λb k=>by{have e:b=a.1.1.size:=(by exists k);subst e;exact c.fpOk (aab _) (c.hok.fresh (aab _))};cases f:z.cps.all (·<128);exact wpAny_pyIter_wide f {a.1.1.size,[a.1.1.size],_,_,H1,rfl,c.kept (t':=a.toks) λb o e=>abV _ e,oP "str_iterator" (by decide) _ z t (λA d=>Walks.strWide d _ z t) (λ_ _ _ _ _ st h=>wpAny_pyIter_striter_wide st h),{_,ab0 _ rfl,rfl,rfl},fp,q};exact wpAny_pyIter_ascii f {a.1.1.size,[a.1.1.size],_,_,H1,rfl,c.kept (t':=a.toks) λb o e=>abV _ e,oP "str_ascii_iterator" (by decide) _ z t (λA d=>Walks.strAscii d _ z t) (λ_ _ _ _ _ st h=>wpAny_pyIter_striter_ascii st h),{_,ab0 _ rfl,rfl,rfl},fp,q}
def isT(t T:String):Bool:=t==T||(t=="bool" && T=="int")
def okT(T:String):Prop:=T="str"∨T="int"∨T="bool"∨T="list"∨T="tuple"∨T="dict"∨T="NoneType"
def IY{K:Frag}{t T:String}(a:okT t)(b:okT T):PySem.W.kitOne K (.type t) (.type T)=!(isT t T):=by rcases a with rfl|rfl|rfl|rfl|rfl|rfl|rfl<;>rcases b with rfl|rfl|rfl|rfl|rfl|rfl|rfl<;>rfl
def nG(bs:↥Bool):TruthOf P w A (λi v=>∃b,bs[i]?=!b/\v=Value.bool b) (λi=>bs.getD i false):=by intro i v s Q E d c;let⟨b,a,rfl⟩:=d;have e:bs.getD i false=b:=by{rw[ab5,a];rfl};exact aaN (by rw[←e];exact c)
def tw{bs:↥Bool}:(List.range bs.length).all (λi=>bs.getD i false)=bs.all id:=by rw[abo,abN,abN];constructor;intro h b a;let⟨i,hi,e⟩:=acD.mp a;have:=h i (acw.mpr hi);rw[ab5,abU hi,e]at this;exact this;intro h i hi;have hi:=acw.mp hi;rw[ab5,abU hi];exact h _ (aaL hi)
def tD{bs:↥Bool}:(List.range bs.length).any (λi=>bs.getD i false)=bs.any id:=by rw[abo,aaM,aaM];constructor;rintro⟨i,hi,h⟩;have hi:=acw.mp hi;rw[ab5,abU hi]at h;exact{_,aaL hi,h};rintro⟨b,a,h⟩;let⟨i,hi,e⟩:=acD.mp a;refine{i,acw.mpr hi,?_};rw[ab5,abU hi,e];exact h
def ym{bs:↥Bool}:∀{us:↥Value},Vals (bs.map V.bl) us->us.length=bs.length/\∀(i:Nat)(v:Value),us[i]?=!v->∃b,bs[i]?=!b/\v=Value.bool b:=by intro us r;have d:=r.length;rw[abR]at d;refine{d.symm,λi v h=>?_};have hi:i<us.length:=(abT.mp h).1;have a:i<bs.length:=();let⟨u,c,e⟩:=r.get (i:=i) (x:=.bl bs[i]) (by simp[a]);rw[h]at c;cases c;exact{bs[i],by simp[a],e}
def jW{bs:↥Bool}(I:Inv X pins σ H s)(u:SqL X.K H p (bs.map V.bl))(A:Around)(B:A.handled=none){r:Bool}(fn:↥Nat->(Nat->Bool)->Bool)(hr:fn (List.range bs.length) (λi=>bs.getD i false)=r)(q:Q (.bl r) H):wpAny (model X.prog X.w) A (pyIter (.ref p)) (λit a=>∃I fp j n P St k,it=.ref I/\Walks X.prog X.w A I fp j n P St/\St 0 a.1/\TruthOf X.prog X.w A P k/\ ∀h' tk,(∀b o,b∉j->a.1.get? b=!o->h'.get? b=!o)->EP X pins σ Q (.bool (fn (List.range n) k)) {a with heap:=h',toks:=tk}) E s:=by let⟨its,l,pl,C⟩:=I.list u;let⟨x,f⟩:=ym l;refine wpAny_pyIter_list pl.isList ?_;have ne:p≠s.1.1.size:=by{let⟨o,d,_⟩:=pl.isList;exact aap (aaj d)};have c:=Walks.list (prog:=X.prog) (w:=X.w) B s.1.1.size p ne its.toArray;have g:Walks X.prog X.w A s.1.1.size [s.1.1.size,p] [s.1.1.size] bs.length (λi v=>∃b,bs[i]?=!b/\v=Value.bool b) (λi h=>h.IsListIter s.1.1.size p i/\h.IsList p its.toArray):=by{have e:its.toArray.size=bs.length:=by{simp[x]};rw[e]at c;exact {sub:=c.sub,frame:=c.frame,item:=λi s Q E hi st y=>c.item i s Q E hi st λv h' tk t=>y v h' tk (f i v (by exists t)),done:=c.done,self:=c.self}};refine{s.1.1.size,_,_,_,_,_,_,rfl,g,{{_,ab0 _ rfl,rfl,rfl},?_},nG bs,λh' tk m=>?_};let⟨o,d,r⟩:=pl.isList;exact{o,abV _ d,r};refine{.bl r,H,I.kept (h':=h') (t':=tk) λb o e=>m b o ?_ (abV _ e),by rw[←hr];rfl,q};intro z;have z:b=s.1.1.size:=(by exists z);exact absurd (aaj e) (by rw[z];exact aa2 _)
def yn(c:X.calm=true):CallR X (.builtin "all") (λxs H Q=>∃(p:Addr)(bs:↥Bool),xs=[.ref p]/\SqL X.K H p (bs.map V.bl)/\Q (.bl (bs.all id)) H):=by intro pins s σ H xs us Q I r h;let⟨p,bs,rfl,b,q⟩:=h;let⟨u,rfl,a⟩:=eI r;cases a;exact call_all_walk (jW I b X.A.in1 (I.ok.hd c) (λl f=>l.all f) tw q)
def yo(c:X.calm=true):CallR X (.builtin "any") (λxs H Q=>∃(p:Addr)(bs:↥Bool),xs=[.ref p]/\SqL X.K H p (bs.map V.bl)/\Q (.bl (bs.any id)) H):=by intro pins s σ H xs us Q I r h;let⟨p,bs,rfl,b,q⟩:=h;let⟨u,rfl,a⟩:=eI r;cases a;exact call_any_walk (jW I b X.A.in1 (I.ok.hd c) (λl f=>l.any f) tD q)
def qR:OpR X (compareOp .In) (λx y H Q=>∃(c:Nat)(j:Str),x=.str {#[c]}/\y=.str j/\Q (.bl (decide (c∈j.cps.toList))) H):=by intro pins s σ H x y v u Q I b a h;let⟨c,j,rfl,rfl,q⟩:=h;exact sD pins s σ H _ _ v u Q I b a {_,j,rfl,rfl,by rw[PySem.StrLaws.found_one];exact q}
def kE:OpR X (compareOp .NotIn) (λx y H Q=>∃(c:Nat)(j:Str),x=.str {#[c]}/\y=.str j/\Q (.bl (⇑(decide (c∈j.cps.toList)))) H):=by intro pins s σ H x y v u Q I b a h;let⟨c,j,rfl,rfl,q⟩:=h;exact lM pins s σ H _ _ v u Q I b a {_,j,rfl,rfl,by rw[PySem.StrLaws.found_one];exact q}
def gB(h:x.cps.toList=y.cps.toList):x=y:=by cases x with|mk a=>cases y with|mk b=>exact congrArg Str.mk (Array.toList_inj.mp h)
def bB(x:Str):x.length=x.cps.toList.length:=by simp[Str.length]
def gC(x y:Str):(x++y).cps.toList=x.cps.toList++y.cps.toList:=by show (x.cps++y.cps).toList=_;simp
def gc{α:Type}(xs:↥α)(lo hi:Option Int):↥α:=(xs.drop (HT.sIx xs.length 0 lo)).take (HT.sIx xs.length xs.length hi - HT.sIx xs.length 0 lo)
def sliceRange_one(a b:Nat):sliceRange (a:Int) (b:Int) 1=(List.range (b - a)).map λk=>a+k:=by unfold sliceRange;simp only[show (1:Int)>0 by decide,if_true];have e:(if (a:Int)<(b:Int) then ((b:Int) - (a:Int)+1 - 1)/1 else 0).toNat=b - a:=by{split<;>(try rw[Int.ediv_one])<;>nofun};rw[e];refine abh λk _=>?_;nofun
def qS(lo hi:Option Int)(n:Nat):Builtin.Str.strSliceIndices lo hi 1 n=(List.range (HT.sIx n n hi - HT.sIx n 0 lo)).map λk=>HT.sIx n 0 lo+k:=by unfold Builtin.Str.strSliceIndices;rw[←sliceRange_one];simp only[show (1:Int)>0 by decide,if_true];congr 1;cases lo with|none=>rfl|some v=>{rw [←HT.clip_eq];dsimp only;split<;>nofun};cases hi with|none=>rfl|some v=>rw [←HT.clip_eq];dsimp only;split<;>nofun
theorem jX{α:Type}(xs:↥α)(a:Nat):∀k:Nat,a+k<=xs.length->((List.range k).map λj=>a+j).filterMap (λi=>xs[i]?)=(xs.drop a).take k|0,_=>by simp|k+1,h=>by have b:a+k<xs.length:=();rw[List.range_succ,aae,abK,jX xs a k (),List.take_add_one];congr 1;simp[List.getElem?_drop,b]
def tE(x:Str)(lo hi:Option Int):(Txt.slice x lo hi).cps.toList=gc x.cps.toList lo hi:=by have a:x.cps.toList.length=x.length:=by{simp[Str.length]};have h1:=HT.sIx_le x.length 0 (aan _) lo;have h2:=HT.sIx_le x.length x.length (aab _) hi;unfold Txt.slice gc;rw[a,qS];split;rename_i b;simp only[beq_self_eq_true,Bool.true_and,List.length_map,List.length_range,beq_iff_eq]at b;have d:HT.sIx x.length 0 lo=0:=();have c:HT.sIx x.length x.length hi=x.length:=();rw[d,c,aaS,Nat.sub_zero,aah ()];show (List.filterMap (λi=>x.cps[i]?) _).toArray.toList=_;have e:(λi:Nat=>x.cps[i]?)=λi:Nat=>x.cps.toList[i]?:=by{funext i;simp};rw[e];by_cases h:HT.sIx x.length 0 lo<=HT.sIx x.length x.length hi;rw[jX x.cps.toList _ _ (by rw[a];nofun)];have f:HT.sIx x.length x.length hi - HT.sIx x.length 0 lo=0:=();rw[f];simp
def O4:V->Option Int->Option Int->Hp->VK->Prop:=λx lo hi H Q=>∃z,x=.str z/\z.length<=sizeLine/\∀y:Str,y.cps.toList=gc z.cps.toList lo hi->Q (.str y) H
def IZ:SlR X O4:=by intro pins s σ H x v vl vu lo hi sl Q I f hs pl e h;let⟨z,rfl,g,q⟩:=h;let⟨t,rfl⟩:=f;refine{"str",_,F.slot_str_getitem.lookup,typeIs_str _ _ _,?_};have fin:(Txt.slice z lo hi).length<=sizeLine/\∀t' k,EP X pins σ Q (.str (Txt.slice z lo hi) t') {s with toks:=k}:={aao (Txt.slice_le z _ _) g,λt' k=>{.str _,H,I.tok k,{(t'),rfl},q _ (tE z lo hi)}};let⟨o,a,b,hd⟩:=hs;cases pl with|none=>{cases e with|none=>exact abf (l:=none) (u:=none) (st:=none) {(o),a,b,hd} rfl (post_val_or_str fin)|int j c=>exact abf (l:=none) (u:=!(j,c)) (st:=none) {(o),a,b,hd} rfl (post_val_or_str fin)}|int i d=>cases e with|none=>exact abf (l:=!(i,d)) (u:=none) (st:=none) {(o),a,b,hd} rfl (post_val_or_str fin)|int j c=>exact abf (l:=!(i,d)) (u:=!(j,c)) (st:=none) {(o),a,b,hd} rfl (post_val_or_str fin)
theorem tF:∀{zs:↥Str}{us:↥Value},Vals (zs.map V.str) us->∃l:↥(Str×Tok),us=strValues l/\l.map (·.1)=zs|[],_,r=>by rw[List.map_nil]at r;cases r;exact{[],rfl,rfl}|z::zs,_,r=>by rw[ab1]at r;cases r with|cons b a=>let⟨t,rfl⟩:=b;let⟨l,rfl,rfl⟩:=tF a;exact{(z,t)::l,rfl,rfl}
def yp(K:Frag):V->↥V->Hp->VK->Prop:=λx vs H Q=>∃(z:Str)(p:Addr)(zs:↥Str),x=.str z/\vs=[.ref p]/\SqL K H p (zs.map V.str)/\(zs.map (·.length)).sum+zs.length*z.length<=16777216/\Q (.str (Builtin.Str.glued z zs)) H
def D3:MtR X "str.join" (yp X.K):=by intro pins s σ H x vs v us Q I a b h;let⟨z,p,zs,rfl,rfl,f,d,q⟩:=h;let⟨t,rfl⟩:=a;let⟨u,rfl,c⟩:=eI b;cases c;let⟨its,r,pl,g⟩:=I.list f;let⟨l,rfl,e⟩:=tF r;exact SC.join pl.isList e (joinOk_of d) λt' k=>{.str _,H,I.tok k,{(t'),rfl},q}
def iR(zs:↥Str):(Builtin.Str.glued Str.empty zs).cps.toList=(zs.map λz=>z.cps.toList).flatten:=by unfold Builtin.Str.glued;have gen:∀(l:↥Str)(a:Array Nat),(l.foldl (λacc p=>acc++Str.empty.cps++p.cps) a).toList=a.toList++(l.map λz=>z.cps.toList).flatten:=by{intro l;induction l with|nil=>intro a;simp|cons y l b=>intro a;rw [List.foldl_cons,b];simp [Str.empty]};rw[gen];cases zs with|nil=>simp[Str.empty]|cons y l=>simp
inductive DV where
 |non|bl (b:Bool)|int (i:Int)|str (x:Str)|lst (xs:↥DV)|tup (xs:↥DV)
mutual
inductive Deep(K:Frag)(H:Hp):V->DV->Prop where
 |non:Deep K H .non .non
 |bl (b:Bool):Deep K H (.bl b) (.bl b)
 |int (i:Int):Deep K H (.int i) (.int i)
 |str (x:Str):Deep K H (.str x) (.str x)
 |lst {a:Addr} {xs:↥V} {ds:↥DV}:SqL K H a xs->Deeps K H xs ds->Deep K H (.ref a) (.lst ds)
 |tup {a:Addr} {xs:↥V} {ds:↥DV}:SqT K H a xs->Deeps K H xs ds->Deep K H (.ref a) (.tup ds)
inductive Deeps(K:Frag)(H:Hp):↥V->↥DV->Prop where
 |nil:Deeps K H [] []
 |cons {x:V} {d:DV} {xs:↥V} {ds:↥DV}:Deep K H x d->Deeps K H xs ds->Deeps K H (x::xs) (d::ds)
end
mutual
def deq:DV->DV->Bool|.non,.non=>true|.bl a,.bl b=>a==b|.bl a,.int b=>(if a then 1 else 0)==b|.int a,.bl b=>a==(if b then 1 else 0)|.int a,.int b=>a==b|.str a,.str b=>a==b|.lst a,.lst b=>deqs a b|.tup a,.tup b=>deqs a b|_,_=>false
def deqs:↥DV->↥DV->Bool|[],[]=>true|a::r,b::s=>deq a b&&deqs r s|_,_=>false
end
mutual
def dep:DV->Nat|.lst a=>deps a+1|.tup a=>deps a+1|_=>0
def deps:↥DV->Nat|[]=>0|a::r=>max (dep a) (deps r)
end
mutual
theorem oQ:∀d:DV,deq d d=true|.non=>rfl|.bl b=>beq_self_eq_true b|.int i=>beq_self_eq_true i|.str x=>beq_self_eq_true x|.lst xs=>deqs_refl xs|.tup xs=>deqs_refl xs
theorem deqs_refl:∀ds:↥DV,deqs ds ds=true|[]=>rfl|d::ds=>ab8.mpr {oQ d,deqs_refl ds}
end
def Deeps.length{K:Frag}{H:Hp}{xs:↥V}{ds:↥DV}(h:Deeps K H xs ds):xs.length=ds.length:=- Deeps.rec (motive_1:=λ_ _ _=>True) (motive_2:=λxs ds _=>xs.length=ds.length) trivial (λ_=>trivial) (λ_=>trivial) (λ_=>trivial) (λ_ _ _=>trivial) (λ_ _ _=>trivial) rfl (λ_ _ _ t=>congrArg (·+1) t) h
theorem Deeps.get{K:Frag}{H:Hp}:∀{xs:↥V}{ds:↥DV}{i:Nat}{x:V},Deeps K H xs ds->xs[i]?=!x->∃d,ds[i]?=!d/\Deep K H x d/\dep d<=deps ds|_,_,_,_,.nil,e=>by simp at e|_,_,0,_,.cons h _,e=>by simp at e;subst e;exact{_,rfl,h,by simp only[deps];nofun}|_,_,i+1,x,.cons h t,e=>by let⟨d,h1,h2,a⟩:=Deeps.get (i:=i) (x:=x) t (by exists e);exact{d,(by exists h1),h2,by simp only[deps];nofun}
def jY:∀{ds es:↥DV},ds.length=es.length->(List.range ds.length).all (λj=>deq (ds.getD j .non) (es.getD j .non))=deqs ds es:=by
 intro ds
 induction ds with
 |nil=>intro es h;cases es with
  |nil=>rfl
  |cons _ _=>simp at h
 |cons d ds a=>
  intro es h
  cases es with
  |nil=>simp at h
  |cons e es=>
   have h':ds.length=es.length:=(by exists h);rw[ab6,List.range_succ_eq_map,aaU,List.all_map];exact congrArg (deq d e&&·) (a h')
theorem kF:∀{ds es:↥DV},ds.length≠es.length->deqs ds es=false|[],[],h=>absurd rfl h|[],_::_,_=>rfl|_::_,[],_=>rfl|d::ds,e::es,h=>by have h':ds.length≠es.length:=(by exists h);show (deq d e&&deqs ds es)=false;rw[kF h',Bool.and_false]
def yq{ds es:↥DV}:((List.range (min ds.length es.length)).all (λj=>deq (ds.getD j .non) (es.getD j .non))&&ds.length==es.length)=deqs ds es:=by by_cases h:ds.length=es.length;rw[←jY h,←h,Nat.min_self];simp;rw[kF h];simp[h]
def Inv.seq_inj(I:Inv X pins σ H s){ys:↥V}(h:SqL X.K H a xs)(h':SqT X.K H a ys):False:=by let⟨its,_,p,_⟩:=I.list h;let⟨its',_,f,_⟩:=I.tuple h';let⟨o,e,c,_⟩:=p.isList;let⟨o',b,d,_⟩:=f;rw[e]at b;cases b;rw[c]at d;injection d with z;exact absurd z (by decide)
def Deep.inj(I:Inv X pins σ H s){x:V}{d e:DV}(h:Deep X.K H x d):Deep X.K H x e->d=e:=by refine Deep.rec (motive_1:=λx d _=>∀e,Deep X.K H x e->d=e) (motive_2:=λxs ds _=>∀es,Deeps X.K H xs es->ds=es) ?_ ?_ ?_ ?_ (λh _ t e h'=>?_) (λh _ t e h'=>?_) ?_ (λ_ _ h t e h'=>?_) h e;intro e h';cases h';rfl;intro _ e h';cases h';rfl;intro _ e h';cases h';rfl;intro _ e h';cases h';rfl;cases h' with|lst h2 t'=>have e:=I.list_inj h h2;subst e;rw[t _ t']|tup h2 _=>{exact (I.seq_inj h h2).elim};cases h' with|tup h2 t'=>have e:=I.tuple_inj h h2;subst e;rw[t _ t']|lst h2 _=>{exact (I.seq_inj h2 h).elim};intro e h';cases h';rfl;cases h' with|cons h2 a=>rw[h _ h2,t _ a]
def Deeps.inj(I:Inv X pins σ H s){xs:↥V}{ds es:↥DV}(h:Deeps X.K H xs ds):Deeps X.K H xs es->ds=es:=- Deeps.rec (motive_1:=λ_ _ _=>True) (motive_2:=λxs ds _=>∀es,Deeps X.K H xs es->ds=es) trivial (λ_=>trivial) (λ_=>trivial) (λ_=>trivial) (λ_ _ _=>trivial) (λ_ _ _=>trivial) (λes h'=>by cases h';rfl) (λh _ _ t es h'=>by cases h' with|cons h2 a=>rw[h.inj I h2,t _ a]) h es
def iS(I:Inv X pins σ H s):∀(n:Nat)(d e:DV)(x y:V)(u v:Value)(A:Around),dep d<=n->A.units+n<cLine->Deep X.K H x d->Deep X.K H y e->RelV x u->RelV y v ->SeqAt.RcAt A s u v (deq d e)/\SeqAt.RcNeAt A s u v (⇑(deq d e))/\SeqAt.EqAt A s u v (deq d e):=by intro n;induction n with|zero=>{intro d e x y u v A hd W z r q f;have c:A.units<cLine:=();cases z with|lst _ _=>simp only [dep]at hd;nofun|tup _ _=>simp only [dep]at hd;nofun|non=>{cases q;cases r with|non=>cases f;exact{SeqAt.RcAt.none_none,SeqAt.RcNeAt.none_none,SeqAt.EqAt.same _}|bl b=>cases f;exact{SeqAt.RcAt.none_bool b,SeqAt.RcNeAt.none_bool b,SeqAt.EqAt.none_bool b}|int b=>obtain⟨t,rfl⟩:=f;exact{SeqAt.RcAt.none_int b t,SeqAt.RcNeAt.none_int b t,SeqAt.EqAt.none_int b t}|str b=>obtain⟨t,rfl⟩:=f;exact{SeqAt.RcAt.none_str b t,SeqAt.RcNeAt.none_str b t,SeqAt.EqAt.none_str b t}|lst h _=>cases f;let⟨its,_,p,_⟩:=I.list h;exact{SeqAt.RcAt.none_list p.isList c,SeqAt.RcNeAt.none_list p.isList c,SeqAt.EqAt.none_list p.isList c}|tup h _=>cases f;let⟨its,_,p,_⟩:=I.tuple h;exact{SeqAt.RcAt.none_tuple p c,SeqAt.RcNeAt.none_tuple p c,SeqAt.EqAt.none_tuple p c}}|bl a=>{cases q;cases r with|non=>cases f;exact{SeqAt.RcAt.bool_none a,SeqAt.RcNeAt.bool_none a,SeqAt.EqAt.bool_none a}|bl b=>cases f;exact{SeqAt.RcAt.bool_bool a b,SeqAt.RcNeAt.bool_bool a b,SeqAt.EqAt.bool_bool a b}|int b=>obtain⟨t,rfl⟩:=f;exact{SeqAt.RcAt.bool_int a b t,SeqAt.RcNeAt.bool_int a b t,SeqAt.EqAt.bool_int a b t}|str b=>obtain⟨t,rfl⟩:=f;exact{SeqAt.RcAt.bool_str a b t,SeqAt.RcNeAt.bool_str a b t,SeqAt.EqAt.bool_str a b t}|lst h _=>cases f;let⟨its,_,p,_⟩:=I.list h;exact{SeqAt.RcAt.bool_list a p.isList c,SeqAt.RcNeAt.bool_list a p.isList c,SeqAt.EqAt.bool_list a p.isList c}|tup h _=>cases f;let⟨its,_,p,_⟩:=I.tuple h;exact{SeqAt.RcAt.bool_tuple a p c,SeqAt.RcNeAt.bool_tuple a p c,SeqAt.EqAt.bool_tuple a p c}}|int a=>{let⟨t',rfl⟩:=q;cases r with|non=>cases f;exact{SeqAt.RcAt.int_none a t',SeqAt.RcNeAt.int_none a t',SeqAt.EqAt.int_none a t'}|bl b=>cases f;exact{SeqAt.RcAt.int_bool a t' b,SeqAt.RcNeAt.int_bool a t' b,SeqAt.EqAt.int_bool a t' b}|int b=>obtain⟨t,rfl⟩:=f;exact{SeqAt.RcAt.int_int a t' b t,SeqAt.RcNeAt.int_int a t' b t,SeqAt.EqAt.int_int a t' b t}|str b=>obtain⟨t,rfl⟩:=f;exact{SeqAt.RcAt.int_str a t' b t,SeqAt.RcNeAt.int_str a t' b t,SeqAt.EqAt.int_str a t' b t}|lst h _=>cases f;let⟨its,_,p,_⟩:=I.list h;exact{SeqAt.RcAt.int_list a t' p.isList c,SeqAt.RcNeAt.int_list a t' p.isList c,SeqAt.EqAt.int_list a t' p.isList c}|tup h _=>cases f;let⟨its,_,p,_⟩:=I.tuple h;exact{SeqAt.RcAt.int_tuple a t' p c,SeqAt.RcNeAt.int_tuple a t' p c,SeqAt.EqAt.int_tuple a t' p c}}|str a=>let⟨t',rfl⟩:=q;cases r with|non=>cases f;exact{SeqAt.RcAt.str_none a t',SeqAt.RcNeAt.str_none a t',SeqAt.EqAt.str_none a t'}|bl b=>cases f;exact{SeqAt.RcAt.str_bool a t' b,SeqAt.RcNeAt.str_bool a t' b,SeqAt.EqAt.str_bool a t' b}|int b=>obtain⟨t,rfl⟩:=f;exact{SeqAt.RcAt.str_int a t' b t,SeqAt.RcNeAt.str_int a t' b t,SeqAt.EqAt.str_int a t' b t}|str b=>obtain⟨t,rfl⟩:=f;exact{SeqAt.RcAt.str_str a t' b t,SeqAt.RcNeAt.str_str a t' b t,SeqAt.EqAt.str_str a t' b t}|lst h _=>cases f;let⟨its,_,p,_⟩:=I.list h;exact{SeqAt.RcAt.str_list a t' p.isList c,SeqAt.RcNeAt.str_list a t' p.isList c,SeqAt.EqAt.str_list a t' p.isList c}|tup h _=>cases f;let⟨its,_,p,_⟩:=I.tuple h;exact{SeqAt.RcAt.str_tuple a t' p c,SeqAt.RcNeAt.str_tuple a t' p c,SeqAt.EqAt.str_tuple a t' p c}}|succ n M=>intro d e x y u v A hd W z r q f;have c:A.units<cLine:=();have items:∀{xs ys:↥V}{ds es:↥DV}{us vs:↥Value},Deeps X.K H xs ds->Deeps X.K H ys es->deps ds<=n->Vals xs us->Vals ys vs->∀j (h1:j<us.toArray.size) (h2:j<vs.toArray.size),SeqAt.EqAt A.in1 s us.toArray[j] vs.toArray[j] (deq (ds.getD j .non) (es.getD j .non)):=by{intro xs ys ds es us vs E D hn o i j h1 h2;have G:j<us.length:=(by exists h1);have F:j<vs.length:=(by exists h2);have l1:=o.length;have l2:=i.length;have ex:xs[j]?=!(xs[j]'()):=abU ();have O:ys[j]?=!(ys[j]'()):=abU ();let⟨d1,w,R,b1⟩:=E.get ex;let⟨Z,Y,p2,b2⟩:=D.get O;let⟨L,f1,Q⟩:=o.get ex;let⟨K,f2,P⟩:=i.get O;have g1:us.toArray[j]=L:=by{have:us[j]?=↑us[j]:=abU G;rw[f1]at this;simpa using (aak this).symm};have g2:vs.toArray[j]=K:=by{have:vs[j]?=↑vs[j]:=abU F;rw[f2]at this;simpa using (aak this).symm};rw[g1,g2,ab5,ab5,w,Y];exact(M d1 Z _ _ L K A.in1 () (by show A.units+1+n<cLine;nofun) R p2 Q P).2.2};by_cases B:dep d<=0;exact M d e x y u v A () () z r q f;cases z with|non=>simp only [dep]at B;nofun|bl _=>simp only [dep]at B;nofun|int _=>simp only [dep]at B;nofun|str _=>simp only [dep]at B;nofun|@lst a xs ds h t=>{cases q;simp only[dep]at hd;let⟨its,o,p,U⟩:=I.list h;cases r with|non=>cases f;exact{SeqAt.RcAt.list_none p.isList c,SeqAt.RcNeAt.list_none p.isList c,SeqAt.EqAt.list_none p.isList c}|bl b=>cases f;exact{SeqAt.RcAt.list_bool b p.isList c,SeqAt.RcNeAt.list_bool b p.isList c,SeqAt.EqAt.list_bool b p.isList c}|int b=>obtain⟨k,rfl⟩:=f;exact{SeqAt.RcAt.list_int b k p.isList c,SeqAt.RcNeAt.list_int b k p.isList c,SeqAt.EqAt.list_int b k p.isList c}|str b=>obtain⟨k,rfl⟩:=f;exact{SeqAt.RcAt.list_str b k p.isList c,SeqAt.RcNeAt.list_str b k p.isList c,SeqAt.EqAt.list_str b k p.isList c}|tup h' _=>cases f;let⟨its',_,l,_⟩:=I.tuple h';exact{SeqAt.RcAt.list_tuple p.isList l c,SeqAt.RcNeAt.list_tuple p.isList l c,SeqAt.EqAt.list_tuple p.isList l c}|@lst b ys es h' t'=>cases f;let⟨its',i,l,C⟩:=I.list h';have l1:=o.length;have l2:=i.length;have T:=t.length;have S:=t'.length;have g:SeqAt.RcAt A s (.ref a) (.ref b) (deqs ds es)/\SeqAt.RcNeAt A s (.ref a) (.ref b) (⇑(deqs ds es)):=by{by_cases N:ds.length=es.length;have w:(List.range its.toArray.size).all (λj=>deq (ds.getD j .non) (es.getD j .non))=deqs ds es:=by{rw[←jY N,show its.toArray.size=ds.length by simp;nofun]};rw[←w];exact{SeqAt.RcAt.lists p.isList l.isList (by simp;nofun) c (items t t' () o i),SeqAt.RcNeAt.lists p.isList l.isList (by simp;nofun) c (items t t' () o i)};rw[kF N];exact{SeqAt.RcAt.lists_lengths p.isList l.isList (by simp;nofun) c,SeqAt.RcNeAt.lists_lengths p.isList l.isList (by simp;nofun) c}};refine{g.1,g.2,?_};show SeqAt.EqAt A s (.ref a) (.ref b) (deqs ds es);by_cases m:a=b;subst m;have J:=I.list_inj h h';subst J;rw[Deeps.inj I t t',deqs_refl];exact SeqAt.EqAt.same _;exact SeqAt.EqAt.of_refs m g.1}|@tup a xs ds h t=>cases q;simp only[dep]at hd;let⟨its,o,p,U⟩:=I.tuple h;cases r with|non=>cases f;exact{SeqAt.RcAt.tuple_none p c,SeqAt.RcNeAt.tuple_none p c,SeqAt.EqAt.tuple_none p c}|bl b=>cases f;exact{SeqAt.RcAt.tuple_bool b p c,SeqAt.RcNeAt.tuple_bool b p c,SeqAt.EqAt.tuple_bool b p c}|int b=>obtain⟨k,rfl⟩:=f;exact{SeqAt.RcAt.tuple_int b k p c,SeqAt.RcNeAt.tuple_int b k p c,SeqAt.EqAt.tuple_int b k p c}|str b=>obtain⟨k,rfl⟩:=f;exact{SeqAt.RcAt.tuple_str b k p c,SeqAt.RcNeAt.tuple_str b k p c,SeqAt.EqAt.tuple_str b k p c}|lst h' _=>cases f;let⟨its',_,l,_⟩:=I.list h';exact{SeqAt.RcAt.tuple_list p l.isList c,SeqAt.RcNeAt.tuple_list p l.isList c,SeqAt.EqAt.tuple_list p l.isList c}|@tup b ys es h' t'=>cases f;let⟨its',i,l,C⟩:=I.tuple h';have l1:=o.length;have l2:=i.length;have T:=t.length;have S:=t'.length;have w:((List.range (min its.toArray.size its'.toArray.size)).all (λj=>deq (ds.getD j .non) (es.getD j .non))&&its.toArray.size==its'.toArray.size)=deqs ds es:=by{rw[←yq,show its.toArray.size=ds.length by simp;nofun,show its'.toArray.size=es.length by simp;nofun]};have g:SeqAt.RcAt A s (.ref a) (.ref b) (deqs ds es)/\SeqAt.RcNeAt A s (.ref a) (.ref b) (⇑(deqs ds es)):=by{rw[←w];exact{SeqAt.RcAt.tuples p l c (items t t' () o i),SeqAt.RcNeAt.tuples p l c (items t t' () o i)}};refine{g.1,g.2,?_};show SeqAt.EqAt A s (.ref a) (.ref b) (deqs ds es);by_cases m:a=b;subst m;have J:=I.tuple_inj h h';subst J;rw[Deeps.inj I t t',deqs_refl];exact SeqAt.EqAt.same _;exact SeqAt.EqAt.of_refs m g.1
def O5(K:Frag):R2:=λx y H Q=>∃d e,Deep K H x d/\Deep K H y e/\dep d<=40/\Q (.bl (deq d e)) H
def O6(K:Frag):R2:=λx y H Q=>∃d e,Deep K H x d/\Deep K H y e/\dep d<=40/\Q (.bl (⇑(deq d e))) H
def I0(g:X.A.units+64<cLine):OpR X (compareOp .Eq) (O5 X.K):=by intro pins s σ H x y v u Q I b a h;let⟨d,e,hd,f,c,q⟩:=h;exact(iS I 40 d e x y v u X.A c () hd f b a).1 _ _ _ _ {.bl _,H,I,rfl,q}
def I8(g:X.A.units+64<cLine):OpR X (compareOp .NotEq) (O6 X.K):=by intro pins s σ H x y v u Q I b a h;let⟨d,e,hd,f,c,q⟩:=h;exact(iS I 40 d e x y v u X.A c () hd f b a).2.1 _ _ _ _ {.bl _,H,I,rfl,q}
structure Own(P:Program)(w:World)(K:Frag)(mg:Str->Option Value)(base:Heap)(x:Str)(k:Nat)(ps:↥Str)(sp:Sp):Prop where
 ex:∃(f:Addr)(fd:FuncData),FnOk P w K mg base CX0 k f fd ps sp/\mg x=!(.ref f)/\PySem.W.keepIn K (.ref f)=true/\Binds K fd ps []
def Glo(mg:Str->Option Value)(x:Str)(v:V):Prop:=∃u,mg x=!u/\RelV v u
def I9{e:Expr}{es:↥Expr}{t:TA}{p:Pos}(O:Own X.prog X.w X.K X.mg X.base x k ps sp)(hr:Room k X.A)(l:PA X (e::es) t)(g:autoParam (Gl X x) _L.aR._auto_1)(b:autoParam ((x==("__debug__":Str))=false) _L.aD._auto_1)(i:autoParam (starEach (e::es) X.env=(false,eval e X.env)::starEach es X.env) _L.aR._auto_1)(a:autoParam ((backTo pos (starEach es X.env)).any (·.1)=false) _L.aR._auto_1):PE X (.Call (.Name x p) (e::es) [] pos) (kz sp [] E0 t):=by let⟨f,fd,F,c,d,j⟩:=O.ex;exact DF F hr g c d j .nil yk l b i a
def BX(h:Glo X.mg x v)(b:autoParam (Gl X x) _L.aR._auto_1)(hd:autoParam ((x==("__debug__":Str))=false) _L.aD._auto_1):PE X (.Name x pos) (tC v):=by let⟨u,a,r⟩:=h;exact Dd b a r hd
def Nz{T:String}(c:X.mg x=none)(a:bootBuiltins x=!(.type T))(d:autoParam (Gl X x) _L.aR._auto_1)(b:autoParam (x≠ "__name__") _L.aD._auto_1)(hd:autoParam ((x==("__debug__":Str))=false) _L.aD._auto_1):PE X (.Name x pos) (tC (.ty T)):=- De d c a rfl b hd
def Ja(K:Frag):V->Option Int->Option Int->Hp->VK->Prop:=λx lo hi H Q=>O4 x lo hi H Q∨O1 K x lo hi H Q∨OX K x lo hi H Q
def BY:SlR X (Ja X.K):=-IZ.or (DP.or IL)
def HQ(K:Frag):↥V->Hp->VK->Prop:=λxs H Q=>(∃z,xs=[.str z]/\z.length<=sizeLine/\Q (.int z.length) H)∨(∃p ys,xs=[.ref p]/\(SqL K H p ys∨SqT K H p ys)/\Q (.int ys.length) H)∨(∃a kvs,xs=[V.ref a]/\Rd H a (.dK kvs)/\Q (.int kvs.length) H)
def qT:CallR X (.builtin "len") (λxs H Q=>∃a kvs,xs=[V.ref a]/\Rd H a (.dK kvs)/\Q (.int kvs.length) H):=by intro pins s σ H xs us Q I r h;let⟨a,kvs,rfl,c,q⟩:=h;let⟨u,rfl,b⟩:=eI r;cases b;exact Nu I c λt s' d=>{.int kvs.length,H,d,{(t),rfl},q}
def DGet.kR{kvs:↥(Key×V)}{k:Key}(e:Rd H a (.dK kvs)):DGet H a (kV k) (ib kvs k):=-.inl {(kvs),k,e,rfl,rfl}
def tG:CallR X (.builtin "len") (HQ X.K):=-lO.or (lN.or qT)
def NA:↥V->Hp->VK->Prop:=λxs H Q=>∃i j,xs=[.int i,.int j]/\Q (.int (if j>i then j else i)) H
def NB:↥V->Hp->VK->Prop:=λxs H Q=>∃i j,xs=[.int i,.int j]/\Q (.int (if j<i then j else i)) H
def tH(a:X.calm=true):CallR X (.builtin "max") NA:=-sG a
def tI(a:X.calm=true):CallR X (.builtin "min") NB:=-sH a
def ML(K:Frag):↥V->Hp->VK->Prop:=λxs H Q=>∃(p:Addr)(bs:↥Bool),xs=[.ref p]/\SqL K H p (bs.map V.bl)/\Q (.bl (bs.all id)) H
def MM(K:Frag):↥V->Hp->VK->Prop:=λxs H Q=>∃(p:Addr)(bs:↥Bool),xs=[.ref p]/\SqL K H p (bs.map V.bl)/\Q (.bl (bs.any id)) H
def tJ(a:X.calm=true):CallR X (.builtin "all") (ML X.K):=-yn a
def tK(a:X.calm=true):CallR X (.builtin "any") (MM X.K):=-yo a
def rInS:R2:=λx y H Q=>∃(c:Nat)(j:Str),x=.str {#[c]}/\y=.str j/\Q (.bl (decide (c∈j.cps.toList))) H
def D4:R2:=λx y H Q=>∃(c:Nat)(j:Str),x=.str {#[c]}/\y=.str j/\Q (.bl (⇑(decide (c∈j.cps.toList)))) H
def O7(K:Frag):R2:=λx y H Q=>rInS x y H Q∨rIn K false x y H Q
def tL(K:Frag):R2:=λx y H Q=>D4 x y H Q∨rIn K true x y H Q
def Jb:OpR X (compareOp .In) (O7 X.K):=-OpR.or qR sR
def tM:OpR X (compareOp .NotIn) (tL X.K):=-OpR.or kE lL
def bF{o:HO}(a:H p=none):Same H (upd H p o):=-λb u h=>by rw[aj (cP h a)];exact h
def SqT.same{K:Frag}(h:SqT K H a xs)(e:Same H H'):SqT K H' a xs:=by rcases h with (h|⟨o,h⟩)|h;exact .inl (.inl (e _ _ h));exact .inl (.inr {o,e _ _ h});exact .inr h
def D5(N:↥Str)(names:↥(Str×NameKind)):↥Str->↥Nat->Bool|[],[]=>true|x::F,i::ixs=>(N[i]?==!x)&&(names.lookup x==!.free)&&D5 N names F ixs|_,_=>false
theorem oR{N:↥Str}{names:↥(Str×NameKind)}:∀{F:↥Str}{ixs:↥Nat},D5 N names F ixs=true->ixs.length=F.length/\ ∀(j i:Nat)(x:Str),ixs[j]?=!i->F[j]?=!x->N[i]?=!x/\names.lookup x=!.free|[],[],_=>{rfl,λj i x h=>by simp at h}|[],_::_,h=>(ab3 h).elim|_::_,[],h=>(ab3 h).elim|y::F,k::ixs,h=>by let⟨h,c⟩:=ab8.mp h;let⟨h1,h2⟩:=ab8.mp h;replace h1:=eq_of_beq h1;replace h2:=eq_of_beq h2;let⟨l,r⟩:=oR c;refine{by rw[ab6,ab6,l],λj i x a b=>?_};cases j with|zero=>simp at a b;subst a b;exact{(h1),h2}|succ j=>exact r j i x (by exists a) (by exists b)
def O8(names out:↥(Str×NameKind)):Bool:=names.all λy=>(y.2 !=.cell)&&(y.2 !=.local||names.lookup y.1==!.local)&&(y.2 !=.free||out.lookup y.1==↑.cell||out.lookup y.1==!.free)
def CompScope.of(kind:scope.kind=.function)(h1:D5 X.N scope.names F ixs=true)(h2:O8 scope.names X.env.scope.names=true):CompScope X T F ixs scope:=by let⟨l,c⟩:=oR h1;unfold O8 at h2;rw[abN]at h2;refine{kind,λy a=>?_,λy a e=>?_,λj i x=>c j i x,l,λy a e=>?_};have:=h2 y a;simp only[Bool.and_eq_true]at this;simpa using this.1.1;have:=h2 y a;simp only[Bool.and_eq_true]at this;have q:=this.1.2;rw[e]at q;simpa using q;have:=h2 y a;simp only[Bool.and_eq_true]at this;have q:=this.2;rw[e]at q;simpa using q
def MN(K:Frag):R2:=λx y H Q=>rEq x y H Q∨O5 K x y H Q
def MO(K:Frag):R2:=λx y H Q=>rNe x y H Q∨O6 K x y H Q
def Jc(a:X.A.units+64<cLine):OpR X (compareOp .Eq) (MN X.K):=-Nf.or (I0 a)
def Jd(a:X.A.units+64<cLine):OpR X (compareOp .NotEq) (MO X.K):=-Ng.or (I8 a)
end _L
namespace _L
open PySem
variable{α:Type}
def BZ{xs:↥α}{i:Int}(b:0<=i)(h:i<xs.length):∃c,atI xs i=!c/\c∈xs:=by let⟨k,rfl⟩:=abE b;have a:k<xs.length:=();exact{xs[k],cV (abU a),aaL a}
def yr{xs:↥α}{lo hi:Option Int}{c:α}(h:c∈gc xs lo hi):c∈xs:=-abr (abb h)
def tN(xs:↥α)(k:Nat):gc xs none ↑(k:Int)=xs.take k:=by unfold gc;rw[HT.sIx_none,HT.sIx_nat,Nat.sub_zero,aaS];by_cases h:k<=xs.length;rw[Nat.min_eq_left h];rw[Nat.min_eq_right (),aah (aab _),aah ()]
def cX(xs:↥α)(k:Nat):gc xs ↑(k:Int) none=xs.drop k:=by unfold gc;rw[HT.sIx_none,HT.sIx_nat];by_cases h:k<=xs.length;rw[Nat.min_eq_left h,aah (by rw[aaC];nofun)];rw[Nat.min_eq_right (),List.drop_of_length_le (aab _),List.drop_of_length_le ()];simp
def tO{z:Str}{l:↥Nat}(h:z.cps.toList=l):z.length=l.length:=by rw[←h];simp[Str.length]
end _L
namespace _L
open PySem PySem.Spec PyProof.Rows
variable{o tg l:Expr}{es:↥Expr}{to tl:TE}{name:Str}{apos cpos:Pos}{T:String}{r:V->↥V->Hp->VK->Prop}
section
variable{X:Cx}
def Je(K:Frag)(a:X.A.units+64<cLine)(h:autoParam (X.K=K) _L.aR._auto_1):OpR X (compareOp .Eq) (MN K):=by subst h;exact Jc a
def Jf(K:Frag)(a:X.A.units+64<cLine)(h:autoParam (X.K=K) _L.aR._auto_1):OpR X (compareOp .NotEq) (MO K):=by subst h;exact Jd a
def D6(K:Frag)(h:autoParam (X.K=K) _L.aR._auto_1):SlR X (Ja K):=by subst h;exact BY
def tP(K:Frag)(h:autoParam (X.K=K) _L.aR._auto_1):CallR X (.builtin "len") (HQ K):=by subst h;exact tG
def tQ(K:Frag)(a:X.calm=true)(h:autoParam (X.K=K) _L.aR._auto_1):CallR X (.builtin "all") (ML K):=by subst h;exact tJ a
def tR(K:Frag)(a:X.calm=true)(h:autoParam (X.K=K) _L.aR._auto_1):CallR X (.builtin "any") (MM K):=by subst h;exact tK a
def yt(K:Frag)(h:autoParam (X.K=K) _L.aR._auto_1):MtR X "str.join" (yp K):=by subst h;exact D3
def Jg{e:Expr}{t:TA}{id:String}(K:Frag)(g:PlainAttrs T)(slot:Slot T name id)(f:typeOf (.builtin id)=pure (.type "method_descriptor"))(j:MtR X id r)(i:PE X o to)(k:PA X (e::es) t)(l:autoParam (X.K=K) _L.aR._auto_1)(c:autoParam (attributeBase o name X.env (eval o X.env)=eval o X.env) _L.aR._auto_1)(d:autoParam (((backTo cpos (starEach (e::es) X.env)).all (λx=>⇑x.1)&&(backToKw cpos (keywordEach [] X.env)).all (λx=>x.1.isSome) && decide ((e::es).length+([]:↥Keyword).length+(if ([]:↥Keyword).isEmpty then 0 else 1)<30))=true) _L.aR._auto_1)(b:autoParam ((apos.endLine==cpos.line)=true) _L.aR._auto_1)(hs:autoParam (starEach (e::es) X.env=(false,eval e X.env)::starEach es X.env) _L.aR._auto_1)(a:autoParam ((backTo cpos (starEach es X.env)).any (·.1)=false) _L.aR._auto_1):PE X (.Call (.Attribute o name apos) (e::es) [] cpos) (tBM K T r to t):=by subst l;exact Np g slot f j i k c d b hs a
def D7{id:String}(K:Frag)(d:PlainAttrs T)(slot:Slot T name id)(c:typeOf (.builtin id)=pure (.type "method_descriptor"))(f:MtR X id r)(e:PE X o to)(g:autoParam (X.K=K) _L.aR._auto_1)(b:autoParam (attributeBase o name X.env (eval o X.env)=eval o X.env) _L.aR._auto_1)(a:autoParam ((apos.endLine==cpos.line)=true) _L.aR._auto_1):PE X (.Call (.Attribute o name apos) [] [] cpos) (MK K T r to):=by subst g;exact IS d slot c f e b a
def D8{k:Nat}{t:TGs}{n:Nat}{pos:Pos}(K:Frag)(c:X.calm=true)(h:PGs X es t)(d:autoParam (X.K=K) _L.aR._auto_1)(b:autoParam ((assignEach es X.env).length=n) _L.aR._auto_1)(a:autoParam ((assignEach es X.env).findIdx? (·.1)=none) _L.aR._auto_1):PG X (.Tuple es k pos) (Im K n t):=by subst d;exact Io c h b a
def yu(K:Frag)(a:PE X l tl)(b:autoParam (X.K=K) _L.aR._auto_1):PI X tg l (nu K tl):=by subst b;exact Ds a
def D9(K:Frag)(a:PE X l tl)(b:autoParam (X.K=K) _L.aR._auto_1):PI X tg l (ME K tl):=by subst b;exact Iu a
end
end _L
namespace _L
theorem ip{α:Type}:∀zs:↥α,(zs.map λ_=>1).sum=zs.length|[]=>rfl|z::zs=>by rw[ab1,List.sum_cons,ip zs,ab6];nofun
end _L
namespace _L
open PySem PySem.Spec PyProof.Rows
variable{e a b c o tg iter l:Expr}{es:↥Expr}{env:Env}{pos p apos cpos:Pos}{X:Cx}{te ta tb to tl:TE}{t:TA}{x name:Str}{k i:Nat}{ps:↥Str}{sp:Sp}{r:↥V->Hp->VK->Prop}{T:String}{op op':CmpOp}{tc tA tB':TT}{r':R2}{trs:↥(TE×TE)}{wi:TI}{g:TG}{st:Stmt}{u:TS}{body:↥Stmt}
def bh:Expr->Bool|.Starred _ _=>false|_=>true
def aS(h:bh e=true):starEach (e::es) env=(false,eval e env)::starEach es env:=by cases e<;>first|rfl|(cases h)
def dF(h:es.all bh=true):(backTo pos (starEach es env)).any (·.1)=false:=by induction es with|nil=>rfl|cons e es a=>rw[aaU,ach]at h;rw[aS h.1];have:=a h.2;simpa [backTo]using this
def pa_c(b:PE X e te)(hr:PA X es t)(a:autoParam (bh e=true) _L.aR._auto_1):PA X (e::es) (cL te t):=-DD b hr (aS a)
def Ea(O:Own X.prog X.w X.K X.mg X.base x k ps sp)(hr:Room k X.A)(d:PA X (e::es) t)(c:autoParam (Gl X x) _L.aR._auto_1)(b:autoParam ((e::es).all bh=true) _L.aR._auto_1)(a:autoParam ((x==("__debug__":Str))=false) _L.aD._auto_1):PE X (.Call (.Name x p) (e::es) [] pos) (kz sp [] E0 t):=by have h:=b;rw[aaU,ach]at h;exact I9 O hr d c a (aS h.1) (dF h.2)
def tS{id:String}(i:CallR X (.builtin id) r)(f:X.mg x=none)(c:bootBuiltins x=!(.builtin id))(j:PA X (e::es) t)(g:autoParam (Gl X x) _L.aR._auto_1)(a:autoParam ((e::es).all bh=true) _L.aR._auto_1)(d:autoParam (x≠ "__name__") _L.aD._auto_1)(b:autoParam ((x==("__debug__":Str))=false) _L.aD._auto_1):PE X (.Call (.Name x p) (e::es) [] pos) (tCB r t):=by have h:=a;rw[aaU,ach]at h;exact xY i g f c j d b (aS h.1) (dF h.2)
def tT(i:CallR X (.type T) r)(f:X.mg x=none)(c:bootBuiltins x=!(.type T))(j:PA X (e::es) t)(g:autoParam (Gl X x) _L.aR._auto_1)(a:autoParam ((e::es).all bh=true) _L.aR._auto_1)(d:autoParam (x≠ "__name__") _L.aD._auto_1)(b:autoParam ((x==("__debug__":Str))=false) _L.aD._auto_1):PE X (.Call (.Name x p) (e::es) [] pos) (tCB r t):=by have h:=a;rw[aaU,ach]at h;exact sP i g f c j d b (aS h.1) (dF h.2)
structure BE(X:Cx)(e:Expr)(t:TE):Prop where h:PE X e t
structure BT(X:Cx)(e:Expr)(t:TT):Prop where h:PT X e t
structure BW(X:Cx)(e:Expr)(t:TT):Prop where h:PW X e t
structure BA(X:Cx)(es:↥Expr)(t:TA):Prop where h:PA X es t
structure BS(X:Cx)(s:Stmt)(t:TS):Prop where h:PS X s t
structure BSs(X:Cx)(s:↥Stmt)(t:TS):Prop where h:PSs X s t
structure BG(X:Cx)(e:Expr)(t:TG):Prop where h:PG X e t
structure BGs(X:Cx)(es:↥Expr)(t:TGs):Prop where h:PGs X es t
structure BI(X:Cx)(tg e:Expr)(t:TI):Prop where h:PI X tg e t
structure BO(X:Cx)(e:Option Expr)(t:TO):Prop where h:PO X e t
structure BIf(X:Cx)(es:↥Expr)(t:TT):Prop where h:HP X es t
structure BPs(X:Cx)(pos:Pos)(ks:↥(Option Expr))(vs:↥Expr)(t:↥(TE×TE)):Prop where h:PPs X pos ks vs t
structure BOp(X:Cx)(f:Value->Value->Sem Value)(r:R2):Prop where h:OpR X f r
structure BCall(X:Cx)(f:Value)(r:↥V->Hp->VK->Prop):Prop where h:CallR X f r
structure BMt(X:Cx)(id:String)(r:V->↥V->Hp->VK->Prop):Prop where h:MtR X id r
def B9(i:Nat)(c:X.N[i]?=!x)(b:Vis X.env.scope x)(hd:autoParam ((x==("__debug__":Str))=false) _L.aD._auto_1)(a:autoParam ((x==("__classdict__":Str))=false) _L.aD._auto_1):BE X (.Name x pos) (da i):=-{HY c b hd a}
def we_vl(i:Nat)(c:autoParam (X.N[i]?=!x) _L.aR._auto_1)(b:autoParam (X.env.scope.names.lookup x=!.local) _L.aR._auto_1)(hd:autoParam ((x==("__debug__":Str))=false) _L.aD._auto_1)(a:autoParam ((x==("__classdict__":Str))=false) _L.aD._auto_1):BE X (.Name x pos) (da i):=-B9 i c (.inl b) hd a
def tU{i j pos}:BE X (.Constant (.int i) j pos) (tC (.int i)):=-{(HZ)}
def NC{b j pos}:BE X (.Constant (.bool b) j pos) (tC (.bl b)):=-{(MX)}
def Jh{j pos}:BE X (.Constant .none j pos) (tC .non):=-{(Ia)}
def Ca{x j pos}:BE X (.Constant (.str x) j pos) (tC (.str x)):=-{(Ib)}
def Ji{v:V}(h:Glo X.mg x v)(a:X.env.kindOf x=!.globalImplicit)(hd:autoParam ((x==("__debug__":Str))=false) _L.aD._auto_1):BE X (.Name x pos) (tC v):=-{BX h a hd}
def ND(c:X.mg x=none)(a:bootBuiltins x=!(.type T))(d:X.env.kindOf x=!.globalImplicit)(b:autoParam (x≠ "__name__") _L.aD._auto_1)(hd:autoParam ((x==("__debug__":Str))=false) _L.aD._auto_1):BE X (.Name x pos) (tC (.ty T)):=-{Nz c a d b hd}
def NE{op:Operator}{r:R2}(c:BOp X (binaryOp op) r)(e:BE X a ta)(d:BE X b tb):BE X (.BinOp a op b pos) (tOp r ta tb):=-{Nc c.h e.h d.h}
def tV(b:BE X a ta):BE X (.UnaryOp .USub a pos) (tUn (rU λi=>.int (-i)) ta):=-{Nd IC b.h}
def Jj(b:BE X a ta):BE X (.UnaryOp .Not a pos) (Di ta):=-{Ik b.h}
def Jk{op}{t:TE}(h:BE X a t):BE X (.BoolOp op [a] pos) t:=-{Ii h.h}
def Jl{rest:↥Expr}(d:BE X a ta)(c:BE X (.BoolOp .And (b::rest) pos) tb):BE X (.BoolOp .And (a::b::rest) pos) (Dh ta tb):=-{Ij d.h c.h}
def NF{rest:↥Expr}(d:BE X a ta)(c:BE X (.BoolOp .Or (b::rest) pos) tb):BE X (.BoolOp .Or (a::b::rest) pos) (M2 ta tb):=-{M3 d.h c.h}
def Jm{r:R2}(c:BOp X (compareOp op) r)(f:BE X a ta)(e:BE X b tb)(d:behindInMarks op b=false):BE X (.Compare a [op] [b] pos) (tOp r ta tb):=-{Dx c.h f.h e.h d}
def yv{tc:TE}{r:R2}(e:BOp X (compareOp op) r)(d:BOp X (compareOp op') r')(j:BE X a ta)(i:BE X b tb)(g:BE X c tc)(f:lastMarks [op,op'] [b,c]=false):BE X (.Compare a [op,op'] [b,c] pos) (lF r r' ta tb tc):=-{xQ e.h d.h j.h i.h g.h f}
def NG(d:BT X c tA)(f:BE X a ta)(e:BE X b tb):BE X (.IfExp c a b pos) (tIf tA ta tb):=-{xJ d.h f.h e.h}
def Jn(O:Own X.prog X.w X.K X.mg X.base x k ps sp)(hr:Room k X.A)(d:BA X (e::es) t)(c:X.env.kindOf x=!.globalImplicit)(b:(e::es).all bh=true)(a:autoParam ((x==("__debug__":Str))=false) _L.aD._auto_1):BE X (.Call (.Name x p) (e::es) [] pos) (kz sp [] E0 t):=-{Ea O hr d.h c b a}
def yw{id:String}(i:BCall X (.builtin id) r)(f:X.mg x=none)(c:bootBuiltins x=!(.builtin id))(j:BA X (e::es) t)(g:X.env.kindOf x=!.globalImplicit)(a:(e::es).all bh=true)(d:autoParam (x≠ "__name__") _L.aD._auto_1)(b:autoParam ((x==("__debug__":Str))=false) _L.aD._auto_1):BE X (.Call (.Name x p) (e::es) [] pos) (tCB r t):=-{tS i.h f c j.h g a d b}
def yx(i:BCall X (.type T) r)(f:X.mg x=none)(c:bootBuiltins x=!(.type T))(j:BA X (e::es) t)(g:X.env.kindOf x=!.globalImplicit)(a:(e::es).all bh=true)(d:autoParam (x≠ "__name__") _L.aD._auto_1)(b:autoParam ((x==("__debug__":Str))=false) _L.aD._auto_1):BE X (.Call (.Name x p) (e::es) [] pos) (tCB r t):=-{tT i.h f c j.h g a d b}
def oS(h:es.all bh=true)(a:es.length<29):((backTo pos (starEach es env)).all (λx=>⇑x.1)&&(backToKw pos (keywordEach [] env)).all (λx=>x.1.isSome) && decide (es.length+([]:↥Keyword).length+(if ([]:↥Keyword).isEmpty then 0 else 1)<30))=true:=by have h1:(backTo pos (starEach es env)).all (λx=>⇑x.1)=true:=by{clear a;induction es with|nil=>rfl|cons e es b=>rw[aaU,ach]at h;rw[aS h.1];exact b h.2};rw[h1];exact decide_eq_true (aaQ a)
def Eb{id:String}{r:V->↥V->Hp->VK->Prop}(K:Frag)(f:PlainAttrs T)(slot:Slot T name id)(c:typeOf (.builtin id)=pure (.type "method_descriptor"))(i:BMt X id r)(g:BE X o to)(k:BA X (e::es) t)(l:X.K=K)(b:attributeBase o name X.env (eval o X.env)=eval o X.env)(d:(e::es).all bh=true)(j:(e::es).length<29)(a:(apos.endLine==cpos.line)=true):BE X (.Call (.Attribute o name apos) (e::es) [] cpos) (tBM K T r to t):=by have h:=d;rw[aaU,ach]at h;exact{Jg K f slot c i.h g.h k.h l b (oS d j) a (aS h.1) (dF h.2)}
def yy{id:String}{r:V->↥V->Hp->VK->Prop}(K:Frag)(d:PlainAttrs T)(slot:Slot T name id)(c:typeOf (.builtin id)=pure (.type "method_descriptor"))(f:BMt X id r)(e:BE X o to)(g:X.K=K)(b:attributeBase o name X.env (eval o X.env)=eval o X.env)(a:(apos.endLine==cpos.line)=true):BE X (.Call (.Attribute o name apos) [] [] cpos) (MK K T r to):=-{D7 K d slot c f.h e.h g b a}
def yz{lo hi:Option Expr}{tl th:TO}{p2:Pos}(K:Frag)(c:BE X e te)(b:BO X lo tl)(a:BO X hi th)(d:X.K=K):BE X (.Subscript e (.Slice lo hi none p2) pos) (tSl (Ja K) te tl th):=-{oJ (D6 K d) c.h b.h a.h}
def Jo(h:BA X es t):BE X (.List es pos) (MJ t):=-{IK h.h}
def Jp{a}(h:BA X es t):BE X (.Tuple es a pos) (MI t):=-{IJ h.h}
def Ec:BE X (.Dict [] [] pos) sV:=-{(yd)}
def tW{k:Option Expr}{keys:↥(Option Expr)}{values:↥Expr}(h:BPs X pos (k::keys) values trs)(a:(k::keys).all (·.isSome)=true)(c:(k::keys).length=values.length)(b:(k::keys).length<=15):BE X (.Dict (k::keys) values pos) (DT trs):=-{DU h.h a c (λz=>nomatch z) b}
def Ed:BPs X pos [] [] []:=-{(DS)}
def yB{k v:Expr}{ks:↥(Option Expr)}{vs:↥Expr}{tk tv:TE}(b:BE X k tk)(a:BE X v tv)(hr:BPs X pos ks vs trs):BPs X pos (↑k::ks) (v::vs) ((tk,tv)::trs):=-{yf b.h a.h hr.h}
def Ee{T F:↥Str}{ixs:↥Nat}{scope:Scope}{elt:Expr}{ifs:↥Expr}(d:X.calm=true)(S:CompScope X T F ixs scope)(hi:BI X tg iter wi)(b:∀C s H fp,BG (bE X (T++F) scope (aL X.env scope.names []) C s H fp) tg g)(a:∀C s H fp,BIf (bE X (T++F) scope (aL X.env scope.names []) C s H fp) ifs tc)(c:∀C s H fp,BE (bE X (T++F) scope (aL X.env scope.names []) C s H fp) elt te)(hs:∀x,foldedSetIterable iter X.env x=pure x):BE X (.ListComp elt [{(tg),iter,ifs,0}] scope pos) (eP T.length ixs wi g tc te):=- {DZ d S hi.h (λC s H fp=>(b C s H fp).h) (λC s H fp=>(a C s H fp).h) (λC s H fp=>(c C s H fp).h) hs}
def Jq:BA X [] iJ:=-{(II)}
def wa_c(b:BE X e te)(hr:BA X es t)(a:bh e=true):BA X (e::es) (cL te t):=-{pa_c b.h hr.h a}
def Ef:BO X none ny:=-{(DJ)}
def Eg(h:BE X e te):BO X ↑e (DI te):=-{DK h.h}
def Eh:BIf X [] Nx:=-{(DW)}
def Ei{t:TT}(h:BT X c t):BIf X [c] t:=-{DX h.h}
def Jr{r:R2}(c:BOp X (compareOp op) r)(f:BE X a ta)(e:BE X b tb)(d:behindInMarks op b=false):BT X (.Compare a [op] [b] pos) (sE (tOp r ta tb)):=-{Dy c.h f.h e.h d}
def yD{tc:TE}{r:R2}(e:BOp X (compareOp op) r)(d:BOp X (compareOp op') r')(j:BE X a ta)(i:BE X b tb)(g:BE X c tc)(f:lastMarks [op,op'] [b,c]=false):BT X (.Compare a [op,op'] [b,c] pos) (sE (lF r r' ta tb tc)):=-{xR e.h d.h j.h i.h g.h f}
def Js(b:BT X a tA):BT X (.UnaryOp .Not a pos) (MZ tA):=-{Ih b.h}
def wt_w{t:TT}(h:BW X e t):BT X e t:=-{(h.h.pt)}
def Ej(b:BT X a tA):BW X (.BoolOp .And [a] pos) tA:=-{Dg b.h}
def Jt(b:BT X a tA):BW X (.BoolOp .Or [a] pos) tA:=-{Ie b.h}
def Ju{rest:↥Expr}(d:BT X a tA)(c:BW X (.BoolOp .And (b::rest) pos) tB'):BW X (.BoolOp .And (a::b::rest) pos) (MY tA tB'):=-{Ig d.h c.h}
def NH{rest:↥Expr}(d:BT X a tA)(c:BW X (.BoolOp .Or (b::rest) pos) tB'):BW X (.BoolOp .Or (a::b::rest) pos) (tOr tA tB'):=-{M0 d.h c.h}
def Ek{f:Expr}{as:↥Expr}{ks:↥Keyword}{t:TE}(h:BE X (.Call f as ks pos) t):BT X (.Call f as ks pos) (tB t):=-{Ic h.h (by intro _;cases f<;>rfl)}
def NI(K:Frag)(ta:TE):TT:=λσ H Q=>ta σ H λx H'=>∃k,MG K x H' k/\Q k H'
def El{t:TE}(K:Frag)(h:BE X (.Name x pos) t)(a:X.K=K):BT X (.Name x pos) (NI K t):=by subst a;exact{oH h.h (λ_=>rfl)}
def Em(b:X.N.Nodup)(hi:X.N[i]?=!x)(hx:Loc X.env.scope x)(a:X.fn x=true∨X.env.scope.names.lookup x=!.local):BG X (.Name x pos) (fG i):=-{Dq b hi hx a}
def En:BGs X [] MD:=-{(Dr)}
def yF{t:TG}{u:TGs}(h1:BG X e t)(h2:BGs X es u)(hs:(assignEach (e::es) X.env).map (·.2)=assign e X.env::(assignEach es X.env).map (·.2)):BGs X (e::es) (qD t u):=-{xO h1.h h2.h hs}
def Jv{t:TGs}{n:Nat}(K:Frag)(c:X.calm=true)(h:BGs X es t)(d:X.K=K)(b:(assignEach es X.env).length=n)(a:(assignEach es X.env).findIdx? (·.1)=none):BG X (.Tuple es k pos) (Im K n t):=-{D8 K c h.h d b a}
def Jw{i:Expr}{ti:TE}(b:BE X o to)(hi:BE X i ti)
  (c:∀v,assign (.Subscript o i pos) X.env v=(do
   let ov ← holding [v] (eval o X.env)
   let a ← holding [v,ov] (eval i X.env)
   standAt pos
   holding [v,ov,a] (setItem ov a v)
   release [v,ov,a] [])):BG X (.Subscript o i pos) (M9 to ti DO):=-{Ip b.h hi.h ya c}
def Eo(K:Frag)(a:BE X l tl)(b:X.K=K):BI X tg l (nu K tl):=-{yu K a.h b}
def Jx(K:Frag)(a:BE X l tl)(b:X.K=K):BI X tg l (ME K tl):=-{D9 K a.h b}
def Jy(K:Frag)(a:BE X l tl)(b:X.K=K):BI X tg l (Ny tl):=-{IX a.h}
def tX{ta:TA}(d:X.env.kindOf "range"=!.globalImplicit)(c:X.mg "range"=none)(e:BA X [a] ta)(b:bh a=true):BI X tg (.Call (.Name "range" p) [a] [] pos) (Dt ta):=-{sv d c e.h (aS b)}
def tY{ta:TA}(f:X.env.kindOf "range"=!.globalImplicit)(e:X.mg "range"=none)(g:BA X [a,b] ta)(d:bh a=true)(c:bh b=true):BI X tg (.Call (.Name "range" p) [a,b] [] pos) (Du ta):=- {sx f e g.h (by rw[aS d,aS c];rfl) (by rw[aS c];rfl)}
def Ep:BSs X [] Dj:=-{(Dk)}
def Er{t:TS}(h:BS X st t):BSs X [st] t:=-{Dl h.h}
def yG{rest:↥Stmt}{t:TS}(h1:BS X st t)(h2:BSs X rest u):BSs X (st::rest) (M4 t u):=-{xK h1.h h2.h}
def yH:BS X (.Break pos) sn:=-{(xL)}
def nH:BS X (.Continue pos) Dm:=-{(nq)}
def Es(a:BE X e te)(hs:swapsWith e none pos.line X.env=pure false):BS X (.Expr e pos) (xM te):=-{Dn a.h hs}
def Jz(a:BE X e te):BS X (.Return ↑e pos) (M5 te):=-{Il a.h}
def Et:BS X (.Return none pos) Do:=-{(Dp)}
def NJ{a b:↥Stmt}{t:TS}(d:BT X c tc)(f:BSs X a t)(e:BSs X b u):BS X (.If c a b pos) (M6 tc t u):=-{M7 d.h f.h e.h}
def JA{pos':Pos}(c:X.N.Nodup)(hi:X.N[i]?=!x)(hx:Loc X.env.scope x)(b:BE X e te)(hs:swapsWith e ↑(.Name x pos') pos.line X.env=pure false)(a:X.fn x=true∨X.env.scope.names.lookup x=!.local):BS X (.Assign [.Name x pos'] e pos) (qE te (fG i)):=-{Ir c hi hx b.h hs a}
def JB(c:BE X e te)(b:BG X tg g)(hs:swapsWithSole [tg] e pos.line X.env=pure false)(a:swappedStores [tg] e X.env=pure none)(h1:(assignEach [tg] X.env).map (·.2)=[assign tg X.env]):BS X (.Assign [tg] e pos) (qE te g):=-{Iq c.h b.h hs a h1}
def JC{tb:TS}(a:PassesOwn (model X.prog X.w) X.A X.env X.xe)(c:X.calm=true)(hi:BI X tg iter wi)(b:BG X tg g)(d:BSs X body tb)(hs:∀x,foldedSetIterable iter X.env x=pure x):BS X (.For tg iter body [] pos) (Na wi g tb):=-{Iv a c hi.h b.h d.h hs}
def yI{tb:TS}(a:PassesOwn (model X.prog X.w) X.A X.env X.xe)(b:BT X c tc)(d:BSs X body tb):BS X (.While c body [] pos) (sq tc tb):=-{xP a b.h d.h}
def Eu:BOp X (binaryOp .Sub) (rI0 λi j=>.int (i - j)):=-{(Iy)}
def Ew:BOp X (binaryOp .Mult) (rI CMul λi j=>.int (i*j)):=-{(Iz)}
def yJ:BOp X (binaryOp .FloorDiv) (rI HL λi j=>.int (i/j)):=-{(Dv)}
def Ex:BOp X (binaryOp .Mod) (rI (λ_ j=>0<j) λi j=>.int (i % j)):=-{(IA)}
def Ey:BOp X (binaryOp .Pow) (rI HM λi j=>.int (i ^ j.toNat)):=-{(IB)}
def JD(K:Frag)(a:X.A.units+64<cLine)(h:X.K=K):BOp X (compareOp .Eq) (MN K):=-{Je K a h}
def JE(K:Frag)(a:X.A.units+64<cLine)(h:X.K=K):BOp X (compareOp .NotEq) (MO K):=-{Jf K a h}
def O9:R2:=λx y H Q=>y=.non/\Q (.bl (decide (x=.non))) H
def JF:R2:=λx y H Q=>y=.non/\Q (.bl (⇑(decide (x=.non)))) H
def Ez:BOp X (compareOp .Is) O9:=-{(ID)}
def yL:BOp X (compareOp .IsNot) JF:=-{(Dw)}
def JG(K:Frag)(h:X.K=K):BCall X (.builtin "len") (HQ K):=-{tP K h}
def JH(a:X.calm=true):BCall X (.builtin "max") NA:=-{tH a}
def JI(a:X.calm=true):BCall X (.builtin "min") NB:=-{tI a}
def JJ(K:Frag)(a:X.calm=true)(h:X.K=K):BCall X (.builtin "all") (ML K):=-{tQ K a h}
def JK(K:Frag)(a:X.calm=true)(h:X.K=K):BCall X (.builtin "any") (MM K):=-{tR K a h}
def EA(K:Frag)(h:X.K=K):BMt X "str.join" (yp K):=-{yt K h}
def tZ(K:Frag)(h:X.K=K):BMt X "list.append" dB:=-{(lQ)}
def Fun.okB{P:Program}{w:World}{K:Frag}{mg:Str->Option Value}{base:Heap}{qual:Str}{f:Addr}{fd:FuncData}{N:↥Str}(F:Fun K x qual st f fd)(S:FnScope N ps (ax st))(len:∀vs H Q E,sp vs H Q E->vs.length=ps.length)(a:∀(cdv:Value)(A:Around)(outer:↥Env)(s:Shared)(H:Hp)(vs:↥V)(Q:VK)(E:XK),Room k (A.deeper (envOfC qual (ax st) s.1.1.size f cdv))->sp vs H Q E ->∃t,BSs (sN CX0 P w K mg base N qual (ax st) f cdv A outer s H E).nox (bH st) t/\t {nx:=λ_ H'=>Q .non H',rt:=Q} (start N vs) H):FnOk P w K mg base CX0 (k+1) f fd ps sp:=- F.ok S len λcdv A outer s H vs Q E hr h=>by let⟨t,h1,h2⟩:=a cdv A outer s H vs Q E hr h;exact{(t),h1.h,h2}
end _L
set_option maxHeartbeats 4000000
namespace _S
open PySem PySem.Spec PyProof.Rows
variable{xs order:Array Nat}{i j mask finger moves ep n c slot g:Nat}{led plain L:Bool}{hs:Array Int}{prog:Program}{w:World}{K α:Type}{A A':Around}{E Q:Value->Shared->Prop}{s:Shared}{h h':Heap}{a I pl:Addr}{o op:Obj}{es:Array (Int×Value)}{x:Value}{pls:Array Value}{Q':Option (Value×Nat)->Shared->Prop}
def Ris(xs:Array Nat):Prop:=xs.toList.Pairwise (·<·)
def Ris.lt(h:Ris xs){d:Nat}(a:i<j)(b:j<xs.size):xs.getD i d<xs.getD j d:=by have hi:i<xs.size:=acL a b;have q:=acm.mp h i j (by exists hi) (by exists b) a;rw[acl,acl,ab9 hi,ab9 b];simpa using q
theorem kG{xs:Array Nat}{j:Nat}(h:Ris xs):∀(f lo hi:Nat),lo<=hi->hi<=xs.size->hi - lo<=f->(∀k,k<lo->xs.getD k j<j)->(∀k,hi<=k->k<xs.size->j<=xs.getD k j) ->SetTable.below.go xs j f lo hi<=xs.size/\(∀k,k<SetTable.below.go xs j f lo hi->xs.getD k j<j)/\∀k,SetTable.below.go xs j f lo hi<=k->k<xs.size->j<=xs.getD k j|0,lo,hi,a,b,c,p,q=>by have e:hi=lo:=();subst e;exact{(b),p,q}|f+1,lo,hi,a,b,c,p,q=>by have n:SetTable.below.go xs j (f+1) lo hi=if lo<hi then (if xs.getD ((lo+hi)/2) j<j then SetTable.below.go xs j f ((lo+hi)/2+1) hi else SetTable.below.go xs j f lo ((lo+hi)/2)) else lo:=rfl;rw[n];by_cases g:lo<hi;rw[if_pos g];have o:(lo+hi)/2<hi:=();by_cases l:xs.getD ((lo+hi)/2) j<j;rw[if_pos l];refine kG h f _ hi () b () (λk m=>?_) q;by_cases e:k=(lo+hi)/2;rw[e];exact l;exact acL (h.lt (i:=k) (j:=(lo+hi)/2) () ()) l;rw[if_neg l];refine kG h f lo _ () () () p λk m hs=>?_;by_cases e:k=(lo+hi)/2;rw[e];nofun;have:=h.lt (i:=(lo+hi)/2) (j:=k) (d:=j) () hs;nofun;rw[if_neg g];have e:hi=lo:=();subst e;exact{(b),p,q}
def gE(h:Ris xs)(j:Nat):SetTable.below xs j<=xs.size/\(∀k,k<SetTable.below xs j->xs.getD k j<j)/\∀k,SetTable.below xs j<=k->k<xs.size->j<=xs.getD k j:=- kG h _ _ _ (aan _) (aab _) () (λk a=>absurd a (Nat.not_lt_zero _)) λk a hs=>absurd hs ()
def qU(h:Ris xs):SetTable.below xs 0=0:=by let⟨_,b,_⟩:=gE h 0;by_cases e:SetTable.below xs 0=0;exact e;exact absurd (b 0 ()) (Nat.not_lt_zero _)
def qV(h:Ris xs){p:Nat}(e:xs[i]?=!p):SetTable.below xs (p+1)=i+1:=by let⟨hi,ep⟩:=Array.getElem?_eq_some_iff.mp e;let⟨a,b,c⟩:=gE h (p+1);have g:∀d,xs.getD i d=p:=λd=>by{rw[acl,e];rfl};by_cases l:SetTable.below xs (p+1)<=i;have:=c i l hi;rw[g]at this;nofun;by_cases r:SetTable.below xs (p+1)=i+1;exact r;have h1:=b (i+1) ();have h2:=h.lt (i:=i) (j:=i+1) (d:=p+1) () ();rw[g]at h2;nofun
def NotIn(xs:Array Nat)(j:Nat):Prop:=xs[SetTable.below xs j]?≠!j
def qW(h:Ris xs)(n:NotIn xs j):Ris (SetTable.insertAt xs (SetTable.below xs j) j):=by let⟨a,b,c⟩:=gE h j;unfold NotIn at n;generalize SetTable.below xs j=p at a b c n;have e:(SetTable.insertAt xs p j).toList=xs.toList.take p++j::xs.toList.drop p:=by{unfold SetTable.insertAt;simp[Array.toList_extract,List.extract_eq_drop_take,Array.length_toList];exact aah (by rw[aaC,acd];exact aab _)};have lo:∀x∈xs.toList.take p,x<j:=by{intro x g;let⟨k,f⟩:=aci.mp g;rw[List.getElem?_take]at f;split at f;rename_i m;have:=b k m;rw[acl,←acf,f]at this;exact this;cases f};have hi:∀x∈xs.toList.drop p,j<x:=by{intro x g;let⟨k,f⟩:=aci.mp g;rw[acF]at f;have hs:p+k<xs.size:=by{have:=(abT.mp f).1;simpa using this};have q:=c (p+k) () hs;rw[acl,←acf,f]at q;have q:j<=x:=q;rcases Nat.lt_or_ge j x with z|z;exact z;have ex:x=j:=();subst ex;exfalso;by_cases o:k=0;subst o;exact n (by rw[←acf];exact f);have g1:=h.lt (i:=p) (j:=p+k) (d:=x) () hs;have g2:=c p (aab _) ();have g3:xs.getD (p+k) x=x:=by{rw[acl,←acf,f];rfl};nofun};unfold Ris;rw[e];refine List.pairwise_append.mpr {List.Pairwise.sublist (aa6 p _) h,List.pairwise_cons.mpr {hi,List.Pairwise.sublist (List.drop_sublist p _) h},λx g y l=>?_};rcases ab2.mp l with rfl|l;exact lo x g;exact acL (lo x g) (hi y l)
def lV(t:SetTable)(p:SetTable.Probe):(t.advance p).dummy=p.dummy:=by unfold SetTable.advance;split;rfl;rfl
theorem gF{t:SetTable}{f:Nat->Int}{h:Int}:∀(a:Nat)(p:SetTable.Probe)(j:Nat)(d:Option Nat),(∀x,p.dummy=!x->NotIn t.place x)->SetTable.probe.go t f h a p=!(.empty j d)->NotIn t.place j/\∀x,d=!x->NotIn t.place x|0,p,j,d,_,e=>by unfold SetTable.probe.go at e;cases e|a+1,p,j,d,g,e=>by unfold SetTable.probe.go at e;have ns:∀{s:SetTable.Slot},t.slot p.j=s->(∀i,s≠.live i)->NotIn t.place p.j:=by{intro s es hs k;unfold SetTable.slot at es;dsimp only at es;rw[if_pos (by rw[k];simp)]at es;exact hs _ es.symm};cases b:t.slot p.j with|empty=>{rw[b]at e;have e:=aak e;injection e with m l;subst m l;exact{ns b (λi z=>nomatch z),g}}|dummy=>{rw[b]at e;refine gF a _ j d (λx c=>?_) e;rw[lV]at c;have c:↑p.j=!x:=c;injection c with c;rw[←c];exact ns b λi z=>nomatch z}|live i=>rw[b]at e;dsimp only at e;split at e;cases e;exact gF a _ j d (λx c=>g x (by rw[lV]at c;exact c)) e
def qX{t:SetTable}{h:Int}{b:Bool}(e:t.freeSlot h=!(j,b)):NotIn t.place j:=by unfold SetTable.freeSlot at e;split at e;rename_i a d f;let⟨h1,h2⟩:=gF _ _ _ _ (λx c=>by cases (show (none:Option Nat)=↑x from c)) f;have e:=aak e;have g:d.getD a=j:=congrArg Prod.fst e;subst g;cases d with|none=>exact h1|some x=>{exact h2 x rfl};cases e
def EB(t:SetTable)(es:Array (Int×Value))(h:Int)(x:Value)(hr:t.plain=true->Ris t.place):(layNew t es h x).2.1.plain=true->Ris (layNew t es h x).2.1.place:=by unfold layNew;split;rename_i slot wd e;dsimp only;unfold SetTable.orStandIn;split;intro a;have a:t.plain=true:=a;exact qW (hr a) (qX e);exact λz=>by{cases z};exact λz=>by cases z
def yM{t:SetTable}(h:SetTable.laid mask finger moves led plain hs=!(t,order)):Ris t.place:=by unfold SetTable.laid at h;cases e:SetTable.layClean mask hs with|none=>rw[e]at h;cases h|some owner=>rw[e]at h;have h':=aak h;rw[←congrArg (λp=>p.1.place) h'];dsimp only;unfold Ris;rw[abP,List.pairwise_map];refine List.Pairwise.filterMap _ (R:=(·<·)) (λa j d b f i c=>?_) List.pairwise_lt_range;let⟨y,_,rfl⟩:=acG.mp f;let⟨g,_,rfl⟩:=acG.mp c;exact d
def t0(t:SetTable)(es:Array (Int×Value))(a:Nat):(relayAll t es a).2.1.plain=true->Ris (relayAll t es a).2.1.place:=by unfold relayAll;split;rename_i t' order e;dsimp only;split;exact λ_=>yM (show SetTable.laid _ _ _ t.led t.plain _=↑(t',order)from e);exact λz=>by{cases z};exact λz=>by cases z
def EC(t:SetTable)(es:Array (Int×Value))(h:Int)(x:Value):(layNew t es h x).2.1.led=t.led/\((layNew t es h x).2.1.plain=true->t.plain=true):=by unfold layNew;split;dsimp only;unfold SetTable.orStandIn;split;exact{rfl,λz=>z};exact{rfl,λz=>by cases z};exact{rfl,λz=>by cases z}
def yN{t:SetTable}(h:SetTable.laid mask finger moves led plain hs=!(t,order)):t.led=led/\t.plain=plain:=by unfold SetTable.laid at h;cases e:SetTable.layClean mask hs with|none=>rw[e]at h;cases h|some owner=>rw[e]at h;have h':=aak h;exact{(congrArg (λp=>p.1.led) h').symm,(congrArg (λp=>p.1.plain) h').symm}
def t4(t:SetTable)(es:Array (Int×Value))(a:Nat):(relayAll t es a).2.1.led=t.led/\((relayAll t es a).2.1.plain=true->t.plain=true):=by unfold relayAll;split;rename_i t' order e;have q:=yN (show SetTable.laid _ _ _ t.led t.plain _=↑(t',order)from e);dsimp only;split;exact{q.1,λz=>by rw[q.2]at z;exact z};exact{rfl,λz=>by cases z};exact{rfl,λz=>by cases z}
section
variable    [DecidableEq K] (knd:KeyKind prog w K)
def SetZ(h:Heap)(a:Addr)(σ:↥K)(L:Bool):Prop:=∃o es ep t,h.get? a=!o/\o.ExactSet/\o.data=.set es ep t/\ElemsOf knd es.toList/\(∀k,k∈σ↔∃e∈es.toList,knd.is k e.2=true)/\es.size<scanBound/\t.fits es.size=true/\es.size=σ.length/\σ.Nodup/\t.led=L/\(t.plain=true->Ris t.place)
def dedup1(σ:↥K)(k:K):↥K:=if k∈σ then σ else σ++[k]
variable{knd}
def nodup_snoc{σ:↥K}{k:K}(h:σ.Nodup)(c:k∉σ):(σ++[k]).Nodup:=by rw[abI];refine{h,by simp,λx b y a e=>?_};have a:y=k:=(by exists a);rw[e,a]at b;exact c b
def SetZ.at{σ:↥K}(c:SetZ knd h a σ L)(k:∀o,h.get? a=!o->h'.get? a=!o):SetZ knd h' a σ L:=by let⟨o,es,ep,t,b,r⟩:=c;exact{o,es,ep,t,k o b,r}
def Pa{t:SetTable}(c:h.get? a=!o)(hd:o.data=.set es ep t)(b:Array (Int×Value))(t':SetTable):(h.update a (Obj.putSet b t')).get? a=some {o with data:=.set b (ep+1) t'}:=by have q:=acE (Obj.putSet b t') c (by rw[putSet_of b t' hd];rfl);rw[putSet_of b t' hd]at q;exact q
def ED{g:Bool->Sem Unit}(I:∀(b:Bool) (i:Shared) (Q':Unit->Shared->Prop),Q' PUnit.unit i->wpAny (model prog w) A (g b) Q' E i)
      {t:SetTable} (D:s.1.get? a=!o) (hex:o.ExactSet) (hd:o.data=.set es ep t)
  {c:Array (Int×Value)} {d:SetTable} {v:↥K}  (u:ElemsOf knd c.toList) (G:∀k',k'∈v↔∃e∈c.toList,knd.is k' e.2=true)
  (x:c.size<scanBound) (J:d.fits c.size=true) (F:c.size=v.length) (r:v.Nodup) (j:d.led=L) (z:d.plain=true->Ris d.place) {f:Bool} {R:Option Bool->Shared->Prop}
  (h:∀h',Heap.SameBut a s.1 h'->SetZ knd h' a v L->R ↑true {s with heap:=h'}):
  wpAny (model prog w) A (do
    storeSet a c d
    if (⇑f&&d.tooFull)=true then do
      g (relayAll d c (SetTable.grown c.size)).2.2
      storeSet a (relayAll d c (SetTable.grown c.size)).1 (relayAll d c (SetTable.grown c.size)).2.1
      pure !true
     else pure !true) R E s:=by
 refine aaa (wpAny_storeSet_of D hd ?_ (fits_of_scanBound x));have g1:=Pa D hd c d;have b1:=Heap.SameBut.update s.1 a (Obj.putSet c d);split
 .have p:=relayAll_perm d c (SetTable.grown c.size);have m:=relayAll_fits d c (SetTable.grown c.size);have l:=t4 d c (SetTable.grown c.size);have k:=t0 d c (SetTable.grown c.size);generalize M:relayAll d c (SetTable.grown c.size)=Y at p m l k ⊢;let⟨n,C,H⟩:=Y;dsimp only at p m l k ⊢;have y:n.size=c.size:=by rw[←Array.length_toList,p.length_eq,Array.length_toList]
  refine aaa (I _ _ _ ?_);refine aaa (wpAny_storeSet_of g1 rfl ?_ (fits_of_scanBound (by rw[y];exact x)))
  exact aaf (h _ (b1.trans (Heap.SameBut.update _ a _)) {_,n,_,C,Pa g1 rfl n C,hex,rfl,u.perm p,λk'=>(G k').trans {fun⟨e,B,q⟩=>{e,p.mem_iff.mpr B,q},fun⟨e,B,q⟩=>{e,p.mem_iff.mp B,q}},
   by rw[y];exact x,m,y.trans F,r,l.1.trans j,k})
 .exact aaf (h _ b1 {_,c,_,d,g1,hex,rfl,u,G,x,J,F,r,j,z})
def addZ{σ:↥K}{k:K}{Q:Bool->Shared->Prop}(d:knd.is k x=true)(y:x.scannable=true)(T:SetZ knd s.1 a σ L)(N:σ.length+1<scanBound)(h:∀b h',Heap.SameBut a s.1 h'->SetZ knd h' a (dedup1 σ k) L->Q b {s with heap:=h'}):wpAny (model prog w) A (setAddHashed a x (knd.hash k)) Q E s:=by let⟨o,es,ep,t,M,hex,hd,F,R,hb,S,Z,B,g,O⟩:=id T;unfold setAddHashed setAddHashedIn;refine aaT (aaa (abp M hd S ?_));dsimp only;rw[byScan_of y hb F];simp only[↓reduceIte];unfold setAddByScan;refine aaa ?_;refine aaa (abG ?_);refine aaa (wpAny_setScan_of d M hd S F ?_);cases hr:List.findIdx? (λe=>knd.is k e.2) es.toList with|some j=>dsimp only;let⟨hj,P,_⟩:=List.findIdx?_eq_some_iff_getElem.mp hr;have I:k∈σ:=(R k).mpr {es.toList[j],aaL hj,P};refine aaf (aaf ?_);have q:=h false s.1 (Heap.SameBut.refl a s.1) (by unfold dedup1;rw[if_pos I];exact T);exact q|none=>dsimp only;have I:k∉σ:=λz=>by{let⟨e,n,m⟩:=(R k).mp z;have:=List.findIdx?_eq_none_iff.mp hr e n;rw[m]at this;cases this};have p:∀(b:Bool){c:Shared}{Q':Unit->Shared->Prop},Q' PUnit.unit c->wpAny (model prog w) A (match b with|true=>rule "set.scan.the-table-gave-way"|false=>pure PUnit.unit) Q' E c:=λb c Q' v=>by{cases b;exact aaf v;exact abG v};have m:=layNew_perm t es (knd.hash k) x;have i:=layNew_fits t es (knd.hash k) x;have f:=EC t es (knd.hash k) x;have r:=EB t es (knd.hash k) x O;generalize hL:layNew t es (knd.hash k) x=Y at m i f r ⊢;let⟨u,t1,H,U⟩:=Y;dsimp only at m i f r ⊢;rw[Array.toList_push]at m;have V:u.size=es.size+1:=by{rw[←acd,m.length_eq,aag,acd];rfl};have l:ElemsOf knd u.toList:=(F.push d y).perm m;have D:∀J,J∈σ++[k]↔∃e∈u.toList,knd.is J e.2=true:=λJ=>by{rw[abS,R J,abY];constructor;rintro (⟨e,n,q⟩|rfl);exact{e,m.mem_iff.mpr (aax _ n),q};exact{_,m.mem_iff.mpr (aal _ (abY.mpr rfl)),d};rintro⟨e,n,q⟩;rcases abS.mp (m.mem_iff.mp n)with n|n;exact .inl {(e),n,q};rw[abY]at n;subst n;exact .inr (knd.inj x J k q d)};refine aaa (p _ ?_);have fin:∀h',Heap.SameBut a s.1 h'->SetZ knd h' a (σ++[k]) L->Q true {s with heap:=h'}:=λh' G z=>h true h' G (by unfold dedup1;rw[if_neg I];exact z);have C:u.size=(σ++[k]).length:=by{rw[aag,V,Z];rfl};split;refine aaa ?_;rw[hashByValue_scannable 8 y];refine aaf ?_;cases W:plainKind x with|false=>refine ED ?_ M hex hd l D () (by rw[if_neg (by decide)];exact SetTable.fits_plain_off i) C (nodup_snoc B I) (L:=L) (by rw[if_neg (by decide)];exact f.1.trans g) (by rw[if_neg (by decide)];exact λz=>nomatch z) ?_;intro b c Q' v;exact p b v;intro h' G z;dsimp only;exact aaf (fin h' G z)|true=>{refine ED ?_ M hex hd l D () (by rw[if_pos rfl];exact i) C (nodup_snoc B I) (L:=L) (by rw[if_pos rfl];exact f.1.trans g) (by rw[if_pos rfl];exact r) ?_;intro b c Q' v;exact p b v;intro h' G z;dsimp only;exact aaf (fin h' G z)};rename_i X;refine aaa (aaf ?_);simp only[↓reduceIte];refine ED ?_ M hex hd l D () i C (nodup_snoc B I) (L:=L) (f.1.trans g) r ?_;intro b c Q' v;exact p b v;intro h' G z;dsimp only;exact aaf (fin h' G z)
def metZ(val:Nat->K)(i:Nat):↥K:=((List.range i).map val).foldl dedup1 []
def iT(val:Nat->K)(i:Nat):metZ val (i+1)=dedup1 (metZ val i) (val i):=by unfold metZ;rw[List.range_succ,aae,abq];rfl
theorem metZ_len(val:Nat->K):∀i,(metZ val i).length<=i|0=>aab _|i+1=>by rw[iT];have a:=metZ_len val i;unfold dedup1;split;nofun;rw[aag,aaR];nofun
theorem metZ_mem(val:Nat->K):∀(i:Nat)(k:K),k∈metZ val i↔∃j,j<i/\val j=k|0,k=>by{constructor;intro h;cases h;rintro⟨j,a,_⟩;nofun}|i+1,k=>by have e:k∈metZ val (i+1)↔k∈metZ val i∨val i=k:=by{rw[iT];unfold dedup1;split;rename_i h;exact{.inl,λz=>z.elim id λz=>z ▸ h};rw[abS,abY];exact{λz=>z.imp id Eq.symm,λz=>z.imp id Eq.symm}};rw[e,metZ_mem val i k];constructor;rintro (⟨j,a,q⟩|q);exact{j,(),q};exact{i,(),q};rintro⟨j,a,q⟩;by_cases z:j=i;exact .inr (z ▸ q);exact .inl {j,(),q}
def EE{R:Result->Shared->Prop}{fp f:↥Addr}{G:Array GenState->Array GenState->Prop}{P:Nat->Value->Prop}{St:Nat->Shared->Prop}(W:WalksS prog w A.in1 I fp f G n P St)(S:Addr)(u:S∉fp)(val:Nat->K)(g:∀i v,P i v->knd.is (val i) v=true/\v.scannable=true)(d:n+1<scanBound):∀(k i:Nat)(s:Shared),n - i=k->i<=n->St i s->SetZ knd s.1 S (metZ val i) L ->(∀s',Moved (S::f) G s s'->SetZ knd s'.1 S (metZ val n) L->R (.ok (.ret .none)) s') ->codeAny (model prog w) A (.builtin "set.update.loop" {[.ref S,.ref I],[]}) R s:=by have t:S∉f:=λh=>u (W.sub _ h);have a:∀b∈f,b∈S::f:=λb d=>aad _ d;intro k;induction k with|zero=>intro i s J hi c E F;obtain rfl:i=n:=();refine codeAny_builtin PyProof.Rows.F.entry_set_update_loop ?_;rw[aaI abu _];show wpAny _ A.in1 (pyNext (.ref I)>>=_) _ _ s;refine aaa (W.done s _ _ c λs' q=>?_);show wpAny _ A.in1 (ret Value.none) _ _ s';exact aaf (F s' (q.mono a) (E.at λo C=>q.1 S o t C))|succ k H=>intro i s J hi c E F;have r:i<n:=();refine codeAny_builtin PyProof.Rows.F.entry_set_update_loop ?_;rw[aaI abu _];show wpAny _ A.in1 (pyNext (.ref I)>>=_) _ _ s;refine aaa (W.item i s _ _ r c λv s' M l q=>?_);let⟨j,B⟩:=g i v M;have D:SetZ knd s'.1 S (metZ val i) L:=E.at λo C=>q.1 S o t C;show wpAny _ A.in1 (holding [v] (setAdd S v)>>=_) _ _ s';refine aaa (aaT ?_);unfold setAdd;refine aaT ?_;refine aaa (knd.pyHash (k:=val i) j ?_);refine addZ (s:={s' with toks:=s'.toks+1}) j B D (by have:=metZ_len val i;nofun) λb h' m x=>?_;rw[←iT]at x;refine aaf {plainId_quiet abu _,H (i+1) _ () r (W.frame _ s' _ _ l (aba _) λb d o e=>?_) x λz p y=>?_};rw[m.2 b (λh:b=S=>u (by rw[←h];exact d))];exact e;refine F z (Moved.trans W.gtrans ((q.mono a).then_heap (aba _) λb o d e=>?_) p) y;rw[m.2 b (λh:b=S=>d (by rw[h];exact aac))];exact e
end
abbrev byText(w:World):Bool:=w.params.followText "set-order"
abbrev cj(w:World):Obj:={cls:=.type "set",dict:=none,data:=.set #[] 0 (.fresh 0 0 (⇑(byText w)))}
def EG(a:Value){Q₁:Value->Shared->Prop}(h:Q₁ (.ref s.1.1.size) {s with heap:=s.1.push (cj w)}):
  codeAny (model prog w) A (.call (.builtin "set.__new__") {[.type "set",a],[]}) (wants Q₁ E) s:=by
 refine codeAny_of_tree ?_;show wpAny _ A.in1 (do checkBuiltinCall "set.__new__" {[.type "set",a],[]};again (.builtin "set.__new__" {[.type "set",a],[]})) _ _ s;refine aaa (abe (F.newCall_set_1 a) (aaf {plainId_quiet F.plain_set_new _,codeAny_builtin F.entry_set_new ?_}));rw[aaI F.plain_set_new _];unfold Builtin.«set.__new__» Builtin.Frozenset.newClass;have b:=sub_set_self;let⟨c,g,d,tk,os⟩:=s;dsimp only
 wp_walk
 refine abv (aaf ?_);dsimp only;simp only[newObj];refine aaa (wpAny_alloc (aaf ?_));exact aaf h
section
variable    [DecidableEq K] {knd:KeyKind prog w K}
def JL(b:h.get? a=!(cj w)):SetZ knd h a [] (⇑(byText w)):=- {_,#[],0,_,b,{(rfl),rfl,rfl},rfl,λe c=>by simp at c,λk=>by simp,by decide,rfl,rfl,aaH,rfl,λ_=>List.Pairwise.nil}
set_option maxRecDepth 100000 in
set_option maxHeartbeats 8000000 in
def set_of_list{l:Addr}{items:Array Value}(hh:A.handled=none)(hl:s.1.IsList l items)(val:Nat->K)
  (p:∀i v,items[i]?=!v->knd.is (val i) v=true/\v.scannable=true) (D:items.size+1<scanBound)
  (h:∀(h':Heap)(tk:Nat),SetZ knd h' s.1.1.size (metZ val items.size) (⇑(byText w))->(∀b o,b<s.1.1.size->s.1.get? b=!o->h'.get? b=!o)->Q (.ref s.1.1.size) {s with heap:=h',toks:=tk}):
  wpAny (model prog w) A (call (.type "set") [.ref l]) Q E s:=by
 let⟨c,tl,X⟩:=F.called_set.mro;have J:=F.called_set.made;have U:=F.called_set.sub;refine wpAny_call (codeAny_of_tree ?_);show wpAny _ _ (callAny (.type "set") _) _ _ _;refine aaf {Code.quiet_builtin _ ∅,codeAny_builtin F.entry_type_call ?_};rw[Around.under_plain (weight_type_call_type "set" [.ref l] []) rfl];have h1:=F.called_set.notType;have h2:=F.called_set.canCreate;have hct:=F.typeCall_set_1 (.ref l)
 repeat (any_goals (first|assumption|wp_step))
 refine codeAny_mono (EG (.ref l) (E:=E) (Q₁:=λobj g=>obj=.ref s.1.1.size/\g={s with heap:=s.1.push (cj w)}) {(rfl),rfl}) λr g hr=>?_
 cases r with
 |error e=>exact hr
 |ok fl=>
  cases fl with
  |ret obj=>
   let⟨rfl,rfl⟩:=hr;have Y:(s.1.push (cj w)).get? s.1.1.size=!(cj w):=ab0 _ rfl;have hT:Shared.TypeIs {s with heap:=s.1.push (cj w)} (.ref s.1.1.size) "set":={_,Y,rfl};have hli:=F.called_set.init.lookup;have hbi:=F.called_set.init.bind (.ref s.1.1.size)
   repeat (any_goals (first|assumption|wp_step))
   refine codeAny_mono (codeAny_call_builtin (R:=wants (λr f=>r=.none/\∃h' tk,f={s with heap:=h',toks:=tk}/\
     SetZ knd h' s.1.1.size (metZ val items.size) (⇑(byText w))/\(∀b o,b<s.1.1.size->s.1.get? b=!o->h'.get? b=!o)) E) F.called_set.init.plain F.entry_set_init (check_set_init_1 hT ?_)) λn f a=>?_
   .let⟨ol,t,B,nl,z⟩:=hl;let⟨T,j,I,d⟩:=ol;simp only at B z;subst B;subst z;have q:(s.1.push (cj w)).get? l=some {cls:=.type "list",dict:=j,data:=.seq items nl,slots:=d}:=abV _ t;have V:=F.sub_list_set;have W:=F.sub_list_frozenset;have hne:(Value.type "list"==Value.type "dict")=false:=by decide
    have y:(s.1.push (cj w)).IsList l items:={_,q,rfl,nl,rfl};unfold Builtin.«set.__init__» noKeywords Builtin.Frozenset.updateFrom;generalize S:pyIter=PI
    wp_walk
    subst S;refine wpAny_pyIter_list y ?_;refine aaa (wpAny_runValue ?_);have x:l<s.1.1.size:=aaj t;have M:A.in1.in1.in1.handled=none:=by simp[hh]
    have u:l≠(s.1.push (cj w)).1.size:=by
     rw[aa5];exact aap (aaQ x)
    have P:s.1.1.size∉[(s.1.push (cj w)).1.size,l]:=by
     rw[aa5];simp only[List.mem_cons,List.mem_singleton,List.not_mem_nil,or_false,not_or];exact{aap (aaz _),Nat.ne_of_gt x}
    refine EE (knd:=knd) ((Walks.list M _ l u items).toS) s.1.1.size P val (λi v Z=>p i v Z) D (items.size - 0) 0 _ () (aan _)
     {{_,ab0 _ rfl,rfl,rfl},(y.push _)} (JL (abV _ Y)) ?hR
    case hR=>
     intro s' C k;let⟨h',g',d',G,H⟩:=s';have eg:g'=s.gens:=C.gens;have ed:d'=s.drawn:=C.drawn;have eo:H=s.os:=C.os;subst eg;subst ed;subst eo;show wpAny _ _ _ _ _ _;refine aaf ?_;show wpAny _ _ (ret Value.none) _ _ _;refine aaf {rfl,h',G,rfl,k,λb o D e=>?_};have O:b≠s.1.1.size:=aap D
     have N:b≠(s.1.push (cj w)).1.size:=by
      rw[aa5];exact aap (aaQ D)
     exact C.1 b o (by simp only[List.mem_cons,List.mem_singleton,List.not_mem_nil,or_false,not_or];exact{(O),N}) (abV _ (abV _ e))
   .cases n with
    |error e=>exact a
    |ok m=>
     cases m with
     |ret r=>
      let⟨rfl,h',tk,rfl,k,L⟩:=a
      repeat (any_goals (first|assumption|wp_step))
      exact h _ _ k L
     |next=>exact a.elim
     |brk=>exact a.elim
     |cont=>exact a.elim
  |next=>exact hr.elim
  |brk=>exact hr.elim
  |cont=>exact hr.elim
end
def jI:entryFor table "set.__iter__"=↑Builtin.«frozenset.__iter__»:=-entryFor_alias (id':="frozenset.__iter__") (by kernel_rfl) rfl ∅ (by kernel_rfl)
def kH(a:Value):argsOk "set.__iter__" {[a],[]}:=by unfold argsOk;kernel_rfl
def fH:Slot "set_iterator" "__iter__" "set_iterator.__iter__":=- .of (owner:="set_iterator") (n:="__iter__") (by rw[typeLookup_type,builtinLookup_eq_fast];kernel_rfl) ∅ ∅ ∅ (by first|exact .inl ∅|exact .inr ∅) (by rw[isSubtype_type];kernel_rfl)
def aK:Slot "set_iterator" "__next__" "set_iterator.__next__":=- .of (owner:="set_iterator") (n:="__next__") (by rw[typeLookup_type,builtinLookup_eq_fast];kernel_rfl) ∅ ∅ ∅ (by first|exact .inl ∅|exact .inr ∅) (by rw[isSubtype_type];kernel_rfl)
def iU:entryFor table "set_iterator.__iter__"=↑Builtin.«dict_keyiterator.__iter__»:=-entryFor_alias (id':="dict_keyiterator.__iter__") (by kernel_rfl) rfl ∅ (by kernel_rfl)
def ck:entryFor table "set_iterator.__next__"=↑Builtin.«set_iterator.__next__»:=-entryFor_of_fast (by kernel_rfl)
def jJ(a:Value):argsOk "set_iterator.__iter__" {[a],[]}:=by unfold argsOk;kernel_rfl
def cB(a:Value):argsOk "set_iterator.__next__" {[a],[]}:=by unfold argsOk;kernel_rfl
theorem gG{α:Type}:∀(l:↥α)(i:Nat)(h:i<l.length),(l[i]::l.eraseIdx i).Perm l|[],_,h=>by simp at h|x::l,0,_=>.refl _|x::l,i+1,h=>by have h':i<l.length:=(by exists h);show (l[i]::x::l.eraseIdx i).Perm (x::l);exact(List.Perm.swap x l[i] _).trans (List.Perm.cons x (gG l i h'))
def lW{k:Nat->Sem α}{Q:α->Shared->Prop}{M:Model}(b:n≠0)(h:∀i d',i<n->wpAny M A (k i) Q E {s with drawn:=d'}):wpAny M A (choose .order n>>=k) Q E s:=by intro c p a;refine{b,h _ _ (Nat.mod_lt _ (Nat.pos_of_ne_zero b)) c p a}
theorem jZ{α:Type}{M:Model}:∀(n:Nat)(xs:↥α)(s:Shared)(Q:↥α->Shared->Prop),xs.length=n->(∀ys d',ys.Perm xs->Q ys {s with drawn:=d'})->wpAny M A (drawOrder n xs) Q E s|0,xs,s,Q,a,h=>by have e:xs=[]:=aaD a;subst e;exact aaf (h [] s.drawn (.refl _))|n+1,[],s,Q,a,h=>by simp at a|n+1,x::xs,s,Q,a,h=>by refine lW (by simp) λi d hi=>?_;have b:(x::xs)[i]?=↑(x::xs)[i]:=abU hi;rw[b];dsimp only;refine aaa (jZ n ((x::xs).eraseIdx i) _ _ (by rw[List.length_eraseIdx_of_lt hi];simpa using a) λys d' c=>aaf (h _ d' ?_));exact(List.Perm.cons _ c).trans (gG _ i hi)
section
abbrev dC(first:Value)(i:Nat)(x:Value)(n ep:Nat):Obj:={cls:=.type "set_iterator",dict:=none,data:=.fields #[first,.int (i:Int) 0,x,.int (n:Int) 0,.int (ep:Int) 0],slots:=#[]}
def t5{I:Addr}{Q:Option Value->Shared->Prop}(hh:A.handled=none)(c:∀h',(∀b o,s.1.get? b=!o->h'.get? b=!o)->Q none {s with heap:=h'}){QQ:PySem.Fin->Shared->Prop}:wpAny (model prog w) A.in1 (do let e ← newExc (.type "StopIteration") [];raiseNew e:Sem PySem.Fin) QQ (λe s'=>wpAny (model prog w) A (do if (← isInstance e (.type "StopIteration"))=true then pure none else throw e) Q E s') s:=by refine aaa ?_;simp only[newExc,newTuple];refine aaa (aaO ?_ (by size_fits));refine aaa (m:=firstArgMember _ _) (abe (a:=Value.none) (by first|rfl|(simp only[firstArgMember];rfl)) ?_);refine aaO ?_ (by size_fits);simp only[raiseNew];refine aaa (wpAny_handled ?_);rw[show A.in1.handled=none from hh];refine aaa (aaf (wpAny_throw ?_));refine aaa (wpAny_isInstance (T:="StopIteration") (b:=true) {_,ab0 _ rfl,rfl} isSubtype_stop ?_);exact aaf (c _ λb o e=>abV _ (abV _ e))
variable    {f:Nat} {t:SetTable} {Q:Option Value->Shared->Prop}
def oT{nx:Nat}(b:s.1.get? I=!(dC (.int (f:Int) 0) i (.ref a) n ep))(g:s.1.get? a=!o)(hd:o.data=.set es ep t)(e:t.fits es.size=true)(d:n=es.size)
  (hs:∀(k:Value->Shared->Prop)(Q':Option (Value×Nat)->Shared->Prop),Q' ↑(x,nx) s->wpAny (model prog w) A.in1 (setNext a f i ep) Q' k s)
  (j:∀h',h'.get? I=!(dC (.int (nx:Int) 0) (i+1) (.ref a) n ep)->Heap.SameBut I s.1 h'->Q ↑x {s with heap:=h'}):wpAny (model prog w) A (pyNext (.ref I)) Q E s:=by
 have c:s.TypeIs (.ref I) "set_iterator":={_,b,rfl};subst d;unfold pyNext;refine aaa (abO (wpAny_callSpecial?_slot (name:=Str.ofString "__next__") c aK (aaF aK c ck ?_ (cB _))));unfold Builtin.«set_iterator.__next__»;refine aaa (m:=slotArgs "__next__" 0 _) (aaf ?_)
 try dsimp only
 refine aaa (wpAny_fieldsOf b rfl ?_)
 try dsimp only
 refine aaa (abx g hd e ?_);rw[if_neg (by simp)]
 try dsimp only
 simp only[Int.toNat_natCast];refine aaa (hs _ _ ?_)
 try dsimp only
 refine aaa (abk b (by simp) λh1 g1 b1=>?_);refine aaa (abk (s:={s with heap:=h1}) g1 (by simp) λh2 g2 b2=>?_);refine aaf {x,rfl,aaf (j h2 ?_ (b1.trans b2))};rw[g2];rfl
def oU(hh:A.handled=none)(c:s.1.get? I=!(dC (.int (f:Int) 0) i (.ref a) n ep))(p:s.1.get? a=!o)(hd:o.data=.set es ep t)(j:t.fits es.size=true)(g:n=es.size)
  (hs:∀(r:Value->Shared->Prop)(Q':Option (Value×Nat)->Shared->Prop),Q' none s->wpAny (model prog w) A.in1 (setNext a f i ep) Q' r s)
  (q:∀h',(∀b ob,b≠I->s.1.get? b=!ob->h'.get? b=!ob)->Q none {s with heap:=h'}):wpAny (model prog w) A (pyNext (.ref I)) Q E s:=by
 have d:s.TypeIs (.ref I) "set_iterator":={_,c,rfl};subst g;unfold pyNext;refine aaa (abO (wpAny_callSpecial?_slot (name:=Str.ofString "__next__") d aK (aaF aK d ck ?_ (cB _))));unfold Builtin.«set_iterator.__next__»;refine aaa (m:=slotArgs "__next__" 0 _) (aaf ?_)
 try dsimp only
 refine aaa (wpAny_fieldsOf c rfl ?_)
 try dsimp only
 refine aaa (abx p hd j ?_);rw[if_neg (by simp)]
 try dsimp only
 simp only[Int.toNat_natCast];refine aaa (hs _ _ ?_)
 try dsimp only
 refine aaa (abk c (by simp) λh1 g1 b1=>?_);exact t5 (s:={s with heap:=h1}) (I:=I) hh λh' k=>q h' λb ob l e=>k b ob ((b1.2 b l).trans e)
def qY{hx:Int}{place:Nat}(f:s.1.get? I=!(dC (.ref pl) i (.ref a) n ep))(j:s.1.get? a=!o)(hd:o.data=.set es ep t)(g:t.fits es.size=true)(p:n=es.size)
  (l:s.1.get? pl=!op) (e:op.data=.seq pls c) (d:pls[i]?=!(.int (place:Int) 0)) (b:es[place]?=!(hx,x))
  (q:∀h',h'.get? I=!(dC (.ref pl) (i+1) (.ref a) n ep)->Heap.SameBut I s.1 h'->Q ↑x {s with heap:=h'}):wpAny (model prog w) A (pyNext (.ref I)) Q E s:=by
 have k:s.TypeIs (.ref I) "set_iterator":={_,f,rfl};subst p;unfold pyNext;refine aaa (abO (wpAny_callSpecial?_slot (name:=Str.ofString "__next__") k aK (aaF aK k ck ?_ (cB _))));unfold Builtin.«set_iterator.__next__»;refine aaa (m:=slotArgs "__next__" 0 _) (aaf ?_)
 try dsimp only
 refine aaa (wpAny_fieldsOf f rfl ?_)
 try dsimp only
 refine aaa (abx j hd g ?_);rw[if_neg (by simp)]
 try dsimp only
 simp only[Int.toNat_natCast];refine aaa (m:=seqItems? _) ?_;unfold seqItems?;refine aaa (wpAny_load l ?_);rw[e];refine aaf ?_;dsimp only;rw[d];dsimp only;simp only[Int.toNat_natCast];refine aaa (m:=setNextDrawn _ _ _) ?_;unfold setNextDrawn;refine aaa (abp j hd g ?_);dsimp only;simp only[bne_self_eq_false,Bool.false_eq_true,if_false];rw[b];refine aaf ?_;refine aaa (abk f (by simp) λh1 g1 b1=>?_);refine aaf {x,rfl,aaf (q h1 ?_ b1)};rw[g1];rfl
def qZ(hh:A.handled=none)(g:s.1.get? I=!(dC (.ref pl) i (.ref a) n ep))(u:s.1.get? a=!o)(hd:o.data=.set es ep t)(r:t.fits es.size=true)(q:n=es.size)
  (p:s.1.get? pl=!op) (f:op.data=.seq pls c) (d:pls[i]?=none)
  (v:∀h',(∀b ob,b≠I->s.1.get? b=!ob->h'.get? b=!ob)->Q none {s with heap:=h'}):wpAny (model prog w) A (pyNext (.ref I)) Q E s:=by
 have l:s.TypeIs (.ref I) "set_iterator":={_,g,rfl};subst q;unfold pyNext;refine aaa (abO (wpAny_callSpecial?_slot (name:=Str.ofString "__next__") l aK (aaF aK l ck ?_ (cB _))));unfold Builtin.«set_iterator.__next__»;refine aaa (m:=slotArgs "__next__" 0 _) (aaf ?_)
 try dsimp only
 refine aaa (wpAny_fieldsOf g rfl ?_)
 try dsimp only
 refine aaa (abx u hd r ?_);rw[if_neg (by simp)]
 try dsimp only
 simp only[Int.toNat_natCast];refine aaa (m:=seqItems? _) ?_;unfold seqItems?;refine aaa (wpAny_load p ?_);rw[f];refine aaf ?_;dsimp only;rw[d];dsimp only;refine aaa (abk g (by simp) λh1 g1 b1=>?_);refine aaa (abk (s:={s with heap:=h1}) g1 (by simp) λh2 g2 b2=>?_);exact t5 (s:={s with heap:=h2}) (I:=I) hh λh' k=>v h' λb ob j e=>k b ob ((b2.2 b j).trans ((b1.2 b j).trans e))
def gT{r:Option (Value×Nat)}(b:byText w=true)(d:s.1.get? a=!o)(hd:o.data=.set es ep t)(c:t.fits es.size=true)(hr:((pickOrder (w.params.setOrder a ep) es)[g]?).map (λe=>(e.2,slot))=r)(h:Q' r s):wpAny (model prog w) A' (setNext a slot g ep) Q' E s:=by unfold setNext;refine aaa (abp d hd c ?_);dsimp only;unfold setsByText;refine aaa (aaa (abv (aaf ?_)));rw[show (model prog w).w.params.followText "set-order"=true from b];simp only[bne_self_eq_false,Bool.false_eq_true,if_false,if_true];refine aaa (m:=setWalk a) ?_;unfold setWalk;refine aaa (abp d hd c ?_);dsimp only;unfold setsByText;refine aaa (aaa (abv (aaf ?_)));rw[show (model prog w).w.params.followText "set-order"=true from b];simp only[if_true];refine aaa (abv (aaf ?_));refine aaf ?_;rw[←hr]at h;exact h
def iV(d:byText w=false)(f:s.1.get? a=!o)(hd:o.data=.set es ep t)(e:t.fits es.size=true)(c:(⇑t.plain&&decide (es.size>1))=false)(b:t.led=true)(h:Q' (match es[SetTable.below t.place slot]?,t.place[SetTable.below t.place slot]? with|some (_,x),↑j=>↑(x,j+1)|_,_=>none) s):wpAny (model prog w) A' (setNext a slot g ep) Q' E s:=by unfold setNext;refine aaa (abp f hd e ?_);dsimp only;unfold setsByText;refine aaa (aaa (abv (aaf ?_)));rw[show (model prog w).w.params.followText "set-order"=false from d];simp only[Bool.false_eq_true,if_false];show wpAny _ _ (if (⇑t.plain&&decide (es.size>1))=true then _ else _) _ _ _;rw[c];simp only[Bool.false_eq_true,if_false];refine aaa ?_;show wpAny _ _ (if (⇑t.led&&⇑es.isEmpty)=true then _ else _) _ _ _;rw[b];simp only[Bool.not_true,Bool.false_and,Bool.false_eq_true,if_false];exact aaf (aaf h)
end
theorem t6{α:Type}(next:Nat->Nat):∀(a k:Nat)(left:↥α)(out:Array α),left.length<=a->(pickOrder.go next a k left out).toList.Perm (out.toList++left)
 |0,k,left,out,h=>by
  have e:left=[]:=aaD ();subst e;show out.toList.Perm (out.toList++[]);rw[aaw]
 |a+1,k,[],out,_=>by
  show out.toList.Perm (out.toList++[]);rw[aaw]
 |a+1,k,x::left,out,h=>by
  show (match (x::left)[next k % (x::left).length]? with
   |some y=>pickOrder.go next a (k+1) ((x::left).eraseIdx (next k % (x::left).length)) (out.push y)
   |none=>out).toList.Perm _
  have hi:next k % (x::left).length<(x::left).length:=Nat.mod_lt _ (by simp);rw[List.getElem?_eq_getElem hi];dsimp only;refine(t6 next a (k+1) _ _ (by rw[List.length_eraseIdx_of_lt hi];simp at h ⊢;nofun)).trans ?_;rw[Array.toList_push,aay];exact aa0 _ (gG _ _ hi)
def iW(next:Nat->Nat)(xs:Array α):(pickOrder next xs).toList.Perm xs.toList:=by unfold pickOrder;have q:=t6 next xs.size 0 xs.toList #[] (by simp);simpa using q
theorem Cc(es:Array (Int×Value)):∀ys:↥Nat,(∀j∈ys,j<es.size)->ys.filterMap (λj=>(es[j]?).map (·.2))=ys.map λj=>((es[j]?).map (·.2)).getD Value.none|[],_=>rfl|j::ys,h=>by have a:=h j aac;rw[aa8,ab9 a];show es[j].2::ys.filterMap (λj=>(es[j]?).map (·.2))=_;rw[Cc es ys λi hi=>h i (aad _ hi),ab1,ab9 a];rfl
section
variable          {t:SetTable}
def iX{f:Value}(b:s.1.get? I=!(dC f i x n ep))(h:Q (.ref I) s):wpAny (model prog w) A (pyIter (.ref I)) Q E s:=by have a:s.TypeIs (.ref I) "set_iterator":={_,b,rfl};refine wpAny_pyIter_slot a fH (aaF fH a iU ?_ (jJ _));show wpAny _ _ (ret (.ref I)) _ _ s;exact aaf {_,rfl,"set_iterator",_,a,aK.lookup,h}
def t7(hs:Heap.SameBut I s.1 h'):Moved [I] Eq s {s with heap:=h'}:=- {λb ob a e=>(hs.2 b (λz=>a (by simp[z]))).trans e,rfl,rfl,rfl,aab _}
def t9(hs:∀b ob,b≠I->s.1.get? b=!ob->h'.get? b=!ob):Moved [I] Eq s {s with heap:=h'}:=- {λb ob a e=>hs b ob (λz=>a (by simp[z])) e,rfl,rfl,rfl,aab _}
theorem q0(hh:A.handled=none)(hne:a≠I)(hd:o.data=.set es ep t)(hf:t.fits es.size=true)(hby:byText w=true):
  WalksS prog w A I [I,a] [I] Eq es.size (λi v=>((pickOrder (w.params.setOrder a ep) es).toList.map (·.2))[i]?=!v) (λi s=>s.1.get? I=!(dC (.int ((0:Nat):Int) 0) i (.ref a) es.size ep)/\s.1.get? a=!o) where
 sub:=λb hb=>by simp at hb;simp[hb]
 grefl:=λ_=>rfl
 gtrans:=λ_ _ _ x y=>x.trans y
 frame:=λi s h' tk st _ k=>{k I (by simp) _ st.1,k a (by simp) _ st.2}
 item:=λi s Q E hi st hQ=>by
  have hl:(pickOrder (w.params.setOrder a ep) es).size=es.size:=by rw[←acd,(iW _ es).length_eq,acd]
  have hx:(pickOrder (w.params.setOrder a ep) es)[i]?=!((pickOrder (w.params.setOrder a ep) es)[i]'()):=ab9 _;refine oT (x:=((pickOrder (w.params.setOrder a ep) es)[i]'()).2) (nx:=0) st.1 st.2 hd hf rfl (λE' Q' q=>gT hby st.2 hd hf (by rw[hx];rfl) q) λh' g b=>hQ _ _ ?_ {g,(b.2 a hne).trans st.2} (t7 b);rw[abW,acf,hx];rfl
 done:=λs Q E st hQ=>by
  have hl:(pickOrder (w.params.setOrder a ep) es).size=es.size:=by rw[←acd,(iW _ es).length_eq,acd]
  refine oU hh st.1 st.2 hd hf rfl (λE' Q' q=>gT hby st.2 hd hf (by rw[acH ()];rfl) q) λh' k=>hQ _ (t9 k)
 self:=λi s Q E st h=>iX st.1 h
theorem ua(hh:A.handled=none)(hne:a≠I)(hd:o.data=.set es ep t)(hf:t.fits es.size=true)(hby:byText w=false)(hdr:(⇑t.plain&&decide (es.size>1))=false)(hr:Ris t.place)(hled:t.led=true):
  WalksS prog w A I [I,a] [I] Eq es.size (λi v=>(es.toList.map (·.2))[i]?=!v) (λi s=>(∃f:Nat,SetTable.below t.place f=i/\s.1.get? I=!(dC (.int (f:Int) 0) i (.ref a) es.size ep))/\s.1.get? a=!o) where
 sub:=λb hb=>by simp at hb;simp[hb]
 grefl:=λ_=>rfl
 gtrans:=λ_ _ _ x y=>x.trans y
 frame:=λi s h' tk st _ k=>by
  let⟨⟨f,f0,g⟩,ga⟩:=st;exact{{f,f0,k I (by simp) _ g},k a (by simp) _ ga}
 item:=λi s Q E hi st hQ=>by
  let⟨⟨f,f0,g⟩,ga⟩:=st
  have hsz:t.place.size=es.size:=by
   have hf':=hf;simp only[SetTable.fits,Bool.and_eq_true,beq_iff_eq]at hf';exact hf'.1
  have hpl:t.place[i]?=!(t.place[i]'()):=ab9 _;have hes:es[i]?=!(es[i]'hi):=ab9 _;refine oT (x:=(es[i]'hi).2) (nx:=(t.place[i]'())+1) g ga hd hf rfl (λE' Q' q=>iV hby ga hd hf hdr hled (by rw[f0,hes,hpl];exact q)) λh' g' b=>hQ _ _ ?_ {{_,qV hr hpl,g'},(b.2 a hne).trans ga} (t7 b);rw[abW,acf,hes];rfl
 done:=λs Q E st hQ=>by
  let⟨⟨f,f0,g⟩,ga⟩:=st;refine oU hh g ga hd hf rfl (λE' Q' q=>iV hby ga hd hf hdr hled ?_) λh' k=>hQ _ (t9 k);have hbe:es[SetTable.below t.place f]?=none:=by rw[f0];exact acH (aab _)
  rw[hbe];exact q
 self:=λi s Q E st h=>by
  let⟨⟨f,f0,g⟩,ga⟩:=st;exact iX g h
theorem nI{ys:↥Nat}(hh:A.handled=none)(hne:a≠I)(hnp:pl≠I)(hd:o.data=.set es ep t)(hf:t.fits es.size=true)(hpd:op.data=.seq (ys.map λ(i:Nat)=>Value.int (i:Int) 0).toArray c)(hys:ys.Perm (List.range es.size)):
  WalksS prog w A I [I,a,pl] [I] Eq es.size (λi v=>(ys.filterMap λj=>(es[j]?).map (·.2))[i]?=!v) (λi s=>s.1.get? I=!(dC (.ref pl) i (.ref a) es.size ep)/\s.1.get? a=!o/\s.1.get? pl=!op) where
 sub:=λb hb=>by simp at hb;simp[hb]
 grefl:=λ_=>rfl
 gtrans:=λ_ _ _ x y=>x.trans y
 frame:=λi s h' tk st _ k=>{k I (by simp) _ st.1,k a (by simp) _ st.2.1,k pl (by simp) _ st.2.2}
 item:=λi s Q E hi st hQ=>by
  have hl:ys.length=es.size:=by rw[hys.length_eq,acz]
  have hyi:ys[i]?=!(ys[i]'()):=abU _;have hlt:ys[i]'()<es.size:=acw.mp (hys.mem_iff.mp (aaL _));have hes:es[ys[i]'()]?=↑es[ys[i]'()]:=ab9 hlt;refine qY (x:=es[ys[i]'()].2) (hx:=es[ys[i]'()].1) (place:=ys[i]'()) st.1 st.2.1 hd hf rfl st.2.2 hpd (by rw[List.getElem?_toArray,abW,hyi];rfl) hes λh' g b=>hQ _ _ ?_ {g,(b.2 a hne).trans st.2.1,(b.2 pl hnp).trans st.2.2} (t7 b);have all:=Cc es ys λj hj=>acw.mp (hys.mem_iff.mp hj);rw[all,abW,hyi];show ↑(((es[ys[i]'()]?).map (·.2)).getD Value.none)=_;rw[hes];rfl
 done:=λs Q E st hQ=>by
  have hl:ys.length=es.size:=by rw[hys.length_eq,acz]
  exact qZ hh st.1 st.2.1 hd hf rfl st.2.2 hpd (by rw[List.getElem?_toArray,acu (by rw[abR];nofun)]) λh' k=>hQ _ (t9 k)
 self:=λi s Q E st h=>iX st.1 h
def yO(y:s.1.get? a=!o)(hex:o.ExactSet)(hd:o.data=.set es ep t)(u:t.fits es.size=true)(d:es.size<scanBound)(z:t.led=⇑(byText w))(M:t.plain=true->Ris t.place)
  (h:∀(I:Addr)(fp:↥Addr)(St:Nat->Shared->Prop)(ord:↥Value)(h':Heap)(d':Drawn),(∀A':Around,A'.handled=none->WalksS prog w A' I fp [I] Eq es.size (λi v=>ord[i]?=!v) St)->St 0 {s with heap:=h',drawn:=d'} ->
   (∀b∈fp,b<h'.1.size)->I∈fp->a≠I->(∀b∈fp,b=a∨s.1.1.size<=b)->ord.Perm (es.toList.map (·.2))->(∀b ob,s.1.get? b=!ob->h'.get? b=!ob)->Q (.ref I) {s with heap:=h',drawn:=d'}):
  wpAny (model prog w) A (pyIter (.ref a)) Q E s:=by
 have R:s.TypeIs (.ref a) "set":={(o),y,hex.1};refine wpAny_pyIter_slot R F.slot_set_iter (aaF F.slot_set_iter R jI ?_ (kH _));unfold Builtin.«frozenset.__iter__»;refine aaa (m:=Builtin.Frozenset.slot0 "__iter__" _) (aaf ?_);refine aaa (m:=Builtin.Frozenset.sizeOf _) (aaa (abx y hd u (aaf ?_)));have alt:a<s.1.1.size:=aaj y;unfold setDrawn;refine aaa (aaa (abp y hd u ?_));dsimp only;unfold setsByText;refine aaa (aaa (abv (aaf ?_)));refine aaf ?_;show wpAny _ _ (if (⇑(byText w)&&(⇑t.plain&&decide (es.size>1)))=true then _ else _) _ _ _
 have fin:∀(first:Value)(h1:Heap)(K:Drawn),(∀b ob,s.1.get? b=!ob->h1.get? b=!ob)->s.1.1.size<=h1.1.size ->
   (∀(I:Addr),I=h1.1.size->Q (.ref I) {s with heap:=h1.push (dC first 0 (.ref a) es.size ep),drawn:=K}) ->
   wpAny (model prog w) A.in1 (do
    let e ← setEpoch a
    let v ← newFields "set_iterator" [first,rawInt 0,Value.ref a,rawInt es.size,rawInt e]
    ret v) (λfin s'=>∃v,fin=Fin.done (Flow.ret v)/\∃T r,s'.TypeIs v T/\typeLookup (Value.type T) (Str.ofString "__next__")=pure !r/\Q v s') E {s with heap:=h1,drawn:=K}:=by
  intro first h1 K k Z q;refine aaa (wpAny_setEpoch_of (s:={s with heap:=h1,drawn:=K}) (k a o y) hd u ?_);exact aaa (aaO (aaf {_,rfl,"set_iterator",_,{_,ab0 _ rfl,rfl},aK.lookup,q _ rfl}))
 by_cases n:(⇑(byText w)&&(⇑t.plain&&decide (es.size>1)))=true
 .rw[if_pos n];refine aaa (jZ es.size (List.range es.size) s _ (by simp) λys d' O=>?_);refine aaa (wpAny_newTuple ?_ (by rw[List.length_map,O.length_eq,List.length_range];exact fits_of_scanBound d));generalize S:({cls:=.type "tuple",data:=.seq (ys.map λ(i:Nat)=>rawInt (i:Int)).toArray}:Obj)=op;have l:(s.1.push op).1.size=s.1.1.size+1:=aa5 ..;have P:op.data=.seq (ys.map λ(i:Nat)=>Value.int (i:Int) 0).toArray 0:=by rw[←S];rfl
  refine fin _ (s.1.push op) d' (λb ob e=>abV _ e) (by rw[l];exact aba _) λI g=>?_;rw[l]at g;have N:s.1.1.size≠I:=by rw[g];exact aap (aaz _)
  have c:a≠I:=by rw[g];exact aap (aaQ alt)
  have L:((s.1.push op).push (dC (.ref s.1.1.size) 0 (.ref a) es.size ep)).1.size=s.1.1.size+2:=by rw[aa5,l]
  have J:((s.1.push op).push (dC (.ref s.1.1.size) 0 (.ref a) es.size ep)).get? I=!(dC (.ref s.1.1.size) 0 (.ref a) es.size ep):=by
   rw[g,←l];exact ab0 _ rfl
  have H:((s.1.push op).push (dC (.ref s.1.1.size) 0 (.ref a) es.size ep)).get? a=!o:=abV _ (abV _ y);have W:((s.1.push op).push (dC (.ref s.1.1.size) 0 (.ref a) es.size ep)).get? s.1.1.size=!op:=abV _ (ab0 s.1 (o:=op) (by rw[←S];rfl))
  have V:∀b∈[I,a,s.1.1.size],b<((s.1.push op).push (dC (.ref s.1.1.size) 0 (.ref a) es.size ep)).1.size:=by
   intro b d;rw[L];simp only[List.mem_cons,List.not_mem_nil,or_false]at d;rcases d with rfl|rfl|rfl
   .rw[g];exact aaz _
   .exact aaQ (aaQ alt)
   .exact aaQ (aaz _)
  have G:∀b∈[I,a,s.1.1.size],b=a∨s.1.1.size<=b:=by
   intro b d;simp only[List.mem_cons,List.not_mem_nil,or_false]at d;rcases d with rfl|rfl|rfl
   .exact .inr (by rw[g];exact aba _)
   .exact .inl rfl
   .exact .inr (aab _)
  have U:(ys.filterMap λj=>(es[j]?).map (·.2)).Perm (es.toList.map (·.2)):=by
   refine(O.filterMap λj=>(es[j]?).map (·.2)).trans ?_;rw[←PySem.filterMap_getElem?_range es,List.map_filterMap]
  exact h I [I,a,s.1.1.size] _ (ys.filterMap λj=>(es[j]?).map (·.2)) _ d' (λA' D=>nI (op:=op) D c N hd u P O) {(J),H,W} V (by simp) c G U (λb ob e=>abV _ (abV _ e))
 .rw[if_neg n];refine aaa (aaf ?_);refine fin _ s.1 s.drawn (λb ob e=>e) (aab _) λI g=>?_;have c:a≠I:=by rw[g];exact aap alt
  have B:∀b∈[I,a],b<(s.1.push (dC (rawInt 0) 0 (.ref a) es.size ep)).1.size:=by
   intro b d;rw[aa5];simp only[List.mem_cons,List.not_mem_nil,or_false]at d;rcases d with rfl|rfl
   .rw[g];exact aaz _
   .exact aaQ alt
  have J:(s.1.push (dC (rawInt 0) 0 (.ref a) es.size ep)).get? I=!(dC (rawInt 0) 0 (.ref a) es.size ep):=by rw[g];exact ab0 _ rfl
  have H:(s.1.push (dC (rawInt 0) 0 (.ref a) es.size ep)).get? a=!o:=abV _ y
  have G:∀b∈[I,a],b=a∨s.1.1.size<=b:=by
   intro b d;simp only[List.mem_cons,List.not_mem_nil,or_false]at d;rcases d with rfl|rfl
   .exact .inr (by rw[g];exact aab _)
   .exact .inl rfl
  cases p:byText w with
  |true=>exact h I [I,a] _ ((pickOrder (w.params.setOrder a ep) es).toList.map (·.2)) _ s.drawn (fun A' D=>q0 D c hd u p) {(J),H} B (by simp) c G ((iW _ es).map _) (fun b ob e=>abV _ e)
  |false=>
   have f:(⇑t.plain&&decide (es.size>1))=false:=by
    rw[p,Bool.not_false,Bool.true_and]at n;exact acB.mpr n
   have hr:Ris t.place:=by
    cases q:t.plain with
    |true=>exact M q
    |false=>
     rw[q,Bool.not_false,Bool.true_and]at f;have h1:¬es.size>1:=of_decide_eq_false f
     have X:t.place.size=es.size:=by
      have C:=u;simp only[SetTable.fits,Bool.and_eq_true,beq_iff_eq]at C;exact C.1
     have Y:t.place.toList.length<=1:=by rw[acd];nofun
     unfold Ris
     match hq:t.place.toList,Y with
     |[],_=>exact .nil
     |[x],_=>exact List.pairwise_singleton _ _
   exact h I [I,a] _ (es.toList.map (·.2)) _ s.drawn (λA' D=>ua D c hd u p f hr (by rw[z,p];rfl)) {{0,qU hr,J},H} B (by simp) c G (.refl _) (λb ob e=>abV _ e)
end
section
variable          {t:SetTable}
def yQ{Q:Bool->Shared->Prop}(e:s.TypeIs (.ref a) "set")(h:Q false s):wpAny (model prog w) A (Builtin.List.listLengthHint (.ref a)) Q E s:=by
 unfold Builtin.List.listLengthHint;refine aaa (wpAny_specialOf e F.slot_set_len.lookup ?_);generalize c:("set.__len__":String)=d
 wp_delta
 rw[show splitId d=↑("set","__len__")from by subst c;decide+kernel];subst c;refine aaa (wpAny_isInstance (b:=true) e sub_set_self ?_);rw[if_neg (by decide)];show wpAny _ _ (if _=true then _ else _) _ _ _;rw[if_pos ∅];refine aaa (wpAny_typeOf e ?_);exact aaf h
def nJ{Q:↥Value->Shared->Prop}(hh:A.handled=none)(M:s.1.get? a=!o)(hex:o.ExactSet)(hd:o.data=.set es ep t)(hf:t.fits es.size=true)(p:es.size<scanBound)(m:t.led=⇑(byText w))(B:t.plain=true->Ris t.place)(hQ:∀(vs:↥Value)(h':Heap)(d':Drawn)(tk:Nat),vs.Perm (es.toList.map (·.2))->s.1.1.size<h'.1.size->(∀b ob,s.1.get? b=!ob->h'.get? b=!ob)->Q vs {s with heap:=h',drawn:=d',toks:=tk}):wpAny (model prog w) A (collect (.ref a)) Q E s:=by have alt:a<s.1.1.size:=aaj M;unfold collect;refine aaa (wpAny_runValue (codeAny_builtin F.entry_proto_collect ?_));rw[aaI F.plain_proto_collect _];show wpAny _ A.in1 (newList []>>=λl=>again (.builtin "list.__iadd__" {[l,.ref a],[]})) _ _ s;refine aaa (aaO ?_);refine aaf {plainId_quiet F.plain_list_iadd _,codeAny_builtin F.entry_list_iadd ?_};rw[aaI F.plain_list_iadd _];generalize N:({cls:=.type "list",dict:=none,data:=.seq ([]:↥Value).toArray}:Obj)=ol;have g1:(s.1.push ol).get? s.1.1.size=!ol:=ab0 s.1 (o:=ol) (by rw[←N];rfl);have H:(s.1.push ol).get? a=!o:=abV _ M;have hT:Shared.TypeIs {s with heap:=s.1.push ol} (.ref a) "set":={(o),H,hex.1};show wpAny _ A.in1 (Builtin.List.listExtendWith (.ref s.1.1.size) (.ref a) (.ref s.1.1.size)) _ _ _;unfold Builtin.List.listExtendWith;refine aaa (wpAny_typeOf hT ?_);have h1:Builtin.List.listSameRef (.ref s.1.1.size) (.ref a)=false:=by{simp only[Builtin.List.listSameRef,beq_eq_false_iff_ne];exact(aap alt).symm};rw[if_neg (by rw[h1];decide)];refine aaa (yO (s:={s with heap:=s.1.push ol}) H hex hd hf p m B λI fp St ord h2 U W u Z O G n c C=>?_);refine aaa (aaT (yQ {o,C a o H,hex.1} ?_));rw[if_pos (by decide)];refine aaa (abG ?_);refine aaa ?_;have g2:h2.get? s.1.1.size=some {cls:=.type "list",data:=.seq ([]:↥Value).toArray}:=by{rw[N];exact C _ _ g1};show wpAny _ A.in1 (updateSeq s.1.1.size (·.push .none)>>=λ_=>updateSeq s.1.1.size (·.pop)) _ _ _;refine aaa (wpAny_updateSeq (s:={s with heap:=h2,drawn:=U}) g2 rfl ?_);have g3:=acE (Obj.mapSeq (·.push Value.none)) g2 rfl;refine wpAny_updateSeq g3 rfl ?_;have S:=acE (Obj.mapSeq (·.pop)) g3 rfl;generalize D:(h2.update s.1.1.size (Obj.mapSeq (·.push Value.none))).update s.1.1.size (Obj.mapSeq (·.pop))=P at S ⊢;have i:∀b ob,b≠s.1.1.size->h2.get? b=!ob->P.get? b=!ob:=λb ob k e=>by{rw[←D];exact(acv _ _ (abC k)).trans ((acv _ _ (abC k)).trans e)};have K:(s.1.push ol).1.size=s.1.1.size+1:=aa5 ..;have f:s.1.1.size∉fp:=λg=>by{rcases n _ g with z|z;exact absurd z (aap alt).symm;have z:(s.1.push ol).1.size<=s.1.1.size:=z;rw[K]at z;exact absurd z (Nat.not_succ_le_self _)};have hIS:I≠s.1.1.size:=λe=>f (e ▸ O);have r:=(W A.in1 hh).frame 0 _ P s.toks u (aab _) λb p ob e=>i b ob (λz=>f (z ▸ p)) e;have x:∀b ob,s.1.get? b=!ob->b≠s.1.1.size/\b≠I:=λb ob e=>by{refine{aap (aaj e),λz=>?_};rcases n _ O with y|y;exact G y.symm;have y:(s.1.push ol).1.size<=I:=y;rw[K,←z]at y;exact absurd (aau (aaj e) (Nat.le_of_succ_le y)) (aa2 _)};refine aaf {plainId_quiet F.plain_extend_loop _,codeAny_extend_loopS (W A.in1 hh) (fits_of_scanBound p) _ f _ es.size 0 _ _ _ rfl (aan _) r S (ItemsOf.nil _) λs' acc c' g R d=>?_};show wpAny _ A (load s.1.1.size>>=_) _ _ s';refine aaa (wpAny_load R ?_);refine aaf ?_;let⟨h9,g9,d9,q,v⟩:=s';have eg:g9=s.gens:=g.gens.symm;have ed:d9=U:=g.drawn;have eo:v=s.os:=g.os;subst eg ed eo;have hl:ord.length=es.size:=by{rw[c.length_eq,abR,acd]};have X:acc.toList=ord:=by{refine acp λj=>?_;by_cases L:j<acc.size;have T:acc[j]?=↑acc[j]:=ab9 L;rw[acf,T,d.2 j _ T];have Y:es.size<=j:=by{rw[d.1]at L;nofun};rw[acf,acH (),acu ()]};refine hQ _ h9 _ q (by rw[X];exact c) (aaj R) λb ob e=>?_;let⟨J,V⟩:=x b ob e;exact g.1 b ob (by simp[J,V]) (i b ob J (C b ob (abV _ e)))
end
theorem iY{α:Type}[DecidableEq α]:∀(σ ss:↥α),σ.Nodup->(∀k∈σ,k∈ss)->ss.length=σ.length->ss.Perm σ|[],ss,_,_,d=>by have:ss=[]:=aaD (by exists d);subst this;exact .refl _|k::σ,ss,l,g,d=>by have m:k∈ss:=g k (aac ..);have f:=List.perm_cons_erase m;have a:=ab4.mp l;have b:(ss.erase k).length=σ.length:=by{have:=f.length_eq;simp only[List.length_cons]at this d;nofun};refine f.trans (.cons k (iY σ (ss.erase k) a.2 (λj i=>?_) b));have c:j≠k:=λe=>a.1 (e ▸ i);exact(List.mem_erase_of_ne c).mpr (g j (aad _ i))
def yR{x:Str}{v:Value}(h:Value.isStrOf x v=true):strOf v=x:=by let⟨t,rfl⟩:=Value.isStrOf_shape h;rfl
def sorted_set{σ:↥Str}(hh:A.handled=none)(T:SetZ (PySem.strKind prog w) s.1 a σ (⇑(byText w)))(M:σ.length<64)(U:∀(p:Addr)(out:↥Value)(ss:↥Str)(e:Nat)(h':Heap)(d':Drawn)(tk:Nat),s.1.1.size<=p->h'.get? p=!(seqObj "list" out.toArray e)->StrsAre out ss->ss.Perm σ->sortedS ss=true ->(∀b o,s.1.get? b=!o->h'.get? b=!o)->Q (.ref p) {s with heap:=h',drawn:=d',toks:=tk}):wpAny (model prog w) A (call (.builtin "sorted") [.ref a]) Q E s:=by let⟨o,es,ep,t,R,hex,hd,V,l,z,S,D,H,n,G⟩:=T;refine Calls.call_function_entry kind_sorted plain_sorted entry_sorted (args_sorted1 _) ?_;unfold Builtin.«sorted»;refine aaa (m:=checkCount "sorted" 1 1 _) (aaf ?_);refine aaa (nJ (by exists hh) R hex hd S z n G λvs h' d' tk c I u=>?_);have d:vs.length=σ.length:=by{rw[c.length_eq,abR,acd];exact D};refine aaa (wpAny_newList ?_ (hsz:=by rw[sizeLine_eq];nofun));show wpAny _ _ _ _ _ {s with heap:=h'.push (seqObj "list" vs.toArray 0),drawn:=d',toks:=tk};have f:(h'.push (seqObj "list" vs.toArray 0)).get? h'.1.size=!(seqObj "list" vs.toArray 0):=ab0 _ rfl;have j:∀v∈vs,∃x t,v=.str x t:=λv P=>by{have C:=c.mem_iff.mp P;let⟨e,L,rfl⟩:=abZ.mp C;let⟨⟨k,u,_⟩,_⟩:=V e L;let⟨t,q⟩:=Value.isStrOf_shape u;exact{(k),t,q}};have g:=strsAre_map vs j;have F:(vs.map strOf).Perm σ:=by{refine iY σ _ H (λk u=>?_) (by rw[abR,d]);let⟨e,L,J⟩:=(l k).mp u;refine abZ.mpr {e.2,c.mem_iff.mpr (abZ.mpr {(e),L,rfl}),yR J}};have r:s.1.1.size<=h'.1.size:=acM I;refine aaa (aaT (aaF slot_list_sort {_,f,rfl} entry_list_sort (list_sort_treeK strKind_oneLt f g.keysOf (λO N rest e=>keyKind_strs (by rw[←e];exact g)) (by rw[d];exact M) λi Z Y=>{_,rfl,?_}) (args_list_sort _)));let⟨B,b1,b2,X⟩:=sorted_out_str g Z Y;let⟨W,K⟩:=sortedHeap_at (out:=(arrOf i).map (·.2)) f;refine aaf {_,rfl,U h'.1.size ((arrOf i).map (·.2)).toList B W _ d' tk r (by rw[abt];exact K) b1 (b2.trans F) X λb ob z=>?_};have y:b<h'.1.size:=aau (aaj z) r;rw[sortedHeap_old (aap y) (by rw[size_push'];exact aaQ y)];exact abV _ (u b ob z)
end _S
namespace _L
open PySem PySem.Spec PyProof.Rows
variable{ss zs:↥Str}{X:Cx}{σ σ0:St}{H F F' H' Z F1:Hp}{s:Shared}{a p:Addr}{ty tv te ta tb:TE}{pos:Pos}{ixs T μ m:↥Nat}{i n j no:Nat}{y z x b:Str}{wi:TI}{g:TG}{tc u:TT}{ys:↥(Key×V)}{Q:VK}{v:V}{xs vs:↥V}{A B:↥Addr}{ks k:↥Key}{t:TA}{gs:TGs}{w:World}{gV:Int->Int->V}
def eQ{vs:↥Value}(h:StrsAre vs ss):Vals (ss.map V.str) vs:=by induction h with|nil=>exact .nil|cons y t h a=>exact .cons {(t),rfl} a
theorem eR:∀{ss:↥Str}{vs:↥Value},Vals (ss.map V.str) vs->StrsAre vs ss|[],_,.nil=>.nil|s::ss,_,.cons ⟨t,e⟩ r=>by subst e;exact .cons s t (eR r)
theorem Cd:∀{vs:↥Value}{ss:↥Str}{i:Nat}{v:Value},StrsAre vs ss->vs[i]?=!v->∃t,v=.str (ss.getD i "") t|_,_,_,_,.nil,e=>by simp at e|_,_,0,_,.cons y t h,e=>by simp at e;exact{t,by rw[←e];rfl}|_,_,i+1,v,.cons y t h,e=>by let⟨u,q⟩:=Cd (i:=i) (v:=v) h (by exists e);exact{u,(by exists q)}
theorem StrsAre.len:∀{vs:↥Value}{ss:↥Str},StrsAre vs ss->vs.length=ss.length|_,_,.nil=>rfl|_,_,.cons _ _ h=>by simp[StrsAre.len h]
def MP(P:Program)(w:World)(q:Addr)(σ:↥Str):HO:=.ext λh=>_S.SetZ (PySem.strKind P w) h q σ (⇑(_S.byText w))
def Inv.laidD{pins:↥(Addr×Obj)}{h':Heap}{o:HO}{t':Nat}{d':Drawn}(I:Inv X pins σ H s)(k:∀b u,s.1.get? b=!u->h'.get? b=!u)(c:s.1.1.size<=a)(new:ObjOk X.prog X.w (upd H a o) h' a o):Inv X pins σ (upd H a o) {s with heap:=h',drawn:=d',toks:=t'}:=- I.call (ch:=[]) (g':=s.gens) (Un.laid k c (I.hok.fresh c)) (I.hok.laid k c new) I.bare (λ_ z=>nomatch z)
def MQ(P:Program)(w:World)(K:Frag):↥V->Hp->VK->Prop:=λxs H Q=>∃(p:Addr)(zs:↥Str),xs=[.ref p]/\SqL K H p (zs.map .str)/\zs.length+1<scanBound/\ ∀q σ,H q=none->(∀k,k∈σ↔k∈zs)->σ.Nodup->σ.length<=zs.length->Q (.ref q) (upd H q (MP P w q σ))
def ub(B:X.calm=true):CallR X (.type "set") (MQ X.prog X.w X.K):=by intro pins s σ H xs us Q I r h;let⟨p,zs,rfl,y,C,q⟩:=h;let⟨u,rfl,w⟩:=eI r;cases w;let⟨its,r',pl,x⟩:=I.list y;have n:=eR r';have c:=StrsAre.len n;refine _S.set_of_list (knd:=PySem.strKind X.prog X.w) (I.ok.hd B) pl.isList (λi=>zs.getD i "") (λi v e=>?_) (by simp only[List.size_toArray];nofun) λh' tk m g=>?_;let⟨t,rfl⟩:=Cd (i:=i) n (by exists e);exact{lD _ t,rfl};have a:∀k,k∈_S.metZ (λi=>zs.getD i "") its.toArray.size↔k∈zs:=λk=>by{rw[_S.metZ_mem];simp only[List.size_toArray,c];constructor;rintro⟨j,d,rfl⟩;rw[List.getD,abU d];exact aaL d;intro g;let⟨j,d,e⟩:=aby g;exact{j,d,by rw[List.getD,abU d];exact e}};have l:=id m;let⟨o,es,ep,t,A,_,_,_,_,_,_,_,f,_,_⟩:=l;refine{.ref s.1.1.size,_,I.laid (t':=tk) (o:=MP X.prog X.w s.1.1.size (_S.metZ (λi=>zs.getD i "") its.toArray.size)) (λb o e=>g b o (aaj e) e) (aab _) ?_,rfl,q _ _ (I.hok.fresh (aab _)) a f ?_};exact{m,{(o),A},λh1 h2 z k=>_S.SetZ.at z k};exact aao (_S.metZ_len _ _) (by simp only[List.size_toArray];nofun)
def uc(P:Program)(w:World)(K:Frag):↥V->Hp->VK->Prop:=λxs H Q=>∃(p:Addr)(σ:↥Str),xs=[.ref p]/\(H p=↑(MP P w p σ)∨SqL K H p (σ.map .str))/\σ.length<64/\ ∀q ss,H q=none->ss.Perm σ->sortedS ss=true->Q (.ref q) (upd H q (.lst (ss.map .str)))
def lX(x:X.calm=true):CallR X (.builtin "sorted") (uc X.prog X.w X.K):=by intro pins s σ H xs us Q I r h;let⟨p,A,rfl,a,f,q⟩:=h;let⟨u,rfl,l⟩:=eI r;cases l;rcases a with a|a;let⟨d,_,_⟩:=I.hok p _ a;refine _S.sorted_set (I.ok.hd x) d f λi out ss e h' z tk c v g j hs t=>?_;have n:ss.length<64:=by{rw[j.length_eq];exact f};refine{.ref i,_,I.laidD (t':=tk) (d':=z) (o:=.lst (ss.map .str)) t c {?_,out,e,eQ g,v},rfl,q i ss (I.hok.fresh c) j hs};rw[abR,sizeLine_eq];nofun;let⟨its,r',pl,m⟩:=I.list a;have d:=eR r';have k:=StrsAre.len d;refine sorted_strs pl.isList d () λout ss h1 h2 y=>?_;let⟨e,w⟩:=sortedAll_at s.1 its out;have n:ss.length<64:=by{rw[h2.length_eq];exact f};refine{.ref (s.1.1.size+1),_,I.laid (t':=s.toks) (o:=.lst (ss.map .str)) (λb o e=>sortedAll_old e) (aba _) {?_,out.toList,e,eQ h1,by rw[abt];exact w},rfl,q _ ss (I.hok.fresh (aba _)) h2 y};rw[abR,sizeLine_eq];nofun
def ra(K:X.calm=true):CallR X (.type "list") (λxs H Q=>∃p kvs,xs=[.ref p]/\Rd H p (.dK kvs)/\∀l,H l=none->Q (.ref l) (upd H l (.lst (kvs.map λkv=>kV kv.1)))):=by intro pins s σ H xs us Q I r h;let⟨p,kvs,rfl,B,q⟩:=h;let⟨u,rfl,E⟩:=eI r;cases E;obtain⟨w,L,vs,A,m⟩:kvs.length<=sizeLine/\(p==sysModules)=false/\∃vs,KV kvs vs/\s.1.DictOf (ay X.prog X.w) p vs:=B.ok I.hok;let⟨ep,n⟩:=m.dictAt;have y:kvs.length=vs.length:=aa9 A;refine PySem.W.kdl_call (PySem.W.kdl_dict (knd:=ay X.prog X.w) (kvs:=vs) (ep:=ep) L) (I.ok.hd K) n (by rw[←y];exact w) λh' tk c O J C f=>?_;have G:Vals (kvs.map λkv=>kV kv.1) c.toList:=by{have g:c.toList.length=kvs.length:=by{rw[acd,f.1,y]};have d:∀j v,c.toList[j]?=!v->∃k x,vs[j]?=!(k,x)/\kx k v=true:=λj v e=>f.2 j v (by rw[←acf];exact e);clear f C;generalize c.toList=us at g d;clear n m y w q B I;induction A generalizing us with|nil=>{cases us with|nil=>exact .nil|cons a b=>simp at g}|cons h1 h2 F=>cases us with|nil=>simp at g|cons a b=>refine .cons ?_ (F b (by exists g) λj v e=>by simpa using d (j+1) v (by exists e));let⟨k,x,D,N⟩:=d 0 a rfl;simp only[List.getElem?_cons_zero,Option.some.injEq]at D;subst D;have M:_=k:=h1.1;show RelV (kV _) a;rw[M];rcases aW N with ⟨i,t,rfl,rfl⟩|⟨z,t,rfl,rfl⟩;exact{(t),rfl};exact{(t),rfl}};exact{.ref s.1.1.size,_,I.laid (t':=tk) (o:=.lst (kvs.map λkv=>kV kv.1)) J (aab _) {by rw[abR];exact w,c.toList,O,G,by rw[abt];exact C},rfl,q _ (I.hok.fresh (aab _))}
def ud(K:Frag):↥V->Hp->VK->Prop:=λxs H Q=>(∃p ys,xs=[.ref p]/\(SqL K H p ys∨SqT K H p ys)/\∀l,H l=none->Q (.ref l) (upd H l (.lst ys)))∨∃p kvs,xs=[.ref p]/\Rd H p (.dK kvs)/\∀l,H l=none->Q (.ref l) (upd H l (.lst (kvs.map λa=>kV a.1)))
def ue(K:Frag):↥V->Hp->VK->Prop:=λxs H Q=>∃p ys,xs=[.ref p]/\((SqL K H p ys/\∀l,H l=none->Q (.ref l) (upd H l (.tup ys)))∨(SqT K H p ys/\Q (.ref p) H))
def EH(K:Frag)(a:X.calm=true)(h:X.K=K):BCall X (.type "list") (ud K):=by subst h;exact{lP.or (ra a)}
def yS(K:Frag)(h:X.K=K):BCall X (.type "tuple") (ue K):=by subst h;exact{(kC)}
def JM(P:Program)(w:World)(K:Frag)(b:X.calm=true)(c:X.prog=P)(a:X.w=w)(h:X.K=K):BCall X (.type "set") (MQ P w K):=by subst h c a;exact{ub b}
def EI{o i value:Expr}{td:TE}{pos':Pos}(b:X.A.units+1<cLine)(c:BE X o td)(hi:BE X i ty)(a:BE X value tv)(hs:swapsWith value ↑(.Subscript o i pos') pos.line X.env=pure false):BS X (.Assign [.Subscript o i pos'] value pos) (yb td ty tv):=-{DR b c.h hi.h a.h hs}
def EJ{T F:↥Str}{scope:Scope}{elt tg iter:Expr}{ifs:↥Expr}{py a:Pos}(k:X.calm=true)(S:CompScope X T F ixs scope)(hi:BI X tg iter wi)(e:∀C s H fp,BG (bE X (T++F) scope (aL X.env scope.names []) C s H fp) tg g)(d:∀C s H fp,BIf (bE X (T++F) scope (aL X.env scope.names []) C s H fp) ifs tc)(j:∀C s H fp,BE (bE X (T++F) scope (aL X.env scope.names []) C s H fp) elt te)(hs:∀x,foldedSetIterable iter X.env x=pure x)(l:X.N.Nodup)(c:X.N[i]?=!y)(hx:Loc X.env.scope y)(b:swapsWith (.ListComp elt [{(tg),iter,ifs,0}] scope pos) ↑(.Name y py) a.line X.env=pure true)(f:X.fn y=true∨X.env.scope.names.lookup y=!.local):BS X (.Assign [.Name y py] (.ListComp elt [{(tg),iter,ifs,0}] scope pos) a) (qE (eP T.length ixs wi g tc te) (fG i)):=- {D0 k S hi.h (λC s H fp=>(e C s H fp).h) (λC s H fp=>(d C s H fp).h) (λC s H fp=>(j C s H fp).h) hs l c hx b f}
def NK{α:Type}{x:α}{r:↥α}:atI (x::r) (0:Int)=!x:=-cV (j:=0) rfl
def JN(K:Frag)(mg:Str->Option Value)(x:Str)(xs:↥V):Prop:=∃a,mg x=!(.ref a)/\∀H,SqT K H a xs
def uf{K:Frag}{ys:↥V}(h:SqL K H p ys)(q:∀l,H l=none->Q (.ref l) (upd H l (.lst ys))):ud K [.ref p] H Q:=-.inl {p,ys,rfl,.inl h,q}
def ug{K:Frag}{ys:↥V}(h:SqT K H p ys)(q:∀l,H l=none->Q (.ref l) (upd H l (.lst ys))):ud K [.ref p] H Q:=-.inl {p,ys,rfl,.inr h,q}
def rb{K:Frag}{kvs:↥(Key×V)}(h:Rd H p (.dK kvs))(q:∀l,H l=none->Q (.ref l) (upd H l (.lst (kvs.map λkv=>kV kv.1)))):ud K [.ref p] H Q:=-.inr {(p),kvs,rfl,h,q}
def rc{K:Frag}{ys:↥V}(h:SqL K H p ys)(q:∀l,H l=none->Q (.ref l) (upd H l (.tup ys))):ue K [.ref p] H Q:=-{p,ys,rfl,.inl {(h),q}}
def gU(h:zs.Nodup):(_S.dedup1 zs z).Nodup:=by unfold _S.dedup1;split;exact h;rename_i a;exact _S.nodup_snoc h a
def gH:y∈_S.dedup1 zs z↔y∈zs∨y=z:=by unfold _S.dedup1;split;rename_i a;exact{.inl,λh=>h.elim id λe=>e ▸ a};simp
def re(zs:↥Str)(z:Str):zs.length<=(_S.dedup1 zs z).length/\(_S.dedup1 zs z).length<=zs.length+1/\1<=(_S.dedup1 zs z).length:=by unfold _S.dedup1;split;rename_i a;exact{aab _,aba _,abF a};simp
inductive D where
 |non|bl (b:Bool)|int (i:Int)|str (x:Str)|lst (xs:↥D)|tup (xs:↥D)|dct (ks:↥Key) (xs:↥D)|ty (T:String)|opq (a:Addr) (n:Nat)|gt (xs:↥D)|dt (ks:↥↥Key) (xs:↥D)
variable{d e:D}{ds as:↥D}{gD:Int->Int->D}
def plKV:Key×V->Bool|(.inr z,.int i)=>decide (z.length<=20)&&z.cps.toList.all (λc=>decide (c<16 ^ 8))&&decide (i.natAbs.log2<20)&&decide ((PySem.PyData.shown (.int i)).length<=8)|_=>false
mutual
inductive Den(K:Frag)(F:Hp):V->D->Prop where
 |non:Den K F .non .non
 |bl (b:Bool):Den K F (.bl b) (.bl b)
 |int (i:Int):Den K F (.int i) (.int i)
 |str (x:Str):Den K F (.str x) (.str x)
 |ty (T:String):Den K F (.ty T) (.ty T)
 |lst {a:Addr} {xs:↥V} {ds:↥D}:SqL K F a xs->Dens K F xs ds->Den K F (.ref a) (.lst ds)
 |tup {a:Addr} {xs:↥V} {ds:↥D}:F a=!(.tup xs)->Dens K F xs ds->Den K F (.ref a) (.tup ds)
 |dct {a:Addr} {ys:↥(Key×V)} {ks:↥Key} {ds:↥D}:Rd F a (.dK ys)->ys.map (·.1)=ks->Dens K F (ys.map (·.2)) ds->Den K F (.ref a) (.dct ks ds)
 |opq {a:Addr} {ys:↥(Key×V)} {n:Nat}:Rd F a (.dK ys)->ys.length=n->ys.all plKV=true->Den K F (.ref a) (.opq a n)
 |gt {a:Addr} {xs:↥V} {ds:↥D}:SqT K F a xs->Dens K F xs ds->Den K F (.ref a) (.gt ds)
 |dt {a:Addr} {ys:↥(↥Key×V)} {ks:↥↥Key} {ds:↥D}:Rd F a (.dT ys)->ys.map (·.1)=ks->Dens K F (ys.map (·.2)) ds->Den K F (.ref a) (.dt ks ds)
inductive Dens(K:Frag)(F:Hp):↥V->↥D->Prop where
 |nil:Dens K F [] []
 |cons {x:V} {d:D} {xs:↥V} {ds:↥D}:Den K F x d->Dens K F xs ds->Dens K F (x::xs) (d::ds)
end
def Same.rd{u:HO}(e:Same F F')(h:Rd F a u):Rd F' a u:=-h.elim (λh=>.inl (e _ _ h)) fun⟨o,h⟩=>.inr {o,e _ _ h}
def Den.mono{K:Frag}(e:Same F F')(h:Den K F v d):Den K F' v d:=- Den.rec (motive_1:=λv d _=>Den K F' v d) (motive_2:=λv d _=>Dens K F' v d) .non .bl .int .str .ty (λh _ t=>.lst (e.seq h) t) (λh _ t=>.tup (e _ _ h) t) (λh k _ t=>.dct (e.rd h) k t) (λh k p=>.opq (e.rd h) k p) (λh _ t=>.gt (h.same e) t) (λh k _ t=>.dt (e.rd h) k t) .nil (λ_ _ h t=>.cons h t) h
def Dens.mono{K:Frag}(e:Same F F'){v:↥V}{d:↥D}(h:Dens K F v d):Dens K F' v d:=- Dens.rec (motive_1:=λ_ _ _=>True) (motive_2:=λv d _=>Dens K F' v d) trivial (λ_=>trivial) (λ_=>trivial) (λ_=>trivial) (λ_=>trivial) (λ_ _ _=>trivial) (λ_ _ _=>trivial) (λ_ _ _ _=>trivial) (λ_ _ _=>trivial) (λ_ _ _=>trivial) (λ_ _ _ _=>trivial) .nil (λh _ _ t=>.cons (h.mono e) t) h
section
variable{K:Frag}
def Dens.length{xs:↥V}{ds:↥D}(h:Dens K F xs ds):xs.length=ds.length:=- Dens.rec (motive_1:=λ_ _ _=>True) (motive_2:=λxs ds _=>xs.length=ds.length) trivial (λ_=>trivial) (λ_=>trivial) (λ_=>trivial) (λ_=>trivial) (λ_ _ _=>trivial) (λ_ _ _=>trivial) (λ_ _ _ _=>trivial) (λ_ _ _=>trivial) (λ_ _ _=>trivial) (λ_ _ _ _=>trivial) rfl (λ_ _ _ t=>congrArg (·+1) t) h
theorem Dens.get:∀{xs:↥V}{ds:↥D}{i:Nat}{d:D},Dens K F xs ds->ds[i]?=!d->∃x,xs[i]?=!x/\Den K F x d|_,_,_,_,.nil,e=>by simp at e|_,_,0,_,.cons h _,e=>by simp at e;subst e;exact{_,rfl,h}|_,_,i+1,d,.cons h t,e=>by let⟨x,h1,h2⟩:=Dens.get (i:=i) (d:=d) t (by exists e);exact{x,(by exists h1),h2}
theorem Dens.get':∀{xs:↥V}{ds:↥D}{i:Nat}{x:V},Dens K F xs ds->xs[i]?=!x->∃d,ds[i]?=!d/\Den K F x d|_,_,_,_,.nil,e=>by simp at e|_,_,0,_,.cons h _,e=>by simp at e;subst e;exact{_,rfl,h}|_,_,i+1,d,.cons h t,e=>by let⟨x,h1,h2⟩:=Dens.get' (i:=i) (x:=d) t (by exists e);exact{x,(by exists h1),h2}
def Dens.append{ys:↥V}{es:↥D}(h:Dens K F xs ds)(s:Dens K F ys es):Dens K F (xs++ys) (ds++es):=- Dens.rec (motive_1:=λ_ _ _=>True) (motive_2:=λxs ds _=>Dens K F (xs++ys) (ds++es)) trivial (λ_=>trivial) (λ_=>trivial) (λ_=>trivial) (λ_=>trivial) (λ_ _ _=>trivial) (λ_ _ _=>trivial) (λ_ _ _ _=>trivial) (λ_ _ _=>trivial) (λ_ _ _=>trivial) (λ_ _ _ _=>trivial) s (λh _ _ t=>.cons h t) h
theorem Dens.take:∀{xs:↥V}{ds:↥D}(n:Nat),Dens K F xs ds->Dens K F (xs.take n) (ds.take n)|_,_,0,_=>.nil|_,_,_+1,.nil=>.nil|_,_,n+1,.cons r t=>.cons r (Dens.take n t)
theorem Dens.drop:∀{xs:↥V}{ds:↥D}(n:Nat),Dens K F xs ds->Dens K F (xs.drop n) (ds.drop n)|_,_,0,r=>r|_,_,_+1,.nil=>.nil|_,_,n+1,.cons r t=>Dens.drop n t
theorem Dens.set{x:V}{d:D}(r:Den K F x d):∀{xs:↥V}{ds:↥D}(i:Nat),Dens K F xs ds->Dens K F (xs.set i x) (ds.set i d)|_,_,_,.nil=>.nil|_,_,0,.cons _ t=>.cons r t|_,_,i+1,.cons q t=>.cons q (Dens.set r i t)
def Dens.snoc{x:V}(h:Dens K F xs ds)(q:Den K F x d):Dens K F (xs++[x]) (ds++[d]):=-h.append (.cons q .nil)
theorem Dens.reverse:∀{xs:↥V}{ds:↥D},Dens K F xs ds->Dens K F xs.reverse ds.reverse|_,_,.nil=>.nil|_,_,.cons r t=>by rw[aaW,aaW];exact(Dens.reverse t).snoc r
theorem Dens.strs:∀(zs:↥Str),Dens K F (zs.map V.str) (zs.map D.str)|[]=>.nil|z::zs=>.cons (.str z) (Dens.strs zs)
theorem Dens.ints:∀(zs:↥Int),Dens K F (zs.map V.int) (zs.map D.int)|[]=>.nil|z::zs=>.cons (.int z) (Dens.ints zs)
def Den.str_eq(h:Den K F v (.str z)):v=.str z:=by cases h;rfl
def Den.int_eq{z:Int}(h:Den K F v (.int z)):v=.int z:=by cases h;rfl
def Den.bl_eq{z:Bool}(h:Den K F v (.bl z)):v=.bl z:=by cases h;rfl
def Den.non_eq(h:Den K F v .non):v=.non:=by cases h;rfl
theorem Dens.strs_eq:∀{zs:↥Str}{xs:↥V},Dens K F xs (zs.map D.str)->xs=zs.map V.str|[],_,.nil=>rfl|z::zs,_,.cons h t=>by rw[h.str_eq,Dens.strs_eq t];rfl
theorem Dens.bls_eq:∀{zs:↥Bool}{xs:↥V},Dens K F xs (zs.map D.bl)->xs=zs.map V.bl|[],_,.nil=>rfl|z::zs,_,.cons h t=>by rw[h.bl_eq,Dens.bls_eq t];rfl
end
mutual
def m9:D->DV|.non=>.non|.bl b=>.bl b|.int i=>.int i|.str x=>.str x|.lst xs=>.lst (toDVs xs)|.tup xs=>.tup (toDVs xs)|.dct _ _=>.non|.ty _=>.non|.opq _ _=>.non|.gt _=>.non|.dt _ _=>.non
def toDVs:↥D->↥DV|[]=>[]|d::ds=>m9 d::toDVs ds
end
mutual
def okD:D->Bool|.lst xs=>okDs xs|.tup xs=>okDs xs|.dct _ _=>false|.ty _=>false|.opq _ _=>false|.gt _=>false|.dt _ _=>false|_=>true
def okDs:↥D->Bool|[]=>true|d::ds=>okD d&&okDs ds
end
def Den.deep{K:Frag}(h:Den K H v d):okD d=true->Deep K H v (m9 d):=- Den.rec (motive_1:=λv d _=>okD d=true->Deep K H v (m9 d)) (motive_2:=λv d _=>okDs d=true->Deeps K H v (toDVs d)) (λ_=>.non) (λb _=>.bl b) (λb _=>.int b) (λb _=>.str b) (λ_ o=>nomatch o) (λh _ t o=>.lst h (t o)) (λh _ t o=>.tup (SqT.of h) (t o)) (λ_ _ _ _ o=>nomatch o) (λ_ _ _ o=>nomatch o) (λ_ _ _ o=>nomatch o) (λ_ _ _ _ o=>nomatch o) (λ_=>.nil) (λ_ _ h t o=>.cons (h (ab8.mp o).1) (t (ab8.mp o).2)) h
def Dens.deep{K:Frag}{v:↥V}{d:↥D}(h:Dens K H v d):okDs d=true->Deeps K H v (toDVs d):=- Dens.rec (motive_1:=λ_ _ _=>True) (motive_2:=λv d _=>okDs d=true->Deeps K H v (toDVs d)) trivial (λ_=>trivial) (λ_=>trivial) (λ_=>trivial) (λ_=>trivial) (λ_ _ _=>trivial) (λ_ _ _=>trivial) (λ_ _ _ _=>trivial) (λ_ _ _=>trivial) (λ_ _ _=>trivial) (λ_ _ _ _=>trivial) (λ_=>.nil) (λh _ _ t o=>.cons (h.deep (ab8.mp o).1) (t (ab8.mp o).2)) h
def dEq(d e:D):Bool:=deq (m9 d) (m9 e)
inductive FV where
 |fz (d:D)|fl (a:Addr) (ds:↥D)|fd (a:Addr) (ks:↥Key) (ds:↥D)|ft (a:Addr) (ks:↥↥Key) (ds:↥D)
def EK:Nat->Str|0=> "Asking"|1=> "Reader"|_=> "Desk"
def cD:Nat->↥Str|0=>["form","name","place","at","turn","steps","done","length"]|_=>[]
structure Oo where
 a:Addr
 c:Nat
 ps:↥FV
inductive OV where
 |fz (d:D)|fl (ds:↥D)|fd (ks:↥Key) (ds:↥D)|ft (ks:↥↥Key) (ds:↥D)|ot (ps:↥FV)|ob (o:Oo)|obs (xs:↥Oo)|obh (xs:↥Oo) (a:Addr)|ol (ps:↥FV)|olh (ps:↥FV) (k:Nat) (b:Addr)
variable{o:OV}{P:OV->Prop}{f:D->D->(OV->Prop)->Prop}
inductive Fw(K:Frag)(F H:Hp):V->FV->↥Addr->Prop where
 |fz {v:V} {d:D}:Den K F v d->Fw K F H v (.fz d) []
 |fl {a:Addr} {xs:↥V} {ds:↥D}:H a=!(.lst xs)->Dens K F xs ds->Fw K F H (.ref a) (.fl a ds) [a]
 |fd {a:Addr} {ys:↥(Key×V)} {ks:↥Key} {ds:↥D}:H a=!(.dK ys)->ys.map (·.1)=ks->Dens K F (ys.map (·.2)) ds->Fw K F H (.ref a) (.fd a ks ds) [a]
 |ft {a:Addr} {ys:↥(↥Key×V)} {ks:↥↥Key} {ds:↥D}:H a=!(.dT ys)->ys.map (·.1)=ks->Dens K F (ys.map (·.2)) ds->Fw K F H (.ref a) (.ft a ks ds) [a]
inductive Fws(K:Frag)(F H:Hp):↥V->↥FV->↥Addr->Prop where
 |nil:Fws K F H [] [] []
 |cons {x:V} {o:FV} {xs:↥V} {os:↥FV} {A B:↥Addr}:Fw K F H x o A->Fws K F H xs os B->Fws K F H (x::xs) (o::os) (A++B)
inductive Ob(K:Frag)(F H:Hp):V->Oo->↥Addr->Prop where
 |mk {a C dx:Addr} {c:Nat} {fs:↥(Str×V)} {ps:↥FV} {A:↥Addr}:H a=!(.ins C dx fs)->PySem.W.nsIn K mainGlobals (EK c)=!!(.ref C)->fs.map (·.1)=(cD c).take ps.length->ps.length<=(cD c).length->Fws K F H (fs.map (·.2)) ps A->Ob K F H (.ref a) ⟨a,c,ps⟩ (a::A)
inductive Obs(K:Frag)(F H:Hp):↥V->↥Oo->↥Addr->Prop where
 |nil:Obs K F H [] [] []
 |cons {x:V} {o:Oo} {xs:↥V} {os:↥Oo} {A B:↥Addr}:Ob K F H x o A->Obs K F H xs os B->Obs K F H (x::xs) (o::os) (A++B)
inductive Ow(K:Frag)(F H:Hp):V->OV->↥Addr->Prop where
 |fz {v:V} {d:D}:Den K F v d->Ow K F H v (.fz d) []
 |fl {a:Addr} {xs:↥V} {ds:↥D}:H a=!(.lst xs)->Dens K F xs ds->Ow K F H (.ref a) (.fl ds) [a]
 |fd {a:Addr} {ys:↥(Key×V)} {ks:↥Key} {ds:↥D}:H a=!(.dK ys)->ys.map (·.1)=ks->Dens K F (ys.map (·.2)) ds->Ow K F H (.ref a) (.fd ks ds) [a]
 |ft {a:Addr} {ys:↥(↥Key×V)} {ks:↥↥Key} {ds:↥D}:H a=!(.dT ys)->ys.map (·.1)=ks->Dens K F (ys.map (·.2)) ds->Ow K F H (.ref a) (.ft ks ds) [a]
 |ot {a:Addr} {xs:↥V} {ps:↥FV} {A:↥Addr}:F a=!(.tup xs)->Fws K F H xs ps A->Ow K F H (.ref a) (.ot ps) A
 |ob {v:V} {o:Oo} {A:↥Addr}:Ob K F H v o A->Ow K F H v (.ob o) A
 |obs {a:Addr} {xs:↥V} {os:↥Oo} {A:↥Addr}:H a=!(.lst xs.reverse)->Obs K F H xs os A->Ow K F H (.ref a) (.obs os) (a::A)
 |obh {a b:Addr} {xs:↥V} {os:↥Oo} {A:↥Addr}:H a=!(.lst (.ref b::xs).reverse)->Obs K F H xs os A->Ow K F H (.ref a) (.obh os b) (a::A)
 |ol {a:Addr} {xs:↥V} {ps:↥FV} {A:↥Addr}:H a=!(.lst xs)->Fws K F H xs ps A->Ow K F H (.ref a) (.ol ps) (a::A)
 |olh {a b:Addr} {k:Nat} {xs:↥V} {ps:↥FV} {A:↥Addr}:H a=!(.lst xs)->xs[k]?=!(.ref b)->Fws K F H (xs.set k .non) (ps.set k (.fz .non)) A->Ow K F H (.ref a) (.olh ps k b) (a::A)
section
variable{K:Frag}
def Fw.keep(e:Same F F'){o:FV}(h:Fw K F H v o A)(k:∀a u,a∈A->H a=!u->H' a=!u):Fw K F' H' v o A:=by cases h with|fz h=>exact .fz (h.mono e)|fl h t=>exact .fl (k _ _ (aac ..) h) (t.mono e)|fd h q t=>exact .fd (k _ _ (aac ..) h) q (t.mono e)|ft h q t=>exact .ft (k _ _ (aac ..) h) q (t.mono e)
def Fws.keep(e:Same F F'){v:↥V}{o:↥FV}(h:Fws K F H v o A)(k:∀a u,a∈A->H a=!u->H' a=!u):Fws K F' H' v o A:=by induction h with|nil=>exact .nil|cons h t c=>exact .cons (h.keep e λa u b=>k a u (aax _ b)) (c λa u b=>k a u (aal _ b))
def Ob.keep(e:Same F F'){o:Oo}(h:Ob K F H v o A)(k:∀a u,a∈A->H a=!u->H' a=!u):Ob K F' H' v o A:=by cases h with|mk h c n l t=>exact .mk (k _ _ (aac ..) h) c n l (t.keep e λa u b=>k a u (aad _ b))
def Obs.keep(e:Same F F'){v:↥V}{o:↥Oo}(h:Obs K F H v o A)(k:∀a u,a∈A->H a=!u->H' a=!u):Obs K F' H' v o A:=by induction h with|nil=>exact .nil|cons h t c=>exact .cons (h.keep e λa u b=>k a u (aax _ b)) (c λa u b=>k a u (aal _ b))
def Fw.live{o:FV}(h:Fw K F H v o A):∀a∈A,∃u,H a=!u:=by cases h with|fz h=>exact λ_ z=>nomatch z|fl h t=>exact λb z=>{_,abY.mp z ▸ h}|fd h q t=>exact λb z=>{_,abY.mp z ▸ h}|ft h q t=>exact λb z=>{_,abY.mp z ▸ h}
def Fws.live{v:↥V}{o:↥FV}(h:Fws K F H v o A):∀a∈A,∃u,H a=!u:=by induction h with|nil=>exact λ_ z=>nomatch z|cons h t c=>exact λb z=>(abS.mp z).elim (h.live b) (c b)
def Ob.live{o:Oo}(h:Ob K F H v o A):∀a∈A,∃u,H a=!u:=by cases h with|mk h c n l t=>exact λb z=>(ab2.mp z).elim (λz=>{_,z ▸ h}) (t.live b)
def Obs.live{v:↥V}{o:↥Oo}(h:Obs K F H v o A):∀a∈A,∃u,H a=!u:=by induction h with|nil=>exact λ_ z=>nomatch z|cons h t c=>exact λb z=>(abS.mp z).elim (h.live b) (c b)
end
inductive Ows(K:Frag)(F H:Hp):↥V->↥OV->↥Addr->Prop where
 |nil:Ows K F H [] [] []
 |cons {x:V} {o:OV} {xs:↥V} {os:↥OV} {A B:↥Addr}:Ow K F H x o A->Ows K F H xs os B->Ows K F H (x::xs) (o::os) (A++B)
def Ow.keep{K:Frag}(e:Same F F')(h:Ow K F H v o A)(k:∀a u,a∈A->H a=!u->H' a=!u):Ow K F' H' v o A:=by cases h with|fz h=>exact .fz (h.mono e)|fl h t=>exact .fl (k _ _ (aac ..) h) (t.mono e)|fd h q t=>exact .fd (k _ _ (aac ..) h) q (t.mono e)|ft h q t=>exact .ft (k _ _ (aac ..) h) q (t.mono e)|ot h t=>exact .ot (e _ _ h) (t.keep e k)|ob h=>exact .ob (h.keep e k)|obs h t=>exact .obs (k _ _ (aac ..) h) (t.keep e λa u b=>k a u (aad _ b))|obh h t=>exact .obh (k _ _ (aac ..) h) (t.keep e λa u b=>k a u (aad _ b))|ol h t=>exact .ol (k _ _ (aac ..) h) (t.keep e λa u b=>k a u (aad _ b))|olh h g t=>exact .olh (k _ _ (aac ..) h) g (t.keep e λa u b=>k a u (aad _ b))
def Ows.keep{K:Frag}(e:Same F F'){v:↥V}{o:↥OV}(h:Ows K F H v o A)(k:∀a u,a∈A->H a=!u->H' a=!u):Ows K F' H' v o A:=by induction h with|nil=>exact .nil|cons h t c=>exact .cons (h.keep e λa u b=>k a u (aax _ b)) (c λa u b=>k a u (aal _ b))
def Ow.live{K:Frag}(h:Ow K F H v o A):∀a∈A,∃u,H a=!u:=by cases h with|fz h=>exact λ_ z=>nomatch z|fl h t=>exact λb z=>{_,abY.mp z ▸ h}|fd h q t=>exact λb z=>{_,abY.mp z ▸ h}|ft h q t=>exact λb z=>{_,abY.mp z ▸ h}|ot h t=>exact t.live|ob h=>exact h.live|obs h t=>exact λb z=>(ab2.mp z).elim (λz=>{_,z ▸ h}) (t.live b)|obh h t=>exact λb z=>(ab2.mp z).elim (λz=>{_,z ▸ h}) (t.live b)|ol h t=>exact λb z=>(ab2.mp z).elim (λz=>{_,z ▸ h}) (t.live b)|olh h g t=>exact λb z=>(ab2.mp z).elim (λz=>{_,z ▸ h}) (t.live b)
def Ows.live{K:Frag}{v:↥V}{o:↥OV}(h:Ows K F H v o A):∀a∈A,∃u,H a=!u:=by induction h with|nil=>exact λ_ z=>nomatch z|cons h t c=>exact λb z=>(abS.mp z).elim (h.live b) (c b)
def NT(H:Hp)(A:↥Addr):Prop:=∀a∈A,∀xs,H a≠!(.tup xs)
def NT.nil:NT H []:=-λ_ z=>nomatch z
def NT.one{o:HO}(h:H a=!o)(n:∀xs,o≠.tup xs)(t:NT H A):NT H (a::A):=-λb c xs z=>(ab2.mp c).elim (λy=>n xs (aak (h.symm.trans (y ▸ z)))) (λy=>t b y xs z)
def NT.app(s:NT H A)(t:NT H B):NT H (A++B):=-λb a=>(abS.mp a).elim (s b) (t b)
section
variable{K:Frag}
def Fw.nt{o:FV}(h:Fw K F H v o A):NT H A:=by cases h with|fz h=>exact .nil|fl h t=>exact .one h (λ_ z=>nomatch z) .nil|fd h q t=>exact .one h (λ_ z=>nomatch z) .nil|ft h q t=>exact .one h (λ_ z=>nomatch z) .nil
def Fws.nt{v:↥V}{o:↥FV}(h:Fws K F H v o A):NT H A:=by induction h with|nil=>exact .nil|cons h t a=>exact h.nt.app a
def Ob.nt{o:Oo}(h:Ob K F H v o A):NT H A:=by cases h with|mk h c n l t=>exact .one h (λ_ z=>nomatch z) t.nt
def Obs.nt{v:↥V}{o:↥Oo}(h:Obs K F H v o A):NT H A:=by induction h with|nil=>exact .nil|cons h t a=>exact h.nt.app a
def Ow.nt(h:Ow K F H v o A):NT H A:=by cases h with|fz h=>exact .nil|fl h t=>exact .one h (λ_ z=>nomatch z) .nil|fd h q t=>exact .one h (λ_ z=>nomatch z) .nil|ft h q t=>exact .one h (λ_ z=>nomatch z) .nil|ot h t=>exact t.nt|ob h=>exact h.nt|obs h t=>exact .one h (λ_ z=>nomatch z) t.nt|obh h t=>exact .one h (λ_ z=>nomatch z) t.nt|ol h t=>exact .one h (λ_ z=>nomatch z) t.nt|olh h g t=>exact .one h (λ_ z=>nomatch z) t.nt
end
def iZ:FV->D|.fz d=>d|.fl _ ds=>.lst ds|.fd _ ks ds=>.dct ks ds|.ft _ ks ds=>.dt ks ds
def EL:OV->Option D|.fz d=>!d|.fl ds=>!(.lst ds)|.fd ks ds=>!(.dct ks ds)|.ft ks ds=>!(.dt ks ds)|.ot ps=>!(.tup (ps.map iZ))|_=>none
def Fw.freeze{K:Frag}(e:Same F F'){o:FV}(h:Fw K F H v o A)(k:∀a u,a∈A->H a=!u->F' a=!u):Den K F' v (iZ o):=by cases h with|fz h=>exact h.mono e|fl h t=>exact .lst (SqL.of (k _ _ (aac ..) h)) (t.mono e)|fd h q t=>exact .dct (.inl (k _ _ (aac ..) h)) q (t.mono e)|ft h q t=>exact .dt (.inl (k _ _ (aac ..) h)) q (t.mono e)
def Fws.freeze{K:Frag}(e:Same F F'){v:↥V}{o:↥FV}(h:Fws K F H v o A)(k:∀a u,a∈A->H a=!u->F' a=!u):Dens K F' v (o.map iZ):=by induction h with|nil=>exact .nil|cons h t c=>exact .cons (h.freeze e λa u b=>k a u (aax _ b)) (c λa u b=>k a u (aal _ b))
def Ow.freeze{K:Frag}(e:Same F F')(h:Ow K F H v o A)(k:∀a u,a∈A->H a=!u->F' a=!u)(hd:EL o=!d):Den K F' v d:=by cases h with|fz h=>cases hd;exact h.mono e|fl h t=>cases hd;exact .lst (SqL.of (k _ _ (aac ..) h)) (t.mono e)|fd h q t=>cases hd;exact .dct (.inl (k _ _ (aac ..) h)) q (t.mono e)|ft h q t=>cases hd;exact .dt (.inl (k _ _ (aac ..) h)) q (t.mono e)|ot h t=>cases hd;exact .tup (e _ _ h) (t.freeze e k)|_=>cases hd
def flat:OV->Option D|.fz d=>!d|.fl ds=>!(.lst ds)|.fd ks ds=>!(.dct ks ds)|.ft ks ds=>!(.dt ks ds)|_=>none
inductive Acc(K:Frag)(F H:Hp):V->D->Prop where
 |fz {v:V} {d:D}:Den K F v d->Acc K F H v d
 |lst {a:Addr} {xs:↥V} {ds:↥D}:H a=!(.lst xs)->Dens K F xs ds->Acc K F H (.ref a) (.lst ds)
 |dct {a:Addr} {ys:↥(Key×V)} {ks:↥Key} {ds:↥D}:H a=!(.dK ys)->ys.map (·.1)=ks->Dens K F (ys.map (·.2)) ds->Acc K F H (.ref a) (.dct ks ds)
 |dt {a:Addr} {ys:↥(↥Key×V)} {ks:↥↥Key} {ds:↥D}:H a=!(.dT ys)->ys.map (·.1)=ks->Dens K F (ys.map (·.2)) ds->Acc K F H (.ref a) (.dt ks ds)
section
variable{K:Frag}
def Ow.acc(h:Ow K F H v o A)(e:flat o=!d):Acc K F H v d:=by cases h with|fz h=>simp only[flat,Option.some.injEq]at e;subst e;exact .fz h|fl h t=>simp only[flat,Option.some.injEq]at e;subst e;exact .lst h t|fd h q t=>simp only[flat,Option.some.injEq]at e;subst e;exact .dct h q t|ft h q t=>cases e;exact .dt h q t|_=>cases e
def Acc.den(e:Same F H)(h:Acc K F H v d):Den K H v d:=by cases h with|fz h=>exact h.mono e|lst h t=>exact .lst (SqL.of h) (t.mono e)|dct h k t=>exact .dct (.inl h) k (t.mono e)|dt h k t=>exact .dt (.inl h) k (t.mono e)
def Acc.asL(e:Same F H)(h:Acc K F H v (.lst ds)):∃a xs,v=.ref a/\SqL K H a xs/\Dens K F xs ds:=by cases h with|fz h=>{cases h with|lst h t=>exact{_,_,rfl,e.seq h,t}}|lst h t=>exact{_,_,rfl,SqL.of h,t}
def Acc.asT(e:Same F H)(h:Acc K F H v (.tup ds)):∃a xs,v=.ref a/\SqT K H a xs/\Dens K F xs ds:=by cases h with|fz h=>cases h with|tup h t=>exact{_,_,rfl,SqT.of (e _ _ h),t}
def Acc.asD(e:Same F H)(h:Acc K F H v (.dct ks ds)):∃a ys,v=.ref a/\Rd H a (.dK ys)/\ys.map (·.1)=ks/\Dens K F (ys.map (·.2)) ds:=by cases h with|fz h=>{cases h with|dct h k t=>exact{_,_,rfl,e.rd h,k,t}}|dct h k t=>exact{_,_,rfl,.inl h,k,t}
def Acc.asTH(e:Same F H)(h:Acc K F H v (.tup ds)):∃a xs,v=.ref a/\H a=!(.tup xs)/\Dens K F xs ds:=by cases h with|fz h=>cases h with|tup h t=>exact{_,_,rfl,e _ _ h,t}
def Acc.asG(e:Same F H)(h:Acc K F H v (.gt ds)):∃a xs,v=.ref a/\SqT K H a xs/\Dens K F xs ds:=by cases h with|fz h=>cases h with|gt h t=>exact{_,_,rfl,h.same e,t}
def Acc.asDT{ks:↥↥Key}(e:Same F H)(h:Acc K F H v (.dt ks ds)):∃a ys,v=.ref a/\Rd H a (.dT ys)/\ys.map (·.1)=ks/\Dens K F (ys.map (·.2)) ds:=by cases h with|fz h=>{cases h with|dt h k t=>exact{_,_,rfl,e.rd h,k,t}}|dt h k t=>exact{_,_,rfl,.inl h,k,t}
def Acc.str_eq(h:Acc K F H v (.str z)):v=.str z:=by cases h with|fz h=>exact h.str_eq
def Acc.int_eq{z:Int}(h:Acc K F H v (.int z)):v=.int z:=by cases h with|fz h=>exact h.int_eq
def Acc.bl_eq{z:Bool}(h:Acc K F H v (.bl z)):v=.bl z:=by cases h with|fz h=>exact h.bl_eq
def Acc.non_eq(h:Acc K F H v .non):v=.non:=by cases h with|fz h=>exact h.non_eq
def Acc.ty_eq{T:String}(h:Acc K F H v (.ty T)):v=.ty T:=by cases h with|fz h=>cases h;rfl
end
abbrev FSt:=↥(Option OV)
variable{ρ:FSt}
inductive Slots(K:Frag)(F H:Hp):St->FSt->↥Addr->Prop where
 |nil:Slots K F H [] [] []
 |skip {x:Option V} {σ:St} {ρ:FSt} {A:↥Addr}:Slots K F H σ ρ A->Slots K F H (x::σ) (none::ρ) A
 |has {v:V} {o:OV} {σ:St} {ρ:FSt} {A B:↥Addr}:Ow K F H v o A->Slots K F H σ ρ B->Slots K F H (↑v::σ) (↑o::ρ) (A++B)
section
variable{K:Frag}
def Slots.keep(e:Same F F')(h:Slots K F H σ ρ A)(k:∀a u,a∈A->H a=!u->H' a=!u):Slots K F' H' σ ρ A:=by induction h with|nil=>exact .nil|skip t b=>exact .skip (b k)|has h t b=>exact .has (h.keep e λa u c=>k a u (aax _ c)) (b λa u c=>k a u (aal _ c))
def Slots.live(h:Slots K F H σ ρ A):∀a∈A,∃u,H a=!u:=by induction h with|nil=>exact λ_ z=>nomatch z|skip t c=>exact c|has h t c=>exact λb z=>(abS.mp z).elim (h.live b) (c b)
def Slots.nt(h:Slots K F H σ ρ A):NT H A:=by induction h with|nil=>exact .nil|skip _ a=>exact a|has h _ a=>exact h.nt.app a
def Slots.len(h:Slots K F H σ ρ A):σ.length=ρ.length:=by induction h with|nil=>rfl|skip t a=>exact congrArg (·+1) a|has _ t a=>exact congrArg (·+1) a
def Slots.take(h:Slots K F H σ ρ A)(e:ρ[i]?=!!o):∃v B A',σ[i]?=!!v/\Ow K F H v o B/\A.Perm (B++A')/\Slots K F H σ (ρ.set i none) A':=by induction h generalizing i with|nil=>cases e|skip t a=>{cases i with|zero=>cases e|succ i=>let⟨v,B,A',h1,h2,c,b⟩:=a (i:=i) e;exact{v,B,A',h1,h2,c,.skip b}}|@has _ _ _ _ C _ h t a=>cases i with|zero=>cases e;exact {_,_,_,rfl,h,aaE _,.skip t}|succ i=>let⟨v,B,A',h1,h2,c,b⟩:=a (i:=i) e;exact{v,B,C++A',h1,h2,(aa0 C c).trans (by rw[←aay,←aay];exact abi A' abn),.has h b}
def Slots.drop(i:Nat)(x:Option V)(h:Slots K F H σ ρ A):∃A' B,A.Perm (B++A')/\Slots K F H (σ.set i x) (ρ.set i none) A':=by induction h generalizing i with|nil=>exact{[],[],aaE _,.nil}|skip t a=>{cases i with|zero=>exact {_,[],aaE _,.skip t}|succ i=>let⟨A',B,h1,h2⟩:=a i;exact{A',B,h1,.skip h2}}|@has _ _ _ _ C _ h t a=>cases i with|zero=>exact {_,_,aaE _,.skip t}|succ i=>let⟨A',B,c,b⟩:=a i;exact{C++A',B,(aa0 C c).trans (by rw[←aay,←aay];exact abi A' abn),.has h b}
def Slots.put(s:Slots K F H σ ρ A)(e:ρ[i]?=!none)(b:σ[i]?=!!v)(h:Ow K F H v o B):∃A',A'.Perm (B++A)/\Slots K F H σ (ρ.set i !o) A':=by induction s generalizing i with|nil=>cases e|skip t a=>{cases i with|zero=>cases b;exact {_,aaE _,.has h t}|succ i=>let⟨A',h1,h2⟩:=a (i:=i) e b;exact{A',h1,.skip h2}}|@has _ _ _ _ C _ h' t a=>cases i with|zero=>cases e|succ i=>let⟨A',h1,h2⟩:=a (i:=i) e b;exact{C++A',(aa0 C h1).trans (by rw[←aay,←aay];exact abi _ abn),.has h' h2}
end
inductive RV where
 |ov (o:OV)|br (i:Nat)
variable{r:RV}
structure SameN(Z H:Hp):Prop where
 s:Same Z H
 n:∀a xs,Z a≠!(.tup xs)
def SameN.free(h:SameN Z H)(e:H a=none):Z a=none:=-h.s.free e
def SameN.trans(h:SameN Z H)(e:Same H H'):SameN Z H':=-{h.s.trans e,h.n}
def SameN.back{b:Hp}(h:SameN b H)(e:Same Z b):SameN Z H:=-{e.trans h.s,λa xs z=>h.n a xs (e a _ z)}
def SameN.none:SameN (λ_=>.none) H:=-{(λ_ _ z=>nomatch z),λ_ _ z=>nomatch z}
structure Rel(K:Frag)(F Z H:Hp)(σ:St)(ρ:FSt)(A:↥Addr):Prop where
 sl:Slots K F H σ ρ A
 nd:A.Nodup
 fr:∀a∈A,F a=none/\Z a=none
 fh:Same F H
 zh:SameN Z H
 dj:∀a o,F a=!o->Z a=none
def RV1(K:Frag)(F H:Hp)(σ:St)(v:V):RV->↥Addr->Prop|.ov o,B=>Ow K F H v o B|.br i,B=>σ[i]?=!!v/\B=[]
structure Fresh(F Z:Hp)(A B:↥Addr):Prop where
 nd:B.Nodup
 fr:∀b∈B,F b=none/\Z b=none/\b∉A
def Fresh.nil:Fresh F Z A []:=-{aaH,λ_ z=>nomatch z}
inductive RVL(K:Frag)(F H:Hp)(σ:St):↥V->↥RV->↥Addr->Prop where
 |nil:RVL K F H σ [] [] []
 |cons {v:V} {r:RV} {vs:↥V} {rs:↥RV} {A B:↥Addr}:RV1 K F H σ v r A->RVL K F H σ vs rs B->RVL K F H σ (v::vs) (r::rs) (A++B)
section
variable{K:Frag}
def RV1.keep(h:RV1 K F H σ v r B)(e:Same F F')(k:∀a u,a∈B->H a=!u->H' a=!u):RV1 K F' H' σ v r B:=by cases r with|ov o=>exact Ow.keep e h k|br i=>exact h
def RV1.live(h:RV1 K F H σ v r B):∀b∈B,∃u,H b=!u:=by cases r with|ov o=>exact Ow.live h|br i=>intro b a;rw[h.2]at a;cases a
def RV1.nt(h:RV1 K F H σ v r B):NT H B:=by cases r with|ov o=>exact Ow.nt h|br i=>intro b a;rw[h.2]at a;cases a
def RVL.keep(e:Same F F'){v:↥V}{r:↥RV}(h:RVL K F H σ v r B)(k:∀a u,a∈B->H a=!u->H' a=!u):RVL K F' H' σ v r B:=by induction h with|nil=>exact .nil|cons h t c=>exact .cons (h.keep e λa u b=>k a u (aax _ b)) (c λa u b=>k a u (aal _ b))
def mix(B:↥Addr)(H Z:Hp):∃G:Hp,(∀b,b∈B->G b=H b)/\∀b,b∉B->G b=Z b:=by
 classical
 exact{λb=>if b∈B then H b else Z b,λb a=>if_pos a,λb a=>if_neg a}
def Rel.hold(R:Rel K F Z H σ ρ A)(live:∀b∈B,∃u,H b=!u)(nt:NT H B)(f:Fresh F Z A B):∃i,Same Z i/\Rel K F i H σ ρ A/\(∀b∈B,∃u,i b=!u)/\ ∀l H2 g m,Same F l->Rel K l i H2 σ g m->Rel K l Z H2 σ g m/\Fresh l Z m B/\∀b u,b∈B->H b=!u->H2 b=!u:=by let⟨i,e,d⟩:=mix B H Z;refine{i,λb o h=>?_,{R.sl,R.nd,λa k=>{(R.fr a k).1,?_},R.fh,{λb o h=>?_,λb xs h=>?_},λa o h=>?_},λb c=>?_,λl H2 g m n R2=>?_};rw[d b λc=>by rw[(f.fr b c).2.1]at h;cases h];exact h;rw[d a λc=>(f.fr a c).2.2 k];exact(R.fr a k).2;by_cases c:b∈B;rw[e b c]at h;exact h;rw[d b c]at h;exact R.zh.s b o h;by_cases c:b∈B;rw[e b c]at h;exact nt b c xs h;rw[d b c]at h;exact R.zh.n b xs h;rw[d a λc=>by rw[(f.fr a c).1]at h;cases h];exact R.dj a o h;let⟨u,j⟩:=live b c;exact{u,by rw[e b c];exact j};have sz:Same Z i:=λb o h=>by{rw[d b λc=>by rw[(f.fr b c).2.1]at h;cases h];exact h};refine{{R2.sl,R2.nd,λa k=>{(R2.fr a k).1,sz.free (R2.fr a k).2},R2.fh,R2.zh.back sz,λa o h=>sz.free (R2.dj a o h)},{f.nd,λb c=>?_},λb u c j=>?_};let⟨u,j⟩:=live b c;refine{?_,(f.fr b c).2.1,λh=>?_};cases q:l b with|none=>rfl|some w=>{have:=R2.dj b w q;rw[e b c,j]at this;cases this};have:=(R2.fr b h).2;rw[e b c,j]at this;cases this;exact R2.zh.s b u (by rw[e b c];exact j)
structure Pure(F H F' H':Hp):Prop where
 ff:Same F F'
 hh:Same H H'
 fh:Same F' H'
 nw:∀a o,F' a=!o->F a=none->H a=none
def Pure.refl(e:Same F H):Pure F H F H:=-{Same.refl _,Same.refl _,e,λa o h n=>by rw[n]at h;cases h}
def Pure.new{o:HO}(e:Same F H)(b:H p=none):Pure F H F (upd H p o):=-{Same.refl _,bF b,e.trans (bF b),λa o h n=>by rw[n]at h;cases h}
def Pure.frz{p:Addr}{o:HO}(e:Same F H)(d:H p=none):Pure F H (upd F p o) (upd H p o):=by have f:F p=none:=e.free d;refine{bF f,bF d,λb u h=>?_,λa u h n=>?_};by_cases c:b=p;subst c;rw[ah]at h ⊢;exact h;rw[aj c]at h ⊢;exact e b u h;by_cases c:a=p;subst c;exact d;rw[aj c,n]at h;cases h
def Pure.trans{d H1 H2:Hp}(a:Pure F H F1 H1)(b:Pure F1 H1 d H2):Pure F H d H2:=-{a.ff.trans b.ff,a.hh.trans b.hh,b.fh,λc o h n=>by cases q:F1 c with|none=>exact a.hh.free (b.nw c o h q)|some u=>exact a.nw c u q n}
def Rel.step(R:Rel K F Z H σ ρ A)(p:Pure F H F' H'):Rel K F' Z H' σ ρ A:=by refine{R.sl.keep p.ff λa u _ h=>p.hh a u h,R.nd,λa b=>{?_,(R.fr a b).2},p.fh,R.zh.trans p.hh,λa o h=>?_};cases q:F' a with|none=>rfl|some o=>{have:=p.nw a o q (R.fr a b).1;let⟨u,c⟩:=R.sl.live a b;rw[c]at this;cases this};cases q:F a with|none=>exact R.zh.free (p.nw a o h q)|some u=>exact R.dj a u q
structure New(H F':Hp)(B:↥Addr):Prop where
 nd:B.Nodup
 fr:∀b∈B,H b=none/\F' b=none
def New.nil:New H F' []:=-{aaH,λ_ z=>nomatch z}
def New.one(h:H p=none)(f:F' p=none):New H F' [p]:=-{by simp,λb a=>by have:b=p:=(by exists a);rw[this];exact{(h),f}}
def Rel.fresh(R:Rel K F Z H σ ρ A)(n:New H F' B):Fresh F' Z A B:=-{n.nd,λb a=>{(n.fr b a).2,R.zh.free (n.fr b a).1,λd=>by let⟨u,c⟩:=R.sl.live b d;rw[(n.fr b a).1]at c;cases c}}
def MR:RV->FSt->Option (D×FSt)
 |.ov o,ρ=>match EL o with
  |some d=>!(d,ρ)
  |none=>none
 |.br i,ρ=>match ρ[i]? with
  |some ↑o=>match EL o with
   |some d=>!(d,ρ.set i !(.fz d))
   |none=>none
  |_=>none
def fzR:RV->FSt->Option (D×FSt)|.ov (.fz d),ρ=>!(d,ρ)|.ov (.fl ds),ρ=>!(.lst ds,ρ)|.ov (.fd ks ds),ρ=>!(.dct ks ds,ρ)|.ov (.ft ks ds),ρ=>!(.dt ks ds,ρ)|.ov (.ot ps),ρ=>!(.tup (ps.map iZ),ρ)|.ov _,_=>none|.br i,ρ=>match ρ[i]? with|some ↑(.fz d)=>!(d,ρ)|some ↑(.fl ds)=>!(.lst ds,ρ.set i !(.fz (.lst ds)))|some ↑(.fd ks ds)=>!(.dct ks ds,ρ.set i !(.fz (.dct ks ds)))|some ↑(.ft ks ds)=>!(.dt ks ds,ρ.set i !(.fz (.dt ks ds)))|some ↑(.ot ps)=>!(.tup (ps.map iZ),ρ.set i !(.fz (.tup (ps.map iZ))))|_=>none
def JO{x:Option OV}(h:ρ[i]?=!x):ρ.set i x=ρ:=by apply acp;intro j;by_cases a:i=j;subst a;rw[h,acj (abT.mp h).1];rw[ack a]
def JP(r:RV)(ρ:FSt):fzR r ρ=MR r ρ:=by cases r with|ov o=>cases o<;>rfl|br i=>simp only[fzR,MR];cases e:ρ[i]? with|none=>rfl|some x=>cases x with|none=>rfl|some o=>cases o with|fz d=>simp only[EL];rw[JO e]|_=>rfl
def fzL:↥RV->FSt->Option (↥D×FSt)
 |[],ρ=>!([],ρ)
 |r::c,ρ=>match fzR r ρ with
  |some (d,b)=>match fzL c b with
   |some (ds,a)=>!(d::ds,a)
   |none=>none
  |none=>none
def Rel.grow(R:Rel K F Z H σ ρ A)(live:∀b∈B,∃u,H b=!u)(f:∀b∈B,F b=none/\Z b=none/\b∉A):∃F',Same F F'/\Rel K F' Z H σ ρ A/\(∀a u,a∈B->H a=!u->F' a=!u)/\∀a o,F' a=!o->F a=none->a∈B:=by let⟨G,e,c⟩:=mix B H F;have s:Same F G:=λb o h=>by{rw[c b λd=>by rw[(f b d).1]at h;cases h];exact h};refine{G,s,{R.sl.keep s λ_ _ _ h=>h,R.nd,λa g=>{?_,(R.fr a g).2},λb o h=>?_,R.zh,λa o h=>?_},λa u g h=>?_,λa o h n=>?_};rw[c a λd=>(f a d).2.2 g];exact(R.fr a g).1;by_cases d:b∈B;rw[e b d]at h;exact h;rw[c b d]at h;exact R.fh b o h;by_cases d:a∈B;exact(f a d).2.1;rw[c a d]at h;exact R.dj a o h;rw[e a g];exact h;by_cases d:a∈B;exact d;rw[c a d,n]at h;cases h
def aP{C:↥Addr}(h:A.Perm (B++C))(n:A.Nodup):B.Nodup/\C.Nodup/\(∀b∈B,b∉C):=by have:=h.nodup_iff.mp n;rw[abI]at this;exact{this.1,this.2.1,λb c a=>this.2.2 b c b a rfl}
def Rel.takeI(R:Rel K F Z H σ ρ A)(e:ρ[i]?=!!o):∃v B A',σ[i]?=!!v/\Ow K F H v o B/\Rel K F Z H σ (ρ.set i none) A'/\Fresh F Z A' B/\A.Perm (B++A'):=by let⟨v,B,A',h1,h2,d,m⟩:=R.sl.take e;let⟨l,k,j⟩:=aP d R.nd;have mA:∀a∈A',a∈A:=λa c=>d.mem_iff.mpr (abS.mpr (.inr c));have g:∀a∈B,a∈A:=λa c=>d.mem_iff.mpr (abS.mpr (.inl c));exact{v,B,A',h1,h2,{m,k,λa c=>R.fr a (mA a c),R.fh,R.zh,R.dj},{l,λb f=>{(R.fr b (g b f)).1,(R.fr b (g b f)).2,j b f}},d}
def dg(e:ρ[i]?=!!o):(ρ.set i none)[i]?=!none:=by have hi:i<ρ.length:=(abT.mp e).1;simp[hi]
def Rel.putI(R:Rel K F Z H σ ρ A)(e:ρ[i]?=!none)(d:σ[i]?=!!v)(h:Ow K F H v o B)(f:Fresh F Z A B):∃A',Rel K F Z H σ (ρ.set i !o) A'/\A'.Perm (B++A):=by let⟨A',h1,h2⟩:=R.sl.put e d h;refine{A',{h2,h1.nodup_iff.mpr ?_,λa c=>?_,R.fh,R.zh,R.dj},h1};exact ace.mpr {f.nd,R.nd,λa c b g z=>(f.fr a c).2.2 (z ▸ g)};rcases abS.mp (h1.mem_iff.mp c)with q|q;exact{(f.fr a q).1,(f.fr a q).2.1};exact R.fr a q
def Rel.frz{v:V}{r:RV}{B:↥Addr}{d:D}{b:FSt}(R:Rel K F Z H σ ρ A)(h:RV1 K F H σ v r B)(f:Fresh F Z A B)(e:fzR r ρ=!(d,b)):∃F' A',Same F F'/\Rel K F' Z H σ b A'/\Den K F' v d/\(∀a o,F' a=!o->F a=none->a∈A∨a∈B)/\∀a∈A',a∈A:=by rw[JP]at e;cases r with|ov o=>{simp only[MR]at e;cases hs:EL o with|none=>rw [hs]at e;cases e|some t=>rw[hs]at e;cases e;let⟨F',s,R',k,n⟩:=R.grow (Ow.live h) f.fr;exact{F',A,s,R',Ow.freeze s h k hs,λa o h1 h2=>.inr (n a o h1 h2),λ_ z=>z}}|br i=>simp only[MR]at e;split at e;rename_i o c;cases hs:EL o with|none=>rw[hs]at e;cases e|some t=>{rw[hs]at e;cases e;let⟨j,w,A',h1,h2,R',q,pm⟩:=R.takeI c;have m:j=v:=aak (aak (h1.symm.trans h.1));subst m;let⟨F',s,R2,k,n⟩:=R'.grow (Ow.live h2) q.fr;have dn:=Ow.freeze s h2 k hs;let⟨u,g,l⟩:=R2.putI (dg c) h1 (.fz dn) Fresh.nil;rw[aa4]at g;refine{F',u,s,g,dn,λa o h1 h2=>.inl (pm.mem_iff.mpr (abS.mpr (.inl (n a o h1 h2)))),λa p=>?_};have:=l.mem_iff.mp p;exact pm.mem_iff.mpr (abS.mpr (.inr (by exists this)))};cases e
def Rel.frzL:∀{c:↥RV}{vs:↥V}{B:↥Addr}{ds:↥D}{ρ a:FSt}{F:Hp}{A:↥Addr},Rel K F Z H σ ρ A->RVL K F H σ vs c B->Fresh F Z A B->fzL c ρ=↑(ds,a) ->∃F' A',Same F F'/\Rel K F' Z H σ a A'/\Dens K F' vs ds:=by intro c;induction c with|nil=>intro vs B ds ρ a F A R h f e;simp only[fzL,Option.some.injEq,Prod.mk.injEq]at e;let⟨rfl,rfl⟩:=e;cases h;exact{F,A,Same.refl _,R,.nil}|cons r c w=>intro vs B ds ρ a F A R h f e;cases h with|@cons v _ vs _ L B2 h t=>simp only[fzL]at e;split at e;rename_i d l y;split at e;rename_i C k x;simp only[Option.some.injEq,Prod.mk.injEq]at e;let⟨rfl,rfl⟩:=e;let⟨p,o,n⟩:=aP (aaE (L++B2)) f.nd;let⟨F1,N,j,I,G,m,s⟩:=R.frz h {p,λb g=>f.fr b (abS.mpr (.inl g))} y;let⟨J,M,i,R2,E⟩:=w I (t.keep j λ_ _ _ z=>z) {o,λb g=>by have fb:=f.fr b (abS.mpr (.inr g));refine{?_,fb.2.1,λz=>fb.2.2 (s b z)};cases q:F1 b with|none=>rfl|some u=>rcases m b u q fb.1 with z|z;exact absurd z fb.2.2;exact absurd g (n b z)} x;exact{J,M,j.trans i,R2,.cons (G.mono i) E};cases e;cases e
def look(ρ:FSt):RV->Option OV|.ov o=>!o|.br i=>match ρ[i]? with|some ↑o=>!o|_=>none
def jK(ρ:FSt):RV->Option D|.ov o=>flat o|.br i=>match ρ[i]? with|some ↑o=>flat o|_=>none
def j1(ρ:FSt):↥RV->Option ↥D
 |[]=>![]
 |r::a=>match jK ρ r with
  |some d=>match j1 ρ a with
   |some ds=>!(d::ds)
   |none=>none
  |none=>none
def Rel.acc(R:Rel K F Z H σ ρ A)(h:RV1 K F H σ v r B)(e:jK ρ r=!d):Acc K F H v d:=by cases r with|ov o=>exact Ow.acc h e|br i=>simp only[jK]at e;split at e;rename_i o c;let⟨a,f,A',h1,h2,_⟩:=R.takeI c;have b:a=v:=aak (aak (h1.symm.trans h.1));subst b;exact h2.acc e;cases e
inductive Accs(K:Frag)(F H:Hp):↥V->↥D->Prop where
 |nil:Accs K F H [] []
 |cons {v:V} {d:D} {vs:↥V} {ds:↥D}:Acc K F H v d->Accs K F H vs ds->Accs K F H (v::vs) (d::ds)
def Rel.accs{a:↥RV}(R:Rel K F Z H σ ρ A)(h:RVL K F H σ vs a B)(e:j1 ρ a=!ds):Accs K F H vs ds:=by induction h generalizing ds with|nil=>cases e;exact .nil|@cons v r vs a A B h t f=>unfold j1 at e;cases b:jK ρ r with|none=>rw [b]at e;cases e|some d=>cases c:j1 ρ a with|none=>rw[b,c]at e;cases e|some g=>rw[b,c]at e;cases e;exact .cons (R.acc h b) (f c)
end
abbrev FE:=FSt->(RV->FSt->Prop)->Prop
variable{fa fb fe fk:FE}
abbrev FT:=FSt->(Bool->FSt->Prop)->Prop
variable{fc ft:FT}
abbrev FA:=FSt->(↥RV->FSt->Prop)->Prop
abbrev FO:=FSt->(Option Int->FSt->Prop)->Prop
def View(μ:↥Nat)(a σ:St):Prop:=∀j i:Nat,μ[j]?=!i->a[j]?=σ[i]?/\j<a.length/\i<σ.length
def View.id(a:σ.length=n):View (List.range n) σ σ:=-λj i h=>by rw[abT]at h;let⟨h1,h2⟩:=h;rw[acO]at h2;rw[acz]at h1;subst h2;exact{rfl,(),()}
structure EF(K:Frag)(μ:↥Nat)(t:TE)(f:FE):Prop where
 h:∀{F Z H:Hp}{τ σ:St}{ρ:FSt}{A:↥Addr}{Q:VK}{P:RV->FSt->Prop},View μ τ σ->Rel K F Z H σ ρ A->f ρ P ->
  (∀r ρ' v F' H' A' B,P r ρ'->Same F F'->Rel K F' Z H' σ ρ' A'->RV1 K F' H' σ v r B->Fresh F' Z A' B->Q v H')->t τ H Q
structure TF(K:Frag)(μ:↥Nat)(t:TT)(f:FT):Prop where
 h:∀{F Z H:Hp}{τ σ:St}{ρ:FSt}{A:↥Addr}{Q:Bool->Hp->Prop}{P:Bool->FSt->Prop},View μ τ σ->Rel K F Z H σ ρ A->f ρ P ->
  (∀b ρ' F' H' A',P b ρ'->Same F F'->Rel K F' Z H' σ ρ' A'->Q b H')->t τ H Q
structure AF(K:Frag)(μ:↥Nat)(t:TA)(f:FA):Prop where
 h:∀{F Z H:Hp}{τ σ:St}{ρ:FSt}{A:↥Addr}{Q:↥V->Hp->Prop}{P:↥RV->FSt->Prop},View μ τ σ->Rel K F Z H σ ρ A->f ρ P ->
  (∀rs ρ' vs F' H' A' B,P rs ρ'->Same F F'->Rel K F' Z H' σ ρ' A'->RVL K F' H' σ vs rs B->Fresh F' Z A' B->Q vs H')->t τ H Q
structure OF(K:Frag)(μ:↥Nat)(t:TO)(f:FO):Prop where
 h:∀{F Z H:Hp}{τ σ:St}{ρ:FSt}{A:↥Addr}{Q:Option Int->Hp->Prop}{P:Option Int->FSt->Prop},View μ τ σ->Rel K F Z H σ ρ A->f ρ P ->
  (∀x ρ' F' H' A',P x ρ'->Same F F'->Rel K F' Z H' σ ρ' A'->Q x H')->t τ H Q
def EM(K:Frag)(F H:Hp)(P:OV->Prop)(Q:VK):Prop:=∀o v F' H' B,P o->Pure F H F' H'->Ow K F' H' v o B->New H F' B->Q v H'
structure OpF(K:Frag)(r:R2)(f:D->D->(OV->Prop)->Prop):Prop where
 h:∀{F H:Hp}{x y:V}{d e:D}{Q:VK}{P:OV->Prop},Same F H->Acc K F H x d->Acc K F H y e->f d e P->EM K F H P Q->r x y H Q
structure CallF(K:Frag)(r:↥V->Hp->VK->Prop)(f:↥D->(OV->Prop)->Prop):Prop where
 h:∀{F H:Hp}{xs:↥V}{ds:↥D}{Q:VK}{P:OV->Prop},Same F H->Accs K F H xs ds->f ds P->EM K F H P Q->r xs H Q
structure SlF(K:Frag)(r:V->Option Int->Option Int->Hp->VK->Prop)(f:D->Option Int->Option Int->(OV->Prop)->Prop):Prop where
 h:∀{F H:Hp}{x:V}{d:D}{lo hi:Option Int}{Q:VK}{P:OV->Prop},Same F H->Acc K F H x d->f d lo hi P->EM K F H P Q->r x lo hi H Q
@[irreducible] def br(b:Bool)(A B:Prop):Prop:=if b=true then A else B
def ci{A B:Prop}(h:A):br true A B:=by unfold br;exact h
def cm{A B:Prop}(h:B):br false A B:=by unfold br;exact h
def uh{A B:Prop}(h:br true A B):A:=by unfold br at h;exact h
def uk{A B:Prop}(h:br false A B):B:=by unfold br at h;exact h
def ao{b:Bool}{A B:Prop}(c:Prop)(e:b=true↔c)(h1:c->A)(h2:¬c->B):br b A B:=by cases b with|true=>exact ci (h1 (e.mp rfl))|false=>exact cm (h2 λz=>nomatch e.mpr z)
def ab(i:Nat):FE:=λρ Q=>match ρ[i]? with|some ↑(.fz d)=>Q (.ov (.fz d)) ρ|some ↑_=>Q (.br i) ρ|_=>False
def fC(d:D):FE:=λρ Q=>Q (.ov (.fz d)) ρ
def on2(ρ:FSt)(r s:RV)(k:D->D->Prop):Prop:=match jK ρ r with
 |some d=>match jK ρ s with
  |some e=>k d e
  |none=>False
 |none=>False
def on1(ρ:FSt)(r:RV)(k:D->Prop):Prop:=match jK ρ r with|some d=>k d|none=>False
def onL(ρ:FSt)(a:↥RV)(k:↥D->Prop):Prop:=match j1 ρ a with|some d=>k d|none=>False
def onB(d:D)(k:Bool->Prop):Prop:=match d with|.bl b=>k b|_=>False
def fOp(f:D->D->(OV->Prop)->Prop)(fa fb:FE):FE:=λρ Q=>fa ρ λr b=>fb b λs a=>on2 a r s λd e=>f d e λo=>Q (.ov o) a
def dD(fa fb:FE):FE:=λρ Q=>fa ρ λr a=>on1 a r λd=>onB d λc=>br c (fb a Q) (Q (.ov (.fz (.bl false))) a)
def MS(fa fb:FE):FE:=λρ Q=>fa ρ λr a=>on1 a r λd=>onB d λc=>br c (Q (.ov (.fz (.bl true))) a) (fb a Q)
def yT(fa:FE):FE:=λρ Q=>fa ρ λr a=>on1 a r λd=>onB d λc=>Q (.ov (.fz (.bl (⇑c)))) a
def JQ(fc:FT)(fa fb:FE):FE:=λρ Q=>fc ρ λb a=>br b (fa a Q) (fb a Q)
def j2(f g:D->D->(OV->Prop)->Prop)(fa fb fc:FE):FE:=λρ Q=>fa ρ λr c=>fb c λs a=>on2 a r s λd e=>f d e λo=>match o with|.fz (.bl k)=>br k (fc a λt b=>on2 b s t λj i=>g j i λo=>Q (.ov o) b) (Q (.ov (.fz (.bl false))) a)|_=>False
def av(fa:FE):FT:=λρ Q=>fa ρ λr a=>on1 a r λd=>onB d λc=>Q c a
def iq(ft:FT):FT:=λρ Q=>ft ρ λc a=>Q (⇑c) a
def EN(fa fb:FT):FT:=λρ Q=>fa ρ λc a=>br c (fb a Q) (Q false a)
def fOr(fa fb:FT):FT:=λρ Q=>fa ρ λc a=>br c (Q true a) (fb a Q)
def xE:D->Option Bool|.non=>!false|.bl b=>!b|.int i=>!(i !=0)|.str y=>if y.length<=sizeLine then ↑((y.length:Int) !=0) else none|.lst xs=>!(⇑xs.isEmpty)|.tup xs=>!(⇑xs.isEmpty)|.dct _ _=>none|.ty _=>none|.opq _ _=>none|.gt _=>none|.dt _ _=>none
def Ce(fa:FE):FT:=λρ Q=>fa ρ λr a=>on1 a r λd=>match xE d with|some k=>Q k a|none=>False
def i3:FT:=λρ Q=>Q true ρ
def af:FA:=λρ Q=>Q [] ρ
def aa(fa:FE)(fr:FA):FA:=λρ Q=>fa ρ λr b=>fr b λc a=>Q (r::c) a
def fCB(f:↥D->(OV->Prop)->Prop)(fa:FA):FE:=λρ Q=>fa ρ λb a=>onL a b λds=>f ds λo=>Q (.ov o) a
def i4(fa:FA):FE:=λρ Q=>fa ρ λc b=>match fzL c b with|some (ds,a)=>ds.length<=sizeLine/\Q (.ov (.fl ds)) a|none=>False
def fL(fa:FA):FE:=λρ Q=>fa ρ λc b=>match fzL c b with|some (ds,a)=>ds.length<=sizeLine/\Q (.ov (.fz (.tup ds))) a|none=>False
def cY:FO:=λρ Q=>Q none ρ
def fM(fa:FE):FO:=λρ Q=>fa ρ λr a=>on1 a r λd=>match d with|.int i=>Q ↑i a|_=>False
def fSl(f:D->Option Int->Option Int->(OV->Prop)->Prop)(fe:FE)(fl fh:FO):FE:=λρ Q=>fe ρ λr c=>fl c λlo b=>fh b λhi a=>on1 a r λd=>f d lo hi λo=>Q (.ov o) a
def yU:FE:=λρ Q=>Q (.ov (.fd [] [])) ρ
section
variable{K:Frag}
def ca{k:D->Prop}(h:on1 ρ r k):∃d,jK ρ r=!d/\k d:=by unfold on1 at h;split at h;exact{_,by assumption,h};exact h.elim
def oV{s:RV}{k:D->D->Prop}(h:on2 ρ r s k):∃d e,jK ρ r=!d/\jK ρ s=!e/\k d e:=by unfold on2 at h;split at h;split at h;exact{_,_,by assumption,by assumption,h};exact h.elim;exact h.elim
def oW{r:↥RV}{k:↥D->Prop}(h:onL ρ r k):∃d,j1 ρ r=!d/\k d:=by unfold onL at h;split at h;exact{_,by assumption,h};exact h.elim
def oX{k:Bool->Prop}(h:onB d k):∃b,d=.bl b/\k b:=by unfold onB at h;split at h;exact{_,rfl,h};exact h.elim
def ul(b:μ[j]?=!i):EF K μ (da j) (ab i):=-{by intro F Z H c σ ρ A Q P a R h q;unfold ab at h;generalize e:ρ[i]?=o at h;cases o with|none=>exact faa h|some o=>cases o with|none=>exact faa h|some o=>let⟨v,B,A',h1,h2,k,g,f⟩:=R.takeI e;refine{v,(a j i b).1.trans h1,?_};cases o with|fz d=>{cases h2 with|fz dn=>exact q _ _ v F H A [] h (Same.refl _) R (.fz dn) Fresh.nil}|_=>exact q _ _ v F H A [] h (Same.refl _) R {(h1),rfl} Fresh.nil}
def JR(hd:∀F,Den K F v d):EF K μ (tC v) (fC d):=-{fun {F Z H a σ ρ A Q P} b R h q=>q _ _ v F H A [] h (Same.refl _) R (.fz (hd F)) Fresh.nil}
def JS{i:Int}:EF K μ (tC (.int i)) (fC (.int i)):=-JR λ_=>.int i
def JT{i:Str}:EF K μ (tC (.str i)) (fC (.str i)):=-JR λ_=>.str i
def NL{i:Bool}:EF K μ (tC (.bl i)) (fC (.bl i)):=-JR λ_=>.bl i
def JU:EF K μ (tC .non) (fC .non):=-JR λ_=>.non
def NM{T:String}:EF K μ (tC (.ty T)) (fC (.ty T)):=-JR λ_=>.ty T
def Rel.after(R:Rel K F Z H σ ρ A)(q:∀o v F' H' B,P o->Same F F'->Rel K F' Z H' σ ρ A->Ow K F' H' v o B->Fresh F' Z A B->Q v H'):EM K F H P Q:=- λo v F' H' B p a b nw=>q o v F' H' B p a.ff (R.step a) b (R.fresh nw)
def NN{r:R2}(t:OpF K r f)(w:EF K μ ta fa)(u:EF K μ tb fb):EF K μ (tOp r ta tb) (fOp f fa fb):=-{by intro F Z H J σ ρ A Q P g R h q;refine w.h g R h λN j x F1 H1 Y W h1 m I v1 f1=>?_;let⟨O,sz,c,L,back⟩:=I.hold v1.live v1.nt f1;refine u.h g c h1 λM i y U H2 X V h2 b R2 k f2=>?_;let⟨a,C,s⟩:=back _ _ _ _ b R2;let⟨d,e,E,D,z⟩:=oV h2;refine t.h a.fh (a.acc (v1.keep b s) E) (a.acc k D) z (a.after λo v T S B p l G n fr=>q _ _ _ _ _ _ _ p ((m.trans b).trans l) G n fr)}
def EO(l:EF K μ ta fa)(k:EF K μ tb fb):EF K μ (Dh ta tb) (dD fa fb):=-{by intro F Z H n σ ρ A Q P b R h q;refine l.h b R h λp i x F1 H1 v t h1 e a v1 f1=>?_;let⟨d,m,h2⟩:=ca h1;let⟨c,rfl,f⟩:=oX h2;refine{c,(a.acc v1 m).bl_eq,?_};cases c with|true=>exact k.h b a (uh f) λo g y r H2 u s h2 j=>q _ _ _ _ _ _ _ h2 (e.trans j)|false=>exact q _ _ _ _ _ _ _ (uk f) e a (.fz (.bl false)) Fresh.nil}
def JV(l:EF K μ ta fa)(k:EF K μ tb fb):EF K μ (M2 ta tb) (MS fa fb):=-{by intro F Z H n σ ρ A Q P b R h q;refine l.h b R h λp i x F1 H1 v t h1 e a v1 f1=>?_;let⟨d,m,h2⟩:=ca h1;let⟨c,rfl,f⟩:=oX h2;refine{c,(a.acc v1 m).bl_eq,?_};cases c with|false=>exact k.h b a (uk f) λo g y r H2 u s h2 j=>q _ _ _ _ _ _ _ h2 (e.trans j)|true=>exact q _ _ _ _ _ _ _ (uh f) e a (.fz (.bl true)) Fresh.nil}
def EQ(g:EF K μ ta fa):EF K μ (Di ta) (yT fa):=-{by intro F Z H k σ ρ A Q P e R h q;refine g.h e R h λl b x F1 H1 n m h1 f a v1 f1=>?_;let⟨d,j,h2⟩:=ca h1;let⟨c,rfl,i⟩:=oX h2;exact{c,(a.acc v1 j).bl_eq,q _ _ _ _ _ _ _ i f a (.fz (.bl _)) Fresh.nil}}
def NO(j:TF K μ tc fc)(l:EF K μ ta fa)(k:EF K μ tb fb):EF K μ (tIf tc ta tb) (JQ fc fa fb):=-{by intro F Z H p σ ρ A Q P c R h q;refine j.h c R h λb g F1 H1 r h1 e f=>?_;cases b with|true=>exact l.h c f (uh h1) λi a y m H2 o n h2 d=>q _ _ _ _ _ _ _ h2 (e.trans d)|false=>exact k.h c f (uk h1) λi a y m H2 o n h2 d=>q _ _ _ _ _ _ _ h2 (e.trans d)}
def yV{r r':R2}{T:D->D->(OV->Prop)->Prop}{tc:TE}{fc:FE}(ho:OpF K r f)(I:OpF K r' T)(ha:EF K μ ta fa)(c:EF K μ tb fb)(hc:EF K μ tc fc):EF K μ (lF r r' ta tb tc) (j2 f T fa fb fc):=-{by intro F Z H τ σ ρ A Q P s R h q;refine ha.h s R h λr1 ρ1 x F1 H1 A1 B1 h1 O R1 v1 f1=>?_;let⟨Z',sz,N,zl,back⟩:=R1.hold v1.live v1.nt f1;refine c.h s N h1 λr2 ρ2 y F2 H2 X W h2 n R2 C f2=>?_;let⟨i,f1',k1⟩:=back _ _ _ _ n R2;let⟨d,e,e1,e2,h3⟩:=oV h2;have j:Fresh F2 Z X W:={f2.nd,λb c=>{(f2.fr b c).1,sz.free (f2.fr b c).2.1,(f2.fr b c).2.2}};refine ho.h i.fh (i.acc (v1.keep n k1) e1) (i.acc C e2) h3 λo v V H3 B p m G nw=>?_;have U:=i.step m;have f3:Fresh V Z X W:={j.nd,λb c=>{(by cases z:V b with|none=>rfl|some u=>let⟨w,S⟩:=C.live b c;rw[m.nw b u z (j.fr b c).1]at S;exact nomatch S),(j.fr b c).2}};have t:=C.keep m.ff λa u _ z=>m.hh a u z;split at p;rename_i k;cases G with|fz dn=>{refine{k,dn.bl_eq,?_};cases k with|false=>exact q _ _ _ _ _ _ _ (uk p) ((O.trans n).trans m.ff) U (.fz (.bl false)) Fresh.nil|true=>let⟨Z2,sz2,M,zl2,l⟩:=U.hold t.live t.nt f3;refine hc.h s M (uh p) λr4 Y w F4 H4 A4 B4 h4 E R4 v4 f4=>?_;let⟨g,f4',k4⟩:=l _ _ _ _ E R4;let⟨d',e',L,J,h5⟩:=oV h4;exact I.h g.fh (g.acc (t.keep E k4) L) (g.acc v4 J) h5 (g.after λo v F5 H5 B p s5 R5 G fr=>q _ _ _ _ _ _ _ p ((((O.trans n).trans m.ff).trans E).trans s5) R5 G fr)};exact p.elim}
def um(g:EF K μ ta fa):TF K μ (sE ta) (av fa):=-{by intro F Z H k σ ρ A Q P e R h q;refine g.h e R h λl b x F1 H1 n m h1 f a v1 f1=>?_;let⟨d,j,h2⟩:=ca h1;let⟨c,rfl,i⟩:=oX h2;exact{c,(a.acc v1 j).bl_eq,q _ _ _ _ _ i f a}}
def JW{t:TT}{f:FT}(h:TF K μ t f):TF K μ (MZ t) (iq f):=-{fun {F Z H d σ ρ A Q P} c R p q=>h.h c R p λb a F1 H1 e h1=>q _ _ _ _ _ h1}
def JX{t:TT}{f g:FT}(h:TF K μ t f)(h':TF K μ u g):TF K μ (MY t u) (EN f g):=-{fun {F Z H k σ ρ A Q P} a R p q=>h.h a R p λb i F1 H1 n h1 c d=>by cases b with|true=>exact h'.h a d (uh h1) λb e l H2 m h2 j=>q _ _ _ _ _ h2 (c.trans j)|false=>exact q _ _ _ _ _ (uk h1) c d}
def NP{t:TT}{f g:FT}(h:TF K μ t f)(h':TF K μ u g):TF K μ (tOr t u) (fOr f g):=-{fun {F Z H k σ ρ A Q P} a R p q=>h.h a R p λb i F1 H1 n h1 c d=>by cases b with|false=>exact h'.h a d (uk h1) λb e l H2 m h2 j=>q _ _ _ _ _ h2 (c.trans j)|true=>exact q _ _ _ _ _ (uh h1) c d}
def JY:TF K μ Nx i3:=-{fun {F Z H a σ ρ A Q P} b R p q=>q _ _ _ _ _ p (Same.refl _) R}
def ER{x:V}{k:Bool}(e:Same F H)(h:Acc K F H x d)(c:xE d=!k):MG K x H k:=by cases d with|non=>rw[h.non_eq];exact(aak c).symm|bl b=>rw[h.bl_eq];exact(aak c).symm|int i=>rw[h.int_eq];exact(aak c).symm|str y=>rw[h.str_eq];simp only[xE]at c;split at c;exact{by assumption,by simpa using c.symm};cases c|lst ds=>let⟨a,xs,rfl,h1,h2⟩:=h.asL e;have:=h2.length;refine .inl {xs,h1,?_};simp only[xE,Option.some.injEq]at c;rw[←c];cases xs<;>cases ds<;>simp at this ⊢|tup ds=>let⟨a,xs,rfl,h1,h2⟩:=h.asT e;have:=h2.length;refine .inr (.inl {xs,h1,?_});simp only[xE,Option.some.injEq]at c;rw[←c];cases xs<;>cases ds<;>simp at this ⊢|dct ks ds=>simp[xE]at c|ty T=>simp[xE]at c|opq a n=>simp[xE]at c|gt xs=>simp[xE]at c|dt ks xs=>simp[xE]at c
def JZ(g:EF K μ ta fa):TF K μ (NI K ta) (Ce fa):=-{by intro F Z H j σ ρ A Q P c R h q;refine g.h c R h λl b x F1 H1 n m h1 e a v1 f1=>?_;let⟨d,i,h2⟩:=ca h1;split at h2;rename_i k f;exact{k,ER a.fh (a.acc v1 i) f,q _ _ _ _ _ h2 e a};exact h2.elim}
def J0:AF K μ iJ af:=-{fun {F Z H a σ ρ A Q P} b R p q=>q _ _ _ _ _ _ _ p (Same.refl _) R .nil Fresh.nil}
def uo{k:TA}{fr:FA}(f:EF K μ ta fa)(hr:AF K μ k fr):AF K μ (cL ta k) (aa fa fr):=-{by intro F Z H v σ ρ A Q P j R h q;refine f.h j R h λB n x F1 H1 J G h1 r t v1 f1=>?_;let⟨C,sz,i,o,back⟩:=t.hold v1.live v1.nt f1;refine hr.h j i h1 λw m y D H2 I E h2 d R2 p f2=>?_;let⟨g,c,s⟩:=back _ _ _ _ d R2;refine q _ _ _ _ _ _ _ h2 (r.trans d) g (.cons (v1.keep d s) p) {ace.mpr {c.nd,f2.nd,λa f b e z=>?_},λb e=>?_};let⟨u,l⟩:=o a f;rw[z,(f2.fr b e).2.1]at l;cases l;rcases abS.mp e with z|z;exact c.fr b z;exact{(f2.fr b z).1,sz.free (f2.fr b z).2.1,(f2.fr b z).2.2}}
def NQ{r:↥V->Hp->VK->Prop}{f:↥D->(OV->Prop)->Prop}{fa:FA}(i:CallF K r f)(j:AF K μ t fa):EF K μ (tCB r t) (fCB f fa):=-{by intro F Z H m σ ρ A Q P c R h q;refine j.h c R h λn b xs F1 H1 x w h1 e a v1 f1=>?_;let⟨ds,k,h2⟩:=oW h1;exact i.h a.fh (a.accs v1 k) h2 (a.after λo v u s B p d l g fr=>q _ _ _ _ _ _ _ p (e.trans d) l g fr)}
def J1{fa:FA}(m:AF K μ t fa):EF K μ (MJ t) (i4 fa):=-{by intro F Z H s σ ρ A Q P f R h q;refine m.h f R h λu d xs F1 H1 C y h1 j r v1 f1=>?_;split at h1;rename_i ds a e;let⟨c,z,i,R2,dn⟩:=r.frzL v1 f1 e;refine{by rw[dn.length];exact h1.1,λp b=>?_};have l:c p=none:=R2.fh.free b;exact R2.after (P:=λo=>P (.ov o) a) (λo v x w B p g n k fr=>q _ _ _ _ _ _ _ p ((j.trans i).trans g) n k fr) _ _ c _ [p] h1.2 (Pure.new R2.fh b) (.fl ah dn) (New.one b l);exact h1.elim}
def J2{fa:FA}(m:AF K μ t fa):EF K μ (MI t) (fL fa):=-{by intro F Z H s σ ρ A Q P f R h q;refine m.h f R h λu d xs F1 H1 C y h1 j r v1 f1=>?_;split at h1;rename_i ds a e;let⟨c,z,i,R2,dn⟩:=r.frzL v1 f1 e;refine{by rw[dn.length];exact h1.1,λp b=>?_};have l:c p=none:=R2.fh.free b;refine R2.after (P:=λo=>P (.ov o) a) (λo v x w B p g n k fr=>q _ _ _ _ _ _ _ p ((j.trans i).trans g) n k fr) _ _ (upd c p (.tup xs)) _ [] h1.2 (Pure.frz R2.fh b) (.fz (.tup ah (dn.mono (bF l)))) New.nil;exact h1.elim}
def ES:EF K μ sV yU:=-{by intro F Z H f σ ρ A Q P g R h q p a;have d:F p=none:=R.fh.free a;exact R.after (P:=λo=>P (.ov o) ρ) (λo v j i B p b e c fr=>q _ _ _ _ _ _ _ p b e c fr) _ _ F _ [p] h (Pure.new R.fh a) (.fd ah rfl .nil) (New.one a d)}
def ET:OF K μ ny cY:=-{fun {F Z H a σ ρ A Q P} b R p q=>q _ _ _ _ _ p (Same.refl _) R}
def EU(f:EF K μ ta fa):OF K μ (DI ta) (fM fa):=-{by intro F Z H j σ ρ A Q P c R h q;refine f.h c R h λk b x F1 H1 m l h1 e a v1 f1=>?_;let⟨d,g,h2⟩:=ca h1;split at h2;rename_i i;exact{i,(a.acc v1 g).int_eq,q _ _ _ _ _ h2 e a};exact h2.elim}
def NR{r:V->Option Int->Option Int->Hp->VK->Prop}{f:D->Option Int->Option Int->(OV->Prop)->Prop}{tl th:TO}{fl fh:FO}(hr:SlF K r f)(u:EF K μ te fe)(t:OF K μ tl fl)(hh:OF K μ th fh):EF K μ (tSl r te tl th) (fSl f fe fl fh):=-{by intro F Z H J σ ρ A Q P b R h q;refine u.h b R h λM k x F1 H1 A1 X h1 m I v1 f1=>?_;let⟨N,sz,g,L,back⟩:=I.hold v1.live v1.nt f1;refine t.h b g h1 λlo j W H2 A2 h2 e R2=>?_;refine hh.h b R2 h2 λhi i U S Y y c G=>?_;let⟨a,z,s⟩:=back _ _ _ _ (e.trans c) G;let⟨d,C,w⟩:=ca y;exact hr.h a.fh (a.acc (v1.keep (e.trans c) s) C) w (a.after λo v T O B p l E n fr=>q _ _ _ _ _ _ _ p (((m.trans e).trans c).trans l) E n fr)}
end
abbrev Ct:=↥OV->(OV->↥OV->Prop)->Prop
variable{c:Ct}
def takeR:RV->FSt->Option (OV×FSt)|.ov o,ρ=>!(o,ρ)|.br i,ρ=>match ρ[i]? with|some ↑o=>!(o,ρ.set i none)|_=>none
def takeL:↥RV->FSt->Option (↥OV×FSt)
 |[],ρ=>!([],ρ)
 |r::c,ρ=>match takeR r ρ with
  |some (o,b)=>match takeL c b with
   |some (os,a)=>!(o::os,a)
   |none=>none
  |none=>none
def putL:↥RV->↥OV->FSt->FSt|.br i::a,o::os,ρ=>putL a os (ρ.set i !o)|.ov _::a,_::os,ρ=>putL a os ρ|_,_,ρ=>ρ
def spM(K:Frag)(c:Ct):Sp:=λvs H Q _=>∃(F Z:Hp)(os:↥OV)(C:↥Addr)(P:OV->↥OV->Prop),Same F H/\SameN Z H/\(∀a o,F a=!o->Z a=none)/\Ows K F H vs os C/\C.Nodup/\(∀a∈C,F a=none/\Z a=none)/\c os P/\ ∀o b v F' H' d B,P o b->Same F F'->Same F' H'->Same Z H'->(∀a o,F' a=!o->Z a=none)->Ows K F' H' vs b d->Ow K F' H' v o B->(d++B).Nodup->(∀a∈d++B,F' a=none/\Z a=none)->Q v H'
def al(c:Ct)(fa:FA):FE:=λρ Q=>fa ρ λe b=>match takeL e b with|some (os,a)=>c os λo d=>Q (.ov o) (putL e d a)|none=>False
def fFz(fe:FE):FE:=λρ Q=>fe ρ λr b=>match fzR r b with|some (d,a)=>Q (.ov (.fz d)) a|none=>False
section
variable{K:Frag}
def Rel.takeR{b:FSt}(R:Rel K F Z H σ ρ A)(h:RV1 K F H σ v r B)(f:Fresh F Z A B)(e:_L.takeR r ρ=!(o,b)):∃C A',Rel K F Z H σ b A'/\Ow K F H v o C/\Fresh F Z A' C/\(∀a∈A',a∈A)/\∀a∈C,a∈A∨a∈B:=by cases r with|ov o'=>simp only[_L.takeR,Option.some.injEq,Prod.mk.injEq]at e;let⟨rfl,rfl⟩:=e;exact{B,A,R,h,f,λ_ z=>z,λ_ z=>.inr z}|br i=>simp only[_L.takeR]at e;split at e;rename_i o' j;simp only[Option.some.injEq,Prod.mk.injEq]at e;let⟨rfl,rfl⟩:=e;let⟨d,l,A',h1,h2,R',k,pm⟩:=R.takeI j;have g:d=v:=aak (aak (h1.symm.trans h.1));subst g;exact{l,A',R',h2,k,λa c=>pm.mem_iff.mpr (abS.mpr (.inr c)),λa c=>.inl (pm.mem_iff.mpr (abS.mpr (.inl c)))};cases e
def Rel.takeL:∀{i:↥RV}{vs:↥V}{B:↥Addr}{os:↥OV}{ρ c:FSt}{A:↥Addr},Rel K F Z H σ ρ A->RVL K F H σ vs i B->Fresh F Z A B->_L.takeL i ρ=↑(os,c) ->∃C A',Rel K F Z H σ c A'/\Ows K F H vs os C/\Fresh F Z A' C/\(∀a∈A',a∈A)/\∀a∈C,a∈A∨a∈B:=by intro i;induction i with|nil=>intro vs B os ρ c A R h f e;simp only[_L.takeL,Option.some.injEq,Prod.mk.injEq]at e;let⟨rfl,rfl⟩:=e;cases h;exact{[],A,R,.nil,f,λ_ z=>z,λ_ z=>nomatch z}|cons r i E=>intro vs B os ρ c A R h f e;cases h with|@cons v _ vs _ M B2 h t=>simp only[_L.takeL]at e;split at e;rename_i o p I;split at e;rename_i q n G;simp only[Option.some.injEq,Prod.mk.injEq]at e;let⟨rfl,rfl⟩:=e;let⟨D,x,w⟩:=aP (aaE (M++B2)) f.nd;let⟨L,O,J,u,f1,j,m⟩:=R.takeR h {D,λb d=>f.fr b (abS.mpr (.inl d))} I;let⟨C2,N,R2,s,f2,k,l⟩:=E J t {x,λb d=>by have fb:=f.fr b (abS.mpr (.inr d));exact{fb.1,fb.2.1,λz=>fb.2.2 (j b z)}} G;refine{L++C2,N,R2,.cons u s,{ace.mpr {f1.nd,f2.nd,λa g b d z=>?_},λb d=>?_},λa g=>j a (k a g),λa g=>?_};subst z;rcases l a d with z|z;exact(f1.fr a g).2.2 z;rcases m a g with y|y;exact(f.fr a (abS.mpr (.inr z))).2.2 y;exact w a y z;rcases abS.mp d with z|z;exact{(f1.fr b z).1,(f1.fr b z).2.1,λy=>(f1.fr b z).2.2 (k b y)};exact f2.fr b z;rcases abS.mp g with z|z;rcases m a z with y|y;exact .inl y;exact .inr (abS.mpr (.inl y));rcases l a z with y|y;exact .inl (j a y);exact .inr (abS.mpr (.inr y));cases e;cases e
def Rel.assign(R:Rel K F Z H σ ρ A)(h:Ow K F H v o B)(f:Fresh F Z A B):∃A',Rel K F Z H (σ.set i !v) (ρ.set i !o) A'/\∀a∈A',a∈A∨a∈B:=by let⟨g,C,pm,k⟩:=R.sl.drop i !v;let⟨p,l,n⟩:=aP pm R.nd;have mA:∀a∈g,a∈A:=λa c=>pm.mem_iff.mpr (abS.mpr (.inr c));have d:Rel K F Z H (σ.set i !v) (ρ.set i none) g:={k,l,λa c=>R.fr a (mA a c),R.fh,R.zh,R.dj};by_cases hi:i<ρ.length;have j:=R.sl.len;let⟨m,R2,p2⟩:=d.putI (i:=i) (v:=v) (o:=o) (B:=B) (by simp[hi]) (by simp[j,hi]) h {f.nd,λb e=>{(f.fr b e).1,(f.fr b e).2.1,λz=>(f.fr b e).2.2 (mA b z)}};rw[aa4]at R2;refine{m,R2,λa c=>?_};rcases abS.mp (p2.mem_iff.mp c)with z|z;exact .inr z;exact .inl (mA a z);have j:=R.sl.len;rw[List.set_eq_of_length_le ()]at d ⊢;rw[List.set_eq_of_length_le ()]at d ⊢;exact{g,d,λa c=>.inl (mA a c)}
def J3(h:σ[i]?=!!v):σ.set i ↑v=σ:=by apply acp;intro j;by_cases a:i=j;subst a;have:=(abT.mp h).1;rw[h,acj this];rw[ack a]
def Rel.putL:∀{d:↥RV}{vs:↥V}{os:↥OV}{B C:↥Addr}{ρ:FSt}{A:↥Addr},Rel K F Z H σ ρ A->RVL K F' H' σ vs d B->Ows K F H vs os C->Fresh F Z A C ->∃A',Rel K F Z H σ (_L.putL d os ρ) A'/\∀a∈A',a∈A∨a∈C:=by intro d;induction d with|nil=>intro vs os B C ρ A R h n f;exact{A,R,λ_ z=>.inl z}|cons r d l=>intro vs os B C ρ A R h n f;cases h with|@cons v _ vs _ x w h t=>cases n with|@cons _ o _ os q C2 h1 g=>let⟨u,j,s⟩:=aP (aaE (q++C2)) f.nd;have f1:Fresh F Z A q:={u,λb c=>f.fr b (abS.mpr (.inl c))};have f2:Fresh F Z A C2:={j,λb c=>f.fr b (abS.mpr (.inr c))};cases r with|ov o'=>let⟨A',R',m⟩:=l R t g f2;refine{A',R',λa e=>(m a e).elim .inl λz=>.inr (abS.mpr (.inr z))}|br i=>let⟨D,p,k⟩:=R.assign (i:=i) h1 f1;rw[J3 h.1]at p;let⟨A',R',m⟩:=l p t g {j,λb c=>{(f2.fr b c).1,(f2.fr b c).2.1,λz=>(k b z).elim (f2.fr b c).2.2 λy=>s b y c}};refine{A',R',λa e=>?_};rcases m a e with z|z;exact(k a z).elim .inl λy=>.inr (abS.mpr (.inl y));exact .inr (abS.mpr (.inr z))
def uq{fa:FA}{E:XK}(f:AF K μ t fa):EF K μ (kz (spM K c) [] E t) (al c fa):=-{by intro F Z H τ σ ρ A Q P S R h q;refine f.h S R h λrs M vs F1 H1 A1 B1 h1 T R1 v1 f1=>?_;rw[aaw];split at h1;rename_i os l e;let⟨C,i,R2,V,f2,m2,c2⟩:=R1.takeL v1 f1 e;let⟨n,g,d⟩:=mix i H1 Z;have hz:∀a,a∈i->Z a=none:=λa f=>(R2.fr a f).2;have sz:Same Z n:=λa o z=>by{rw[d a λy=>by rw[hz a y]at z;cases z];exact z};refine{F1,n,os,C,_,R2.fh,{λa o z=>?_,λa xs z=>?_},λa o z=>?_,V,f2.nd,λa f=>{(f2.fr a f).1,by rw[d a (f2.fr a f).2.2];exact(f2.fr a f).2.1},h1,λo U v r H3 s B p D fh zh dj O N nd fr=>?_};by_cases y:a∈i;rw[g a y]at z;exact z;rw[d a y]at z;exact R2.zh.s a o z;by_cases y:a∈i;rw[g a y]at z;exact R2.sl.nt a y xs z;rw[d a y]at z;exact R2.zh.n a xs z;rw[d a λy=>by rw[(R2.fr a y).1]at z;cases z];exact R2.dj a o z;have J:∀a∈i,∃u,n a=!u:=λa f=>by{let⟨u,m⟩:=R2.sl.live a f;exact{u,by rw[g a f];exact m}};have R3:Rel K r Z H3 σ l i:={R2.sl.keep D λa u f m=>zh a u (by rw[g a f];exact m),R2.nd,λa f=>{(by cases z:r a with|none=>rfl|some u=>have:=dj a u z;let⟨w,k⟩:=J a f;rw[k]at this;exact nomatch this),(R2.fr a f).2},fh,{sz.trans zh,R2.zh.n},λa o z=>sz.free (dj a o z)};have I:∀a∈s++B,a∉i:=λa f y=>by{let⟨w,k⟩:=J a y;rw[(fr a f).2]at k;cases k};let⟨Y,X,W⟩:=aP (aaE (s++B)) nd;have fC:Fresh r Z i s:={Y,λb j=>by have:=fr b (abS.mpr (.inl j));exact{this.1,sz.free this.2,I b (abS.mpr (.inl j))}};let⟨A4,R4,m4⟩:=R3.putL v1 O fC;refine q _ _ _ _ _ _ _ p (T.trans D) R4 N {X,λb j=>?_};have:=fr b (abS.mpr (.inr j));exact{this.1,sz.free this.2,λz=>(m4 b z).elim (I b (abS.mpr (.inr j))) λy=>W b y j};exact h1.elim}
def NS(i:EF K μ te fe):EF K μ te (fFz fe):=-{by intro F Z H k σ ρ A Q P c R h q;refine i.h c R h λr b v F1 H1 o m h1 g j v1 f1=>?_;split at h1;rename_i d a e;let⟨l,n,f,R2,dn,_,_⟩:=j.frz v1 f1 e;exact q _ _ _ _ _ _ _ h1 (g.trans f) R2 (.fz dn) Fresh.nil;exact h1.elim}
end
theorem oY:∀{l:↥Nat}{j k i:Nat},l.Nodup->l[j]?=!i->l[k]?=!i->j=k|[],_,_,_,_,h,_=>by simp at h|a::l,0,0,_,_,_,_=>rfl|a::l,0,k+1,i,n,h,h'=>by simp at h h';subst h;exact absurd (abX h') (ab4.mp n).1|a::l,j+1,0,i,n,h,h'=>by simp at h h';subst h';exact absurd (abX h) (ab4.mp n).1|a::l,j+1,k+1,i,n,h,h'=>by simp at h h';rw[oY (List.nodup_cons.mp n).2 h h']
abbrev FG:=D->FSt->(FSt->Prop)->Prop
variable{fg:FG}
abbrev FGs:=↥D->FSt->(FSt->Prop)->Prop
structure GF(K:Frag)(μ:↥Nat)(T:↥Nat)(g:TG)(f:FG):Prop where
 h:∀{F Z H:Hp}{τ σ:St}{ρ:FSt}{A:↥Addr}{v:V}{d:D}{Q:St->Hp->Prop}{P:FSt->Prop},View μ τ σ->Rel K F Z H σ ρ A->Den K F v d->f d ρ P ->
  (∀τ' σ' ρ' A',P ρ'->View μ τ' σ'->Rel K F Z H σ' ρ' A'->(∀i,i∉T->σ'[i]?=σ[i]?)->σ'.length=σ.length->((∀j i:Nat,μ[j]?=!i->i=j)->τ=σ->τ'=σ')->(∀a∈A',a∈A)->Q τ' H)->g v τ H Q
structure GsF(K:Frag)(μ:↥Nat)(T:↥Nat)(g:TGs)(f:FGs):Prop where
 h:∀{F Z H:Hp}{τ σ:St}{ρ:FSt}{A:↥Addr}{v:↥V}{d:↥D}{Q:St->Hp->Prop}{P:FSt->Prop},View μ τ σ->Rel K F Z H σ ρ A->Dens K F v d->f d ρ P ->
  (∀τ' σ' ρ' A',P ρ'->View μ τ' σ'->Rel K F Z H σ' ρ' A'->(∀i,i∉T->σ'[i]?=σ[i]?)->σ'.length=σ.length->((∀j i:Nat,μ[j]?=!i->i=j)->τ=σ->τ'=σ')->(∀a∈A',a∈A)->Q τ' H)->g v τ H Q
def ac(i:Nat):FG:=λd ρ P=>P (ρ.set i !(.fz d))
def i5:FGs:=λds ρ P=>match ds with|[]=>P ρ|_=>False
def aV(f:FG)(fs:FGs):FGs:=λds ρ P=>match ds with|d::ds=>f d ρ λa=>fs ds a P|_=>False
def i6(n:Nat)(f:FGs):FG:=λd ρ P=>match d with|.tup ds=>ds.length=n/\f ds ρ P|_=>False
section
variable{K:Frag}
def ur(k:μ[j]?=!i)(p:μ.Nodup):GF K μ [i] (fG j) (ac i):=-{by intro F Z H s σ ρ A v d Q P f R dn h q;let⟨A',R',m⟩:=R.assign (i:=i) (.fz dn) Fresh.nil;refine q _ (σ.set i !v) _ _ h (λg c h'=>{?_,by rw[aaG];exact(f g c h').2.1,by rw[aaG];exact(f g c h').2.2}) R' (λc o=>?_) (aaG ..) (λn e=>?_) λa r=>(m a r).elim id λz=>nomatch z;by_cases b:j=g;subst b;rw[k]at h';cases h';have:=f j i k;rw[acj this.2.1,acj this.2.2];have l:i≠c:=λz=>by{subst z;exact b (oY p k h')};rw[ack b,ack l];exact(f g c h').1;rw[ack λz=>o (by simp[z])];rw[n j i k,e]}
def EV:GsF K μ [] MD i5:=-{by intro F Z H b σ ρ A v d Q P a R dn h q;cases dn with|nil=>exact{rfl,q _ _ _ _ h a R (λ_ _=>rfl) rfl (λ_ e=>e) λ_ z=>z}|cons _ _=>exact h.elim}
def yY{T':↥Nat}{f:FG}{fs:FGs}(h1:GF K μ T g f)(h2:GsF K μ T' gs fs):GsF K μ (T++T') (qD g gs) (aV f fs):=-{by intro F Z H G σ ρ A v d Q P x R dn h q;cases dn with|nil=>exact h.elim|cons E D=>refine{_,_,rfl,h1.h x R E h fun r t w A' p e R' k z n m=>h2.h e R' D p fun o s u I p2 c R2 B j l y=>q _ _ _ _ p2 c R2 (λi hi=>?_) (j.trans z) (λa b=>l a (n a b)) λa C=>m a (y a C)};rw[abS,not_or]at hi;rw[B i hi.2,k i hi.1]}
def Ka{fs:FGs}(h2:GsF K μ T gs fs):GF K μ T (Im K n gs) (i6 n fs):=-{by intro F Z H b σ ρ A v d Q P a R dn h q;cases dn with|tup hs t=>exact{_,_,rfl,SqT.of (R.fh _ _ hs),t.length.trans h.1,h2.h a R t h.2 q}|_=>exact h.elim}
end
structure Walk(K:Frag)(F:Hp)(J:It)(ds:↥D):Prop where
 go:∀H i,Same F H->i<ds.length->J.go i H
 yld:∀H i x H',Same F H->i<ds.length->J.yld i H x H'->H'=H/\∃d,ds[i]?=!d/\Den K F x d
 stop:∀H,Same F H->J.stop ds.length H
abbrev FI:=FSt->(↥D->FSt->Prop)->Prop
variable{fi:FI}
structure ITF(K:Frag)(μ:↥Nat)(t:TI)(f:FI):Prop where
 h:∀{F Z H:Hp}{τ σ:St}{ρ:FSt}{A:↥Addr}{Q:It->Hp->Prop}{P:↥D->FSt->Prop},View μ τ σ->Rel K F Z H σ ρ A->f ρ P ->
  (∀ds ρ' J F' H' A',P ds ρ'->Same F F'->Rel K F' Z H' σ ρ' A'->Walk K F' J ds->Q J H')->t τ H Q
def bW(fe:FE):FI:=λρ Q=>fe ρ λr b=>match fzR r b with|some (.lst ds,a)=>Q ds a|_=>False
def ut(fe:FE):FI:=λρ Q=>fe ρ λr b=>match fzR r b with|some (.tup ds,a)=>Q ds a|_=>False
def gW(z:Str):↥D:=z.cps.toList.map λc=>.str {#[c]}
def EW(fe:FE):FI:=λρ Q=>fe ρ λr b=>match fzR r b with|some (.str z,a)=>Q (gW z) a|_=>False
def eA(lo:Int)(n:Nat):↥D:=(List.range n).map λ(k:Nat)=>.int (lo+(k:Int))
def eS(fa:FA):FI:=λρ Q=>fa ρ λb a=>onL a b λds=>match ds with|[.int j]=>(-(2 ^ 62)<=j/\j<2 ^ 62)/\Q (eA 0 j.toNat) a|_=>False
def uu(fa:FA):FI:=λρ Q=>fa ρ λb a=>onL a b λds=>match ds with|[.int i,.int j]=>(-(2 ^ 62)<=i/\i<2 ^ 62/\-(2 ^ 62)<=j/\j<2 ^ 62)/\Q (eA i (j - i).toNat) a|_=>False
section
variable{K:Frag}
def uv(h:SqL K F a xs)(t:Dens K F xs ds):Walk K F (Itl K a) ds:=-
 {λH i s hi=>by
  let⟨x,h1,h2⟩:=t.get (abU hi);exact{xs,x,s.seq h,h1},λH i x H' s hi y=>by
  let⟨rfl,y⟩:=y;let⟨d,h1,h2⟩:=t.get' (y xs (s.seq h));exact{(rfl),d,h1,h2},λH s=>{xs,s.seq h,by rw[t.length];exact aab _}}
def yZ(h:SqT K F a xs)(t:Dens K F xs ds):Walk K F (Itt K a) ds:=-
 {λH i s hi=>by
  let⟨x,h1,h2⟩:=t.get (abU hi);exact{xs,x,h.same s,h1},λH i x H' s hi y=>by
  let⟨rfl,y⟩:=y;let⟨d,h1,h2⟩:=t.get' (y xs (h.same s));exact{(rfl),d,h1,h2},λH s=>{xs,h.same s,by rw[t.length];exact aab _}}
def y0:Walk K F (Its z) (gW z):=-
 {λH i s hi=>by (have hi:i<z.cps.size:=by simpa [gW]using hi);exact hi,λH i x H' s hi y=>by
  let⟨rfl,c,h1,rfl⟩:=y;exact{rfl,.str {#[c]},by rw[gW,abW,h1];rfl,.str _},λH s=>by
  show (gW z).length=z.cps.size;simp[gW]}
def oZ{lo:Int}:Walk K F (Itr lo n) (eA lo n):=-
 {λH i s hi=>by (have hi:i<n:=by simpa [eA]using hi);exact hi,λH i x H' s hi y=>by
  let⟨rfl,rfl⟩:=y;have hi:i<n:=by simpa [eA]using hi
  exact{rfl,.int (lo+i),by simp[eA,hi],.int _},λH s=>by
  show n<=(eA lo n).length;simp[eA]}
def y4(i:EF K μ te fe):ITF K μ (nu K te) (bW fe):=-{by
 intro F Z H k σ ρ A Q P c R h q;refine i.h c R h λr a v F1 H1 p m h1 g j v1 f1=>?_;generalize e:fzR r a=o at h1;obtain _|⟨d,b⟩:=o
 .exact faa h1
 cases d
 case lst ds=>
  let⟨l,n,f,R2,dn,_,_⟩:=j.frz v1 f1 e
  cases dn with
  |lst hs t=>exact {_,rfl,{_,R2.fh.seq hs},q _ _ _ _ _ _ h1 (g.trans f) R2 (uv hs t)}
 all_goals exact faa h1}
def EX(i:EF K μ te fe):ITF K μ (ME K te) (ut fe):=-{by
 intro F Z H k σ ρ A Q P c R h q;refine i.h c R h λr a v F1 H1 p m h1 g j v1 f1=>?_;generalize e:fzR r a=o at h1;obtain _|⟨d,b⟩:=o
 .exact faa h1
 cases d
 case tup ds=>
  let⟨l,n,f,R2,dn,_,_⟩:=j.frz v1 f1 e
  cases dn with
  |tup hs t=>exact {_,rfl,{_,SqT.of (R2.fh _ _ hs)},q _ _ _ _ _ _ h1 (g.trans f) R2 (yZ (SqT.of hs) t)}
 all_goals exact faa h1}
def EY(g:EF K μ te fe):ITF K μ (Ny te) (EW fe):=-{by intro F Z H j σ ρ A Q P c R h q;refine g.h c R h λr b v F1 H1 n l h1 f i v1 f1=>?_;split at h1;rename_i z a e;let⟨k,m,d,R2,dn,_,_⟩:=i.frz v1 f1 e;exact{z,dn.str_eq,q _ _ _ _ _ _ h1 (f.trans d) R2 y0};exact h1.elim}
def bZ(h:Accs K F H xs [d]):∃x,xs=[x]/\Acc K F H x d:=by cases h with|cons a t=>cases t;exact{_,rfl,a}
def o0(h:Accs K F H xs [d,e]):∃x y,xs=[x,y]/\Acc K F H x d/\Acc K F H y e:=by cases h with|cons a t=>obtain⟨y,rfl,b⟩:=bZ t;exact{_,_,rfl,a,b}
def y6{fa:FA}(g:AF K μ t fa):ITF K μ (Dt t) (eS fa):=-{by
 intro F Z H k σ ρ A Q P e R h q;refine g.h e R h λl c xs F1 H1 n m h1 f b v1 f1=>?_;let⟨ds,i,h2⟩:=oW h1;obtain _|⟨d,r⟩:=ds
 .exact faa h2
 cases d
 case int j=>
  cases r with
  |cons=>exact faa h2
  |nil=>
   let⟨x,rfl,a⟩:=bZ (b.accs v1 i);exact{j,by rw[a.int_eq],h2.1.1,h2.1.2,q _ _ _ _ _ _ h2.2 f b oZ}
 all_goals exact faa h2}
def y8{fa:FA}(l:AF K μ t fa):ITF K μ (Du t) (uu fa):=-{by
 intro F Z H n σ ρ A Q P g R h q;refine l.h g R h λo f xs F1 H1 r p h1 k c v1 f1=>?_;let⟨ds,m,h2⟩:=oW h1
 cases ds with
 |nil=>exact faa h2
 |cons d ds=>cases d with
  |int i=>cases ds with
   |nil=>exact faa h2
   |cons e ds=>cases e with
    |int j=>cases ds with
     |nil=>
      let⟨x,y,rfl,a,b⟩:=o0 (c.accs v1 m);exact{i,j,by rw[a.int_eq,b.int_eq],h2.1,q _ _ _ _ _ _ h2.2 k c oZ}
     |cons _ _=>exact faa h2
    |_=>exact faa h2
  |_=>exact faa h2}
end
structure FEnds where
 nx:FSt->Prop
 rt:OV->FSt->Prop
 bk:FSt->Prop:=λ_=>False
 ct:FSt->Prop:=λ_=>False
variable{E:FEnds}
abbrev FS:=FEnds->FSt->Prop
def Pin(n:Nat)(m:↥Nat)(σ0 σ:St):Prop:=σ.length=n/\∀i∈m,σ[i]?=σ0[i]?
structure EndsOk(K:Frag)(n:Nat)(m:↥Nat)(F Z:Hp)(σ0:St)(D:Ends)(fD:FEnds):Prop where
 nx:∀F' H' σ' ρ' A',Same F F'->Rel K F' Z H' σ' ρ' A'->Pin n m σ0 σ'->fD.nx ρ'->D.nx σ' H'
 rt:∀F' H' σ' ρ' A' v o B,Same F F'->Rel K F' Z H' σ' ρ' A'->Pin n m σ0 σ'->Ow K F' H' v o B->Fresh F' Z A' B->fD.rt o ρ'->D.rt v H'
 bk:∀F' H' σ' ρ' A',Same F F'->Rel K F' Z H' σ' ρ' A'->Pin n m σ0 σ'->fD.bk ρ'->D.bk σ' H'
 ct:∀F' H' σ' ρ' A',Same F F'->Rel K F' Z H' σ' ρ' A'->Pin n m σ0 σ'->fD.ct ρ'->D.ct σ' H'
def EndsOk.mono{K:Frag}{D:Ends}{fD:FEnds}(E:EndsOk K n m F Z σ0 D fD)(e:Same F F1):EndsOk K n m F1 Z σ0 D fD:=- {λF' H' a b A' s=>E.nx F' H' a b A' (e.trans s),λF' H' a b A' v o B s=>E.rt F' H' a b A' v o B (e.trans s),λF' H' a b A' s=>E.bk F' H' a b A' (e.trans s),λF' H' a b A' s=>E.ct F' H' a b A' (e.trans s)}
structure SF(K:Frag)(n:Nat)(m:↥Nat)(t:TS)(f:FS):Prop where
 h:∀{F Z H:Hp}{σ0 σ:St}{ρ:FSt}{A:↥Addr}{D:Ends}{fD:FEnds},Rel K F Z H σ ρ A->Pin n m σ0 σ->EndsOk K n m F Z σ0 D fD->f fD ρ->t D σ H
def aB:FS:=λD ρ=>D.nx ρ
def Cf:FS:=λD ρ=>D.bk ρ
def Kb:FS:=λD ρ=>D.ct ρ
def i7:FSt->(FSt->Prop)->Prop|[],k=>k []|a::l,k=>i7 l λb=>k (a::b)
theorem dh:∀(ρ:FSt)(k:FSt->Prop),i7 ρ k↔k ρ|[],k=>Iff.rfl|a::l,k=>by rw[i7,dh l]
def am(f g:FS):FS:=λD ρ=>f {D with nx:=λa=>i7 a (g D)} ρ
@[irreducible] def fIf(c:FT)(f g:FS)(E:FEnds)(ρ:FSt):Prop:=c ρ λb a=>br b (f E a) (g E a)
def aA{c:FT}{f g:FS}(h:c ρ λb a=>br b (f E a) (g E a)):fIf c f g E ρ:=by unfold fIf;exact h
def di{c:FT}{f:FS}(p:Prop)(rest:p->E.nx ρ)(h:(p->E.nx ρ)->c ρ λb a=>br b (f E a) (E.nx a)):fIf c f aB E ρ:=-aA (h rest)
def bc(fe:FE):FS:=λD ρ=>fe ρ λr b=>match takeR r b with|some (o,a)=>D.rt o a|none=>False
def Kc:FS:=λD ρ=>D.rt (.fz .non) ρ
def bR(fe:FE):FS:=λD ρ=>fe ρ λ_ a=>D.nx a
def bS(fe:FE)(fg:FG):FS:=λD ρ=>fe ρ λr b=>match fzR r b with|some (d,a)=>fg d a D.nx|none=>False
def cn(i:Nat)(fe:FE):FS:=λD ρ=>fe ρ λr a=>match r with|.ov o=>D.nx (a.set i !o)|.br _=>False
def o4(fg:FG)(fb:FS)(E:FEnds):↥D->FSt->Prop|[],ρ=>E.nx ρ|d::ds,ρ=>fg d ρ λa=>fb {nx:=o4 fg fb E ds,ct:=o4 fg fb E ds,bk:=E.nx,rt:=E.rt} a
@[irreducible] def dU(fg:FG)(fb:FS)(E:FEnds)(ds:↥D)(ρ:FSt):Prop:=o4 fg fb E ds ρ
def kI(fg:FG)(fb:FS)(E:FEnds)(ds:↥D):dU fg fb E ds=o4 fg fb E ds:=by funext ρ;unfold dU;rfl
def lY(fg:FG)(fb:FS)(E:FEnds)(ρ:FSt):dU fg fb E [] ρ=E.nx ρ:=by rw[kI];rfl
def lZ(fg:FG)(fb:FS)(E:FEnds)(d:D)(ds:↥D)(ρ:FSt):dU fg fb E (d::ds) ρ=fg d ρ λa=>fb {nx:=dU fg fb E ds,ct:=dU fg fb E ds,bk:=E.nx,rt:=E.rt} a:=by rw[kI,kI];rfl
def kJ(fi:FI)(fg:FG)(fb:FS):FS:=λD ρ=>fi ρ λds a=>i7 a (dU fg fb D ds)
def kK(fc:FT)(fb:FS)(E:FEnds):Nat->FSt->Prop|0,_=>False|n+1,ρ=>fc ρ λb a=>br b (fb {nx:=kK fc fb E n,ct:=kK fc fb E n,bk:=E.nx,rt:=E.rt} a) (E.nx a)
@[irreducible] def cE(fc:FT)(fb:FS)(E:FEnds)(n:Nat)(ρ:FSt):Prop:=kK fc fb E n ρ
def i8(fc:FT)(fb:FS)(E:FEnds)(n:Nat):cE fc fb E n=kK fc fb E n:=by funext ρ;unfold cE;rfl
def rh(fc:FT)(fb:FS)(E:FEnds)(ρ:FSt):cE fc fb E 0 ρ=False:=by rw[i8];rfl
def j3(fc:FT)(fb:FS)(E:FEnds)(n:Nat)(ρ:FSt):cE fc fb E (n+1) ρ=fc ρ λb a=>br b (fb {nx:=cE fc fb E n,ct:=cE fc fb E n,bk:=E.nx,rt:=E.rt} a) (E.nx a):=by rw[i8,i8];rfl
def uw{fb:FS}(h:E.nx ρ):dU fg fb E [] ρ:=by rw[lY];exact h
def rj{fb:FS}(h:fg d ρ λa=>fb {nx:=dU fg fb E ds,ct:=dU fg fb E ds,bk:=E.nx,rt:=E.rt} a):dU fg fb E (d::ds) ρ:=by rw[lZ];exact h
def nK{fb:FS}(h:fc ρ λb a=>br b (fb {nx:=cE fc fb E n,ct:=cE fc fb E n,bk:=E.nx,rt:=E.rt} a) (E.nx a)):cE fc fb E (n+1) ρ:=by rw[j3];exact h
def i9(fc:FT)(fb:FS):FS:=λD ρ=>∃n,cE fc fb D n ρ
section
variable{K:Frag}
def Pin.refl{σ:St}(h:σ.length=n):Pin n m σ σ:=-{h,λ_ _=>rfl}
def Pin.set{x:Option V}(p:Pin n m σ0 σ)(hi:i∉m):Pin n m σ0 (σ.set i x):=-{by rw[aaG];exact p.1,λj a=>by rw[ack λz=>hi (by rw[z];exact a)];exact p.2 j a}
def EZ:SF K n m Dj aB:=-{fun {F Z H σ0 σ ρ A D a} R p E h=>E.nx _ _ _ _ _ (Same.refl _) R p h}
def y9:SF K n m sn Cf:=-{fun {F Z H σ0 σ ρ A D a} R p E h=>E.bk _ _ _ _ _ (Same.refl _) R p h}
def E1:SF K n m Dm Kb:=-{fun {F Z H σ0 σ ρ A D a} R p E h=>E.ct _ _ _ _ _ (Same.refl _) R p h}
def Kd{t u:TS}{f g:FS}(h1:SF K n m t f)(h2:SF K n m u g):SF K n m (M4 t u) (am f g):=-{fun {F Z H σ0 σ ρ A D b} R p E h=>h1.h (fD:={b with nx:=λa=>i7 a (g b)}) R p {λF' H' c a A' s R' d q=>h2.h R' d (E.mono s) ((dh a (g b)).mp q),E.rt,E.bk,E.ct} h}
def NU{c:TT}{t u:TS}{f g:FS}(i:TF K (List.range n) c fc)(h1:SF K n m t f)(h2:SF K n m u g):SF K n m (M6 c t u) (fIf fc f g):=-{fun {F Z H σ0 σ ρ A D d} R p E h=>i.h (P:=λb a=>br b (f d a) (g d a)) (View.id p.1) R (by unfold fIf at h;exact h) λb a F1 H1 j q s e=>by cases b with|true=>exact h1.h e p (E.mono s) (uh q)|false=>exact h2.h e p (E.mono s) (uk q)}
def Ke(f:EF K (List.range n) te fe):SF K n m (M5 te) (bc fe):=-{by intro F Z H σ0 σ ρ A D i R p E h;refine f.h (View.id p.1) R h λr b v F1 H1 l j h1 c g v1 f1=>?_;split at h1;rename_i o a e;let⟨C,k,R2,d,f2,_,_⟩:=g.takeR v1 f1 e;exact E.rt _ _ _ _ _ _ _ _ c R2 p d f2 h1;exact h1.elim}
def E2:SF K n m Do Kc:=-{fun {F Z H σ0 σ ρ A D a} R p E h=>E.rt _ _ _ _ _ _ _ _ (Same.refl _) R p (.fz .non) Fresh.nil h}
def E3(c:EF K (List.range n) te fe):SF K n m (xM te) (bR fe):=-{fun {F Z H σ0 σ ρ A D e} R p E h=>c.h (View.id p.1) R h λr a v F1 H1 g f h1 b d v1 f1=>E.nx _ _ _ _ _ b d p h1}
def kL(n:Nat):∀j i:Nat,(List.range n)[j]?=!i->i=j:=-λj i h=>by let⟨h1,h2⟩:=abT.mp h;rw[acO]at h2;exact h2.symm
def Kf(w:EF K (List.range n) te fe)(u:GF K (List.range n) T g fg)(x:∀i∈m,i∉T):SF K n m (qE te g) (bS fe fg):=-{by intro F Z H σ0 σ ρ A D z R p E h;refine w.h (View.id p.1) R h λr j v F1 H1 I C h1 s y v1 f1=>?_;split at h1;rename_i d f e;let⟨B,G,o,R2,dn,_,_⟩:=y.frz v1 f1 e;refine u.h (View.id p.1) R2 dn h1 fun b c l A' q _ R' k t a _=>?_;rw[a (kL n) rfl];exact E.nx _ _ _ _ _ (s.trans o) R' {t.trans p.1,λi hi=>by rw[k i (x i hi)];exact p.2 i hi} q;exact h1.elim}
def E4(c:EF K (List.range n) te fe)(hi:i∉m):SF K n m (qE te (fG i)) (cn i fe):=-{by intro F Z H σ0 σ ρ A D e R p E h;refine c.h (View.id p.1) R h λr a v F1 H1 k f h1 b d v1 f1=>?_;cases r with|ov o=>let⟨g,R2,_⟩:=d.assign (i:=i) v1 f1;exact E.nx _ _ _ _ _ b R2 (p.set hi) h1|br j=>exact h1.elim}
def Kg{tb:TS}{fb:FS}(hi:ITF K (List.range n) wi fi)(X:GF K (List.range n) T g fg)(hT:∀i∈m,i∉T)(Y:SF K n m tb fb):SF K n m (Na wi g tb) (kJ fi fg fb):=-{by intro F Z H σ0 σ ρ A D l R p E h;refine hi.h (View.id p.1) R h λds M J F1 H1 A1 h1 O R1 N=>?_;rw[dh]at h1;refine{λi k s H'=>k=ds.length - i/\i<=ds.length/\∃F' t A',Same F1 F'/\Rel K F' Z H' s t A'/\Pin n m σ0 s/\dU fg fb l (ds.drop i) t,{_,rfl,aan _,F1,M,A1,Same.refl _,R1,p,by rw[aaS];exact h1},?_};rintro i k s H' ⟨rfl,W,F',t,A',s',R',I,h'⟩;by_cases f:i<ds.length;rw[aav f,lZ]at h';refine .inr {N.go H' i (s'.trans R'.fh) f,λj H2=>∃G c L,Same F1 G/\Rel K G Z H2 j c L/\Pin n m σ0 j/\dU fg fb l (ds.drop (i+1)) c,λj H2 q=>{_,(),rfl,f,q},λx H2 y=>?_};let⟨rfl,d,hd,dn⟩:=N.yld H' i x H2 (s'.trans R'.fh) f y;rw[abU f]at hd;cases hd;refine X.h (View.id I.1) R' (dn.mono s') h' fun Q j c L q _ R2 k V P _=>?_;rw[P (kL n) rfl];have C:∀r u a b w,Same F' r->Rel K r Z u a b w->Pin n m σ0 a->dU fg fb l (ds.drop (i+1)) b->∃G c L,Same F1 G/\Rel K G Z u a c L/\Pin n m σ0 a/\dU fg fb l (ds.drop (i+1)) c:=λr u a b w z R3 U S=>{r,b,w,s'.trans z,R3,U,S};refine Y.h (fD:={nx:=dU fg fb l (ds.drop (i+1)),ct:=dU fg fb l (ds.drop (i+1)),bk:=l.nx,rt:=l.rt}) R2 {V.trans I.1,λi hi=>by rw[k i (hT i hi)];exact I.2 i hi} {C,λr u a b w v o B z=>E.rt r u a b w v o B (O.trans (s'.trans z)),λr u a b w z=>E.nx r u a b w (O.trans (s'.trans z)),C} q;have e:i=ds.length:=();subst e;rw[aaP,lY]at h';exact .inl {N.stop H' (s'.trans R'.fh),E.nx _ _ _ _ _ (O.trans s') R' I h'}}
def za{c:TT}{tb:TS}{fb:FS}(L:TF K (List.range n) c fc)(M:SF K n m tb fb):SF K n m (sq c tb) (i9 fc fb):=-{by intro F Z H σ0 σ ρ A D f R p E h;let⟨N,h⟩:=h;refine{λk j H'=>∃F' l A',Same F F'/\Rel K F' Z H' j l A'/\Pin n m σ0 j/\cE fc fb f k l,{N,F,ρ,A,Same.refl _,R,p,h},?_};rintro k j H' ⟨F',l,A',s',R',y,h'⟩;cases k with|zero=>rw[rh]at h';exact h'.elim|succ k=>rw[j3]at h';refine L.h (View.id y.1) R' h' λb G F1 H1 P q x C=>?_;cases b with|false=>exact E.nx _ _ _ _ _ (s'.trans x) C y (uk q)|true=>replace q:=uh q;rw[if_pos rfl];have u:∀g r a d s,Same F1 g->Rel K g Z r a d s->Pin n m σ0 a->cE fc fb f k d->∃w e z,Same F w/\Rel K w Z r a e z/\Pin n m σ0 a/\cE fc fb f k e:=λg r a d s t O J I=>{g,d,s,(s'.trans x).trans t,O,J,I};exact{λi H2=>∃w e z,Same F w/\Rel K w Z H2 i e z/\Pin n m σ0 i/\cE fc fb f k e,λi H2 q=>{k,aaz k,q},M.h (fD:={nx:=cE fc fb f k,ct:=cE fc fb f k,bk:=f.nx,rt:=f.rt}) C y {u,λg r a d s v o B t=>E.rt g r a d s v o B ((s'.trans x).trans t),λg r a d s t=>E.nx g r a d s ((s'.trans x).trans t),u} q}}
end
def o6(fg:FG)(ft:FT)(fe:FE)(P:↥D->FSt->Prop):↥D->↥D->FSt->Prop|[],as,ρ=>P as ρ|d::ds,as,ρ=>fg d ρ λf=>ft f λb a=>br b (fe a λr e=>match fzR r e with|some (y,c)=>as.length<sizeLine/\o6 fg ft fe P ds (as++[y]) c|none=>False) (o6 fg ft fe P ds as a)
@[irreducible] def eT(fg:FG)(ft:FT)(fe:FE)(P:↥D->FSt->Prop)(ds as:↥D)(ρ:FSt):Prop:=o6 fg ft fe P ds as ρ
def kM(fg:FG)(ft:FT)(fe:FE)(P:↥D->FSt->Prop)(ds:↥D):eT fg ft fe P ds=o6 fg ft fe P ds:=by funext as ρ;unfold eT;rfl
def ja(fg:FG)(ft:FT)(fe:FE)(P:↥D->FSt->Prop)(as:↥D)(ρ:FSt):eT fg ft fe P [] as ρ=P as ρ:=by rw[kM];rfl
def jb(fg:FG)(ft:FT)(fe:FE)(P:↥D->FSt->Prop)(d:D)(ds as:↥D)(ρ:FSt):eT fg ft fe P (d::ds) as ρ=(fg d ρ λf=>ft f λb a=>br b (fe a λr e=>match fzR r e with|some (y,c)=>as.length<sizeLine/\eT fg ft fe P ds (as++[y]) c|none=>False) (eT fg ft fe P ds as a)):=by rw [kM,kM];rfl
def ux{P:↥D->FSt->Prop}(h:P as ρ):eT fg ft fe P [] as ρ:=by rw[ja];exact h
def rm{P:↥D->FSt->Prop}(h:fg d ρ λf=>ft f λb a=>br b (fe a λr e=>match fzR r e with|some (y,c)=>as.length<sizeLine/\eT fg ft fe P ds (as++[y]) c|none=>False) (eT fg ft fe P ds as a)):eT fg ft fe P (d::ds) as ρ:=by rw [jb];exact h
def Kh(no:Nat)(fi:FI)(fg:FG)(ft:FT)(fe:FE):FE:=λρ Q=>fi ρ λds ρ1=>i7 (List.replicate no none++ρ1) (eT fg ft fe (λas a=>Q (.ov (.fl as)) (a.drop no)) ds [])
def muC(no:Nat)(ixs μ:↥Nat):↥Nat:=List.range no++ixs.map λj=>no+μ.getD j 0
section
variable{K:Frag}
theorem Slots.none_app{K:Frag}{F H:Hp}{σ:St}{ρ:FSt}{A:↥Addr}(h:Slots K F H σ ρ A):∀n,Slots K F H (List.replicate n none++σ) (List.replicate n none++ρ) A|0=>h|n+1=>.skip (Slots.none_app h n)
def Slots.dropN{K:Frag}(n:Nat)(h:Slots K F H σ ρ A):∃A' B,A=B++A'/\Slots K F H (σ.drop n) (ρ.drop n) A':=by induction h generalizing n with|nil=>cases n<;>exact{[],[],rfl,.nil}|skip t a=>{cases n with|zero=>exact {_,[],rfl,.skip t}|succ n=>exact a n}|@has _ _ _ _ C _ h t a=>cases n with|zero=>exact {_,[],rfl,.has h t}|succ n=>let⟨A',B,rfl,h2⟩:=a n;exact{A',C++B,by rw[aay],h2}
def Rel.write{o:HO}(R:Rel K F Z H σ ρ A)(g:a∉A)(f:F a=none)(d:Z a=none):Rel K F Z (upd H a o) σ ρ A:=by have e:∀b u,b≠a->H b=!u->upd H a o b=!u:=λb u h q=>by{rw[aj h];exact q};exact{R.sl.keep (Same.refl _) λb u c q=>e b u (λz=>g (z ▸ c)) q,R.nd,R.fr,λb u q=>e b u (λz=>by rw[z,f]at q;cases q) (R.fh b u q),{λb u q=>e b u (λz=>by rw[z,d]at q;cases q) (R.zh.s b u q),R.zh.n},R.dj}
def gi{b:St}(e:View μ b σ)(d:∀j∈ixs,j<μ.length):View (muC no ixs μ) (List.replicate no none++lU b ixs) (List.replicate no none++σ):=by intro j i h;unfold muC at h;by_cases a:j<no;rw[acg (by exists a)]at h;have:=kL no j i h;subst this;rw[acg (by exists a),acg (by exists a)];refine{rfl,?_,?_}<;>simp<;>nofun;rw[ab7 (by exists a)]at h;rw[acz,abW,aai]at h;let⟨j0,h1,h2⟩:=h;have c:=d j0 (abX h1);let⟨v1,f,g⟩:=e j0 (μ.getD j0 0) (by rw[ab5,abU c];rfl);have k:j - no<ixs.length:=(abT.mp h1).1;refine{?_,?_,?_};rw[ab7 (by exists a),aaJ,←h2,ab7 (by simp),aaJ,aa3,←v1];unfold lU;rw[List.getElem?_map,h1];show ↑((b[j0]?).getD none)=b[j0]?;rw[abU f];rfl;unfold lU;simp;nofun;simp;nofun
abbrev Ki(K:Frag)(fg:FG)(fc:FT)(fe:FE)(P:RV->FSt->Prop)(no:Nat)(m:↥Nat)(F1 Z:Hp)(σ:St)(a:Addr)(rest:↥D)(acc:↥V)(d:St)(H':Hp):Prop:=∃F' b A' c as,Same F1 F'/\Rel K F' Z H' c b A'/\View m d c/\(∀i,no<=i->c[i]?=(List.replicate no none++σ)[i]?)/\H' a=!(.lst acc)/\F' a=none/\a∉A'/\Dens K F' acc as/\ eT fg fc fe (λas b=>P (.ov (.fl as)) (b.drop no)) rest as b
def E5(hi:ITF K μ wi fi)(hix:∀j∈ixs,j<μ.length)(hg:GF K (muC no ixs μ) T g fg)(hT:∀i∈T,i<no)(hc:TF K (muC no ixs μ) tc fc)(he:EF K (muC no ixs μ) te fe):EF K μ (eP no ixs wi g tc te) (Kh no fi fg fc fe):=-{by intro F Z H τ σ ρ A Q P vw R h q;refine hi.h vw R h λds ρ1 J F1 H1 A1 h1 s1 W wk=>?_;rw[dh]at h1;intro a ha;have M:F1 a=none:=W.fh.free ha;have w:Z a=none:=W.zh.free ha;have S:a∉A1:=λz=>by{let⟨u,hu⟩:=W.sl.live a z;rw[ha]at hu;cases hu};have R1':Rel K F1 Z (upd H1 a (.lst [])) (List.replicate no none++σ) (List.replicate no none++ρ1) A1:=by{have:=W.write (o:=.lst []) S M w;exact{this.sl.none_app no,this.nd,this.fr,this.fh,this.zh,this.dj}};have I:∀F' H' c f A' acc as,Same F1 F'->Rel K F' Z H' c f A'->(∀i,no<=i->c[i]?=(List.replicate no none++σ)[i]?)->H' a=!(.lst acc)->F' a=none->a∉A'->Dens K F' acc as->P (.ov (.fl as)) (f.drop no)->Q (.ref a) H':=by{intro F' H' c f A' acc as s' R' k ha' hF' hA' dn p;let⟨X,B2,e2,E⟩:=R'.sl.dropN no;have es:c.drop no=σ:=by{apply acp;intro i;rw[acF,k (no+i) (by omega),ab7 (by simp),aaJ,aa3]};rw[es]at E;have V:∀b∈X,b∈A':=λb t=>by{rw[e2];exact abS.mpr (.inr t)};have R2:Rel K F' Z H' σ (f.drop no) X:={E,by have:=R'.nd;rw[e2,abI]at this;exact this.2.1,λb t=>R'.fr b (V b t),R'.fh,R'.zh,R'.dj};exact q _ _ _ _ _ _ [a] p (s1.trans s') R2 (.fl ha' dn) {by simp,λb t=>by have:b=a:=(by exists t);subst this;exact{hF',w,λz=>hA' (V _ z)}}};refine{λi k acc m H'=>k=ds.length - i/\i<=ds.length/\Ki K fg fc fe P no (muC no ixs μ) F1 Z σ a (ds.drop i) acc m H',{_,rfl,aan _,F1,_,A1,_,[],Same.refl _,R1',gi vw hix,λ_ _=>rfl,ah,M,S,.nil,by rw[aaS];exact h1},?_};rintro i k acc m H' ⟨rfl,hle,F',f,A',c,as,s',R',vw',kp,N,L,O,dn,h'⟩;by_cases l:i<ds.length;rw[aav l,jb]at h';refine .inr {wk.go H' i (s'.trans R'.fh) l,λacc m H'=>Ki K fg fc fe P no (muC no ixs μ) F1 Z σ a (ds.drop (i+1)) acc m H',λacc' n H2 z=>{_,by omega,rfl,l,z},λx H2 y=>?_};let⟨rfl,d,hd,dx⟩:=wk.yld H' i x H2 (s'.trans R'.fh) l y;rw[abU l]at hd;cases hd;refine hg.h vw' R' (dx.mono s') h' fun τ2 n ρ2 X p2 s R2 k2 kl2 _ V=>?_;have G:∀i,no<=i->n[i]?=(List.replicate no none++σ)[i]?:=λi hi=>by{rw[k2 i λz=>by have:=hT i z;omega];exact kp i hi};have fD:Fresh F' Z X [a]:={by simp,λb t=>by have:b=a:=(by exists t);subst this;exact{L,w,λz=>O (V _ z)}};let⟨Z',sz,R2',zl,back⟩:=R2.hold (B:=[a]) (λb t=>by have:b=a:=(by exists t);subst this;exact{_,N}) (.one N (λ_ z=>nomatch z) .nil) fD;refine hc.h s R2' p2 λb ρ3 F3 H3 A3 D C R3=>?_;cases b with|false=>replace D:=uk D;rw[if_neg ab3];let⟨R3',f3,k3⟩:=back _ _ _ _ C R3;have fa:=f3.fr a (by simp);exact{F3,ρ3,A3,n,as,s'.trans C,R3',s,G,k3 a _ (by simp) N,fa.1,fa.2.2,dn.mono C,D}|true=>{replace D:=uh D;rw[if_pos rfl];refine he.h s R3 D λr ρ4 v F4 H4 A4 B4 U s4 R4 v4 f4=>?_;split at U;rename_i y Y e5;let⟨F5,A5,s5,R5,dy,_,_⟩:=R4.frz v4 f4 e5;let⟨R5',f5,k5⟩:=back _ _ _ _ ((C.trans s4).trans s5) R5;have fa:=f5.fr a (by simp);refine{k5 a _ (by simp) N,by rw[dn.length];exact U.1,F5,Y,A5,n,as++[y],((s'.trans C).trans s4).trans s5,R5'.write fa.2.2 fa.1 w,s,G,ah,fa.1,fa.2.2,(dn.mono ((C.trans s4).trans s5)).snoc dy,U.2};exact U.elim};have e:i=ds.length:=by{omega};subst e;rw[aaP,ja]at h';exact .inl {wk.stop H' (s'.trans R'.fh),I _ _ _ _ _ _ _ s' R' kp N L O dn h'}}
def unL(ρ:FSt)(i:Nat):Option ↥D:=match ρ[i]? with|some ↑(.fl ds)=>!ds|_=>none
def unD(ρ:FSt)(i:Nat):Option (↥Key×↥D):=match ρ[i]? with|some ↑(.fd ks ds)=>!(ks,ds)|_=>none
def Kj(h:unL ρ i=!ds):ρ[i]?=!!(.fl ds):=by unfold unL at h;split at h;rename_i os e;cases h;exact e;cases h
def l0(h:unD ρ i=!(ks,ds)):ρ[i]?=!!(.fd ks ds):=by unfold unD at h;split at h;rename_i a os e;cases h;exact e;cases h
def Rel.mutL(R:Rel K F Z H σ ρ A)(h:unL ρ i=!ds):∃a xs,σ[i]?=!!(.ref a)/\H a=!(.lst xs)/\Dens K F xs ds/\ ∀b c,Dens K F b c->∃A',Rel K F Z (upd H a (.lst b)) σ (ρ.set i !(.fl c)) A':=by have e:=Kj h;let⟨v,B,A',h1,h2,R',f,pm⟩:=R.takeI e;cases h2 with|@fl a xs os j dn=>have fa:=f.fr a (by simp);refine{a,xs,h1,j,dn,λb c d=>?_};have R2:=R'.write (o:=.lst b) fa.2.2 fa.1 fa.2.1;let⟨k,g,_⟩:=R2.putI (dg e) h1 (.fl ah d) f;rw[aa4]at g;exact{(k),g}
def Rel.mutD(R:Rel K F Z H σ ρ A)(h:unD ρ i=!(ks,ds)):∃a ys,σ[i]?=!!(.ref a)/\H a=!(.dK ys)/\ys.map (·.1)=ks/\Dens K F (ys.map (·.2)) ds/\ ∀b c d,b.map (·.1)=c->Dens K F (b.map (·.2)) d->∃A',Rel K F Z (upd H a (.dK b)) σ (ρ.set i !(.fd c d)) A':=by have e:=l0 h;let⟨v,B,A',h1,h2,R',j,pm⟩:=R.takeI e;cases h2 with|@fd a ys ks os l m dn=>have fa:=j.fr a (by simp);refine{a,ys,h1,l,m,dn,λb c d f g=>?_};have R2:=R'.write (o:=.dK b) fa.2.2 fa.1 fa.2.1;let⟨n,k,_⟩:=R2.putI (dg e) h1 (.fd ah f g) j;rw[aa4]at k;exact{(n),k}
def sh(i:Nat)(fe:FE):FE:=λρ Q=>(unL ρ i).isSome=true/\fe ρ λr b=>match fzR r b with|some (d,a)=>(match unL a i with|some ds=>ds.length<sizeLine/\Q (.ov (.fz .non)) (a.set i !(.fl (ds++[d])))|none=>False)|none=>False
def Kk(p:μ[j]?=!i)(s:EF K μ te fe):EF K μ (tBM K "list" dB (da j) (cL te iJ)) (sh i fe):=-{by intro F Z H D σ ρ A Q P k R h q;let⟨t,h⟩:=h;let⟨z,x⟩:=acn.mp t;let⟨a,xs,h1,h2,E,_⟩:=R.mutL x;refine{.ref a,(k j i p).1.trans h1,.inl {rfl,xs,SqL.of h2},?_};refine s.h k R h λr m v F1 H1 N J b o C v1 f1=>?_;split at b;rename_i d l w;let⟨I,M,n,R2,y,_,_⟩:=C.frz v1 f1 w;split at b;rename_i ds u;let⟨G,c,f,g,e,mt⟩:=R2.mutL u;rw[h1]at f;cases f;let⟨L,B⟩:=mt (c++[v]) (ds++[d]) (e.snoc y);exact{a,c,v,rfl,rfl,g,by rw[e.length];exact b.1,q _ _ _ _ _ _ _ b.2 (o.trans n) B (.fz .non) Fresh.nil};exact b.elim;exact b.elim}
def o7(i:Nat)(fe fk:FE):FS:=λE ρ=>fe ρ λr c=>match fzR r c with|some (d,b)=>(unL b i).isSome=true/\fk b λs a=>on1 a s λe=>(match e,unL a i with|.int k,↑ds=>(match ixN ds.length k with|some x=>E.nx (a.set i !(.fl (ds.set x d)))|none=>False)|_,_=>False)|none=>False
def nb:D->Option Key|.int i=>!(.inl i)|.str z=>!(.inr z)|_=>none
def jc(ks:↥Key)(ds:↥D)(k:Key)(d:D):↥Key×↥D:=if (ks.any λx=>decide (x=k))=true then (ks,(ks.zip ds).map λa=>if a.1=k then d else a.2) else (ks++[k],ds++[d])
def uy(i:Nat)(fe fk:FE):FS:=λE ρ=>fe ρ λr c=>match fzR r c with|some (d,b)=>(unD b i).isSome=true/\fk b λs a=>on1 a s λe=>(match nb e,unD a i with|some k,↑(ks,ds)=>ks.length<sizeLine/\E.nx (a.set i !(.fd (jc ks ds k d).1 (jc ks ds k d).2))|_,_=>False)|none=>False
def fN{k:Key}(h:Acc K F H v d)(e:nb d=!k):v=kV k:=by cases d with|int i=>simp only[nb,Option.some.injEq]at e;subst e;exact h.int_eq|str z=>simp only[nb,Option.some.injEq]at e;subst e;exact h.str_eq|_=>simp[nb]at e
def o8{k:Key}(e:ys.map (·.1)=ks)(dn:Dens K F (ys.map (·.2)) ds)(g:Den K F v d):(iO ys k v).map (·.1)=(jc ks ds k d).1/\Dens K F ((iO ys k v).map (·.2)) (jc ks ds k d).2:=by have j:ys.length=ds.length:=by{have:=dn.length;simpa using this};unfold jc iO;have f:(ks.any λx=>decide (x=k))=(ys.any λb=>decide (b.1=k)):=by{rw[←e,abA];rfl};by_cases c:(ks.any λx=>decide (x=k))=true;have a:(ys.any λb=>decide (b.1=k))=true:=f ▸ c;rw[if_pos a,if_pos c];constructor;rw[aar,←e];refine abh λb _=>?_;show (if b.1=k then (b.1,v) else b).1=b.1;split<;>rfl;subst e;clear c a j f;induction ys generalizing ds with|nil=>cases dn;exact .nil|cons y ys i=>{cases dn with|cons m l=>refine .cons ?_ (i l);show Den K F (if y.1=k then (y.1,v) else y).2 (if y.1=k then d else _);split;exact g;exact m};have a:¬(ys.any λb=>decide (b.1=k))=true:=f ▸ c;rw[if_neg a,if_neg c];refine{by rw[aae,e];rfl,?_};rw[aae];exact dn.snoc g
def zb{ti:TE}(I:i<n)(J:EF K (List.range n) te fe)(G:EF K (List.range n) ti fk):SF K n m (qE te (M9 (da i) ti DO)) (o7 i fe fk):=-{by intro F Z H σ0 σ ρ A D W R p E h;refine J.h (View.id p.1) R h λr u v F1 H1 A1 B1 e B U v1 f1=>?_;split at e;rename_i d t O;let⟨F2,A2,z,R2,Q,_,_⟩:=U.frz v1 f1 O;let⟨L,e⟩:=e;let⟨S,P⟩:=acn.mp L;let⟨a,xs,h1,h2,V,_⟩:=R2.mutL P;refine{.ref a,h1,?_};refine G.h (View.id p.1) R2 e λs q w F3 H3 A3 B3 C l o y X=>?_;let⟨Y,M,c⟩:=ca C;split at c;rename_i k ds N;split at c;rename_i x ex;let⟨a',b,g,j,f,mt⟩:=o.mutL N;rw[h1]at g;cases g;let⟨A4,T⟩:=mt (b.set x v) (ds.set x d) (f.set (Q.mono l) x);exact{a,b,k,x,rfl,(o.acc y M).int_eq,j,by rw[f.length];exact ex,E.nx _ _ _ _ _ ((B.trans z).trans l) T p c};exact c.elim;exact c.elim;exact e.elim}
def E6(N:EF K (List.range n) tv fe)(M:EF K (List.range n) ty fk):SF K n m (yb (da i) ty tv) (uy i fe fk):=-{by intro F Z H σ0 σ ρ A D fD R p E h;refine N.h (View.id p.1) R h λr j v F1 H1 A1 B1 c B R1 v1 f1=>?_;generalize T:fzR r j=o at c;obtain _|⟨d,x⟩:=o;exact faa c;let⟨F2,A2,z,R2,V,_,_⟩:=R1.frz v1 f1 T;let⟨O,c⟩:=c;let⟨⟨J,W⟩,U⟩:=acn.mp O;let⟨a,xs,h1,h2,h3,_⟩:=R2.mutD U;refine{.ref a,h1,?_};refine M.h (View.id p.1) R2 c λs g w F3 H3 A3 B3 I t u y f3=>?_;let⟨X,P,b⟩:=ca I;generalize Q:nb X=o at b;generalize S:unD g i=o' at b;obtain _|k:=o;exact faa b;obtain _|⟨ks,ds⟩:=o';exact faa b;let⟨a',ys,f,q,e,l,mt⟩:=u.mutD S;rw[h1]at f;cases f;let⟨G,C⟩:=o8 (k:=k) e l (V.mono t);let⟨A4,Y⟩:=mt (iO ys k v) _ _ G C;have L:ys.length=ks.length:=by{rw[←e,abR]};exact{a,_,rfl,.inl {ys,k,q,fN (u.acc y P) Q,by rw[L];exact b.1,rfl},E.nx _ _ _ _ _ ((B.trans z).trans t) Y p b.2}}
end
def outs(m:↥Nat):Nat->↥OV->FSt->Option ↥OV|_,[],_=>![]|i,o::os,ρ=>if m.contains i=true then (match ρ[i]? with|some ↑o'=>(outs m (i+1) os (ρ.set i none)).map (o'::·)|_=>none) else (outs m (i+1) os ρ).map (o::·)
def si:OV->Bool|.fz _=>true|_=>false
def fin(m:↥Nat)(os:↥OV)(P:OV->↥OV->Prop)(o:OV)(ρ:FSt):Prop:=match outs m 0 os ρ with|some a=>P o a|none=>False
def ak(n:Nat)(os:↥OV):FSt:=os.map some++List.replicate (n - os.length) none
section
variable{K:Frag}
def Ows.length{F H:Hp}{vs:↥V}{os:↥OV}{A:↥Addr}(h:Ows K F H vs os A):vs.length=os.length:=by induction h with|nil=>rfl|cons _ t a=>exact congrArg (·+1) a
def Slots.nones(k:Nat):Slots K F H (List.replicate k none) (List.replicate k none) []:=by induction k with|zero=>exact .nil|succ k a=>exact .skip a
def Slots.of_ows(k:Nat){os:↥OV}(h:Ows K F H vs os A):Slots K F H (vs.map some++List.replicate k none) (os.map some++List.replicate k none) A:=by induction h with|nil=>exact Slots.nones k|cons h t a=>exact .has h a
def Rel.outs:∀{vs:↥V}{os:↥OV}{C:↥Addr}{i:Nat}{ρ:FSt}{A:↥Addr}{c:↥OV},Ows K F H vs os C->Same F F'->(∀j o,os[j]?=!o->i+j∉m->si o=true) ->(∀j v,vs[j]?=!v->i+j∈m->σ[i+j]?=!!v)->Rel K F' Z H' σ ρ A->_L.outs m i os ρ=!c->∃C' A':↥Addr,Ows K F' H' vs c C'/\Rel K F' Z H' σ ρ A/\C'.Nodup/\(∀a,a∈C'->a∈A/\a∉A')/\(∀a,a∈A'->a∈A):=by intro vs;induction vs with|nil=>intro os C i ρ A c h s x B R e;cases h;simp only[_L.outs,Option.some.injEq]at e;subst e;exact{[],A,.nil,R,aaH,λ_ z=>(nomatch z),λ_ z=>z}|cons v vs I=>intro os C i ρ A c h s x B R e;cases h with|@cons _ o _ os S Q h t=>simp only[_L.outs]at e;have g:∀j o,os[j]?=!o->i+1+j∉m->si o=true:=λj o q n=>x (j+1) o (by exists q) (by rw[show i+(j+1)=i+1+j from ()];exact n);have k:∀j v,vs[j]?=!v->i+1+j∈m->σ[i+1+j]?=!!v:=λj v q n=>by{have:=B (j+1) v (by exists q) (by rw[show i+(j+1)=i+1+j from ()];exact n);rw[show i+1+j=i+(j+1)from ()];exact this};split at e;rename_i d;have d:i∈m:=(by exists d);split at e;rename_i o' M;rw[aai]at e;let⟨u,E,rfl⟩:=e;let⟨L,P,A',h1,h2,R',D,pm⟩:=R.takeI M;have J:=B 0 v rfl (by exists d);rw[Nat.add_zero]at J;have:L=v:=by{rw[J]at h1;simpa using h1.symm};subst this;let⟨C',G,r,_,w,f,p⟩:=I t s g k R' E;refine{P++C',G,.cons h2 r,R,ace.mpr {D.nd,w,λa l b O z=>(D.fr a l).2.2 (by rw[z];exact(f b O).1)},λa l=>?_,λa l=>pm.mem_iff.mpr (abS.mpr (.inr (p a l)))};rcases abS.mp l with z|z;exact{pm.mem_iff.mpr (abS.mpr (.inl z)),λy=>(D.fr a z).2.2 (p a y)};exact{pm.mem_iff.mpr (abS.mpr (.inr (f a z).1)),(f a z).2};cases e;rename_i d;rw[aai]at e;let⟨u,E,rfl⟩:=e;have d:i∉m:=(by exists d);have N:=x 0 o rfl (by exists d);let⟨C',G,r,_,w,f,p⟩:=I t s g k R E;cases h with|fz dn=>exact{C',G,.cons (.fz (dn.mono s)) r,R,w,f,p}|_=>simp[si]at N
def Fun.okF{P:Program}{mg:Str->Option Value}{base:Heap}{qual:Str}{st:Stmt}{f:Addr}{fd:FuncData}{N ps:↥Str}{k:Nat}{fs:FS}(F:Fun K x qual st f fd)(S:FnScope N ps (ax st))(hN:ps.length<=N.length)(p:∀os P,c os P->os.length=ps.length/\∀j o,os[j]?=!o->j∉m->si o=true)(hm:∀i∈m,i<ps.length)(y:∀(cdv:Value)(A:Around)(outer:↥Env)(s:Shared)(H:Hp)(E:XK),Room k (A.deeper (envOfC qual (ax st) s.1.1.size f cdv)) ->∃t,BSs (sN CX0 P w K mg base N qual (ax st) f cdv A outer s H E).nox (bH st) t/\SF K N.length m t fs)(hc:∀os P,c os P->fs {nx:=fin m os P (.fz .non),rt:=fin m os P} (ak N.length os)):FnOk P w K mg base CX0 (k+1) f fd ps (spM K c):=by refine F.okB S (λvs H Q E h=>?_) (λcdv A outer s H vs Q E hr h=>?_);let⟨F1,Z,os,C,u,_,_,_,D,_,_,r,_⟩:=h;rw[D.length];exact(p os u r).1;let⟨F1,Z,os,C,u,U,sz,dj,D,nd,fr,r,q⟩:=h;let⟨t,X,hs⟩:=y cdv A outer s H E hr;refine{t,X,?_};have hl:=(p os u r).1;have L:=D.length;have R:Rel K F1 Z H (start N vs) (ak N.length os) C:=by{refine{?_,nd,fr,U,sz,dj};unfold start ak;rw[L];exact Slots.of_ows _ D};have Y:(start N vs).length=N.length:=by{unfold start;simp;nofun};have d:∀F' H' g l A' v o B,Same F1 F'->Rel K F' Z H' g l A'->Pin N.length m (start N vs) g->Ow K F' H' v o B->Fresh F' Z A' B->fin m os u o l->Q v H':=by{intro F' H' g l A' v o B s' R' I V G h';unfold fin at h';split at h';rename_i J e;let⟨C',A2,T,_,W,O,m2⟩:=Rel.outs (i:=0) D s' (λj o q n=>(p os u r).2 j o q (by exists n)) (λj v q n=>by have hj:j<vs.length:=(abT.mp q).1;rw[Nat.zero_add]at n ⊢;rw[I.2 j n];unfold start;rw[acg (by exists hj),abW,q];rfl) R' e;refine q o J v F' H' C' B h' s' R'.fh R'.zh.s R'.dj T V (ace.mpr {W,G.nd,λa M b hb z=>(G.fr b hb).2.2 (by rw[←z];exact(O a M).1)}) λa M=>?_;rcases abS.mp M with z|z;exact R'.fr a (O a z).1;exact{(G.fr a z).1,(G.fr a z).2.1};exact h'.elim};exact hs.h (fD:={nx:=fin m os u (.fz .non),rt:=fin m os u}) R (Pin.refl Y) {λF' H' g l A' s' R' I h'=>d F' H' g l A' .non (.fz .non) [] s' R' I (.fz .non) Fresh.nil h',d,λ_ _ _ _ _ _ _ _ z=>z.elim,λ_ _ _ _ _ _ _ _ z=>z.elim} (hc os u r)
end
def Pb:R2:=λx y H Q=>∃a v,x=.ref a/\DGet H a y !v/\Q v H
def E7(e:X.A.units+1<cLine):IxR X Pb:=by intro value slice pins s σ H x y v u Q I d c h hs;let⟨a,z,rfl,g,q⟩:=h;cases d;exact tail_any (nF I g) PySem.F.slot_dict_getitem.lookup (sT e I g c λi j f b=>{(z),H,f,b,q}) hs
def zc(K:Frag):R2:=λx y H Q=>rIx K x y H Q∨Pb x y H Q
def Pc:R2:=λx y H Q=>∃a o,y=.ref a/\DGet H a x o/\Q (.bl o.isSome) H
def uz:R2:=λx y H Q=>∃a o,y=.ref a/\DGet H a x o/\Q (.bl (⇑o.isSome)) H
def Kl(d:X.A.units+1<cLine):OpR X (compareOp .In) Pc:=by intro pins s σ H x y v u Q I c b h;let⟨a,o,rfl,g,q⟩:=h;cases b;exact d_in d I g c λf e=>{.bl o.isSome,H,e,rfl,q}
def uA(d:X.A.units+1<cLine):OpR X (compareOp .NotIn) uz:=by intro pins s σ H x y v u Q I c b h;let⟨a,o,rfl,g,q⟩:=h;cases b;exact DQ d I g c λf e=>{.bl (⇑o.isSome),H,e,rfl,q}
def NV(K:Frag):R2:=λx y H Q=>O7 K x y H Q∨Pc x y H Q
def uB(K:Frag):R2:=λx y H Q=>tL K x y H Q∨uz x y H Q
def E8(K:Frag)(a:X.A.units+64<cLine)(h:X.K=K):BOp X (compareOp .In) (NV K):=by subst h;exact{OpR.or Jb (Kl ())}
def rn(K:Frag)(a:X.A.units+64<cLine)(h:X.K=K):BOp X (compareOp .NotIn) (uB K):=by subst h;exact{OpR.or tM (uA ())}
def Km{a b:Expr}(K:Frag)(f:X.A.units+64<cLine)(d:BE X a ta)(c:BE X b tb)(hs:∀o i,subscripted b false o i=operate [o,i] (getItem o i))(e:X.K=K):BE X (.Subscript a b pos) (tOp (zc K) ta tb):=by subst e;exact{No (IxR.or IQ (E7 ())) d.h c.h hs}
def Kn(b:Int->Int->Bool)(a:Str->Str->Bool):R2:=λx y H Q=>(∃i j,x=.int i/\y=.int j/\Q (.bl (b i j)) H)∨∃i j,x=.str i/\y=.str j/\Q (.bl (a i j)) H
def aY(x y:Str):Bool:=decide (x.cps.toList<y.cps.toList)
def Ko:OpR X (compareOp .Lt) (λx y H Q=>∃i j,x=.str i/\y=.str j/\Q (.bl (aY i j)) H):=by intro pins s σ H x y v u Q I b a h;let⟨i,j,rfl,rfl,q⟩:=h;let⟨t,rfl⟩:=b;let⟨t',rfl⟩:=a;exact PyProof.Rows.lt_str {.bl _,H,I,rfl,q}
def Kq:OpR X (compareOp .LtE) (λx y H Q=>∃i j,x=.str i/\y=.str j/\Q (.bl (⇑(aY j i))) H):=by intro pins s σ H x y v u Q I b a h;let⟨i,j,rfl,rfl,q⟩:=h;let⟨t,rfl⟩:=b;let⟨t',rfl⟩:=a;refine PySem.P.le_str {.bl _,H,I,rfl,?_};have e:decide (¬(j.cps.toList<i.cps.toList))=⇑(aY j i):=by{unfold aY;rw[decide_not]};first|exact q|(rw[←e]at q;exact q)|(simpa [aY]using q)
def Kr:OpR X (compareOp .Gt) (λx y H Q=>∃i j,x=.str i/\y=.str j/\Q (.bl (aY j i)) H):=by intro pins s σ H x y v u Q I b a h;let⟨i,j,rfl,rfl,q⟩:=h;let⟨t,rfl⟩:=b;let⟨t',rfl⟩:=a;exact PySem.P.gt_str {.bl _,H,I,rfl,q}
def Ks:OpR X (compareOp .GtE) (λx y H Q=>∃i j,x=.str i/\y=.str j/\Q (.bl (⇑(aY i j))) H):=by intro pins s σ H x y v u Q I b a h;let⟨i,j,rfl,rfl,q⟩:=h;let⟨t,rfl⟩:=b;let⟨t',rfl⟩:=a;refine PySem.P.ge_str {.bl _,H,I,rfl,?_};have e:decide (¬(i.cps.toList<j.cps.toList))=⇑(aY i j):=by{unfold aY;rw[decide_not]};first|exact q|(rw[←e]at q;exact q)|(simpa [aY]using q)
def E9:BOp X (compareOp .Lt) (Kn (λi j=>decide (i<j)) aY):=-{OpR.or Nh Ko}
def Fa:BOp X (compareOp .LtE) (Kn (λi j=>decide (i<=j)) λi j=>⇑(aY j i)):=-{OpR.or Nj Kq}
def Fb:BOp X (compareOp .Gt) (Kn (λi j=>decide (j<i)) λi j=>aY j i):=-{OpR.or Nk Kr}
def Fc:BOp X (compareOp .GtE) (Kn (λi j=>decide (j<=i)) λi j=>⇑(aY i j)):=-{OpR.or Nl Ks}
def tyD:D->String|.non=> "NoneType"|.bl _=> "bool"|.int _=> "int"|.str _=> "str"|.lst _=> "list"|.tup _=> "tuple"|.dct _ _=> "dict"|.ty _=> "type"|.opq _ _=> "dict"|.gt _=> "tuple"|.dt _ _=> "dict"
def Fd(T:String):Bool:=T=="str"||T=="int"||T=="bool"||T=="list"||T=="tuple"||T=="dict"||T=="NoneType"
def uC{T:String}(h:Fd T=true):okT T:=by simp only[Fd,Bool.or_eq_true,beq_iff_eq]at h;unfold okT;rcases h with (((((h|h)|h)|h)|h)|h)|h<;>simp[h]
def NW(K:Frag):↥V->Hp->VK->Prop:=λxs H Q=>∃x d T,xs=[x,.ty T]/\Den K H x d/\Fd (tyD d)=true/\Fd T=true/\Q (.bl (isT (tyD d) T)) H
def zd:CallR X (.builtin "isinstance") (NW X.K):=by intro pins s σ H xs us Q I r h;let⟨x,d,T,rfl,dn,g,k,q⟩:=h;let⟨u,j,rfl,c,f⟩:=xS r;cases (show j=Value.type T from f);have e:=IY (K:=X.K) (uC g) (uC k);have fin:∀tk,EP X pins σ Q (.bool (isT (tyD d) T)) {s with toks:=tk}:=λtk=>{.bl _,H,I.tok tk,rfl,q};cases dn with|non=>exact gf I c .non e fin|bl b=>exact gf I c (.bl b) e fin|int i=>exact gf I c (.int i) e fin|str z=>exact gf I c (.str z) e fin|ty w=>simp[tyD,Fd]at g|@lst a ys ds hs t=>cases (show u=Value.ref a from c);let⟨its,_,⟨o,n,h1,h2,_⟩,_⟩:=I.list hs;exact aaA PySem.W.kitx_list I.kIn {_,h1,h2} e (λz=>nomatch z) fin|@tup a ys ds hs t=>cases (show u=Value.ref a from c);let⟨its,_,⟨o,h1,h2,_⟩,_⟩:=I.tuple (SqT.of hs);exact aaA PySem.W.kitx_tuple I.kIn {(o),h1,h2} e (λz=>nomatch z) fin|@gt a ys ds hs t=>cases (show u=Value.ref a from c);let⟨its,_,⟨o,h1,h2,_⟩,_⟩:=I.tuple hs;exact aaA PySem.W.kitx_tuple I.kIn {(o),h1,h2} e (λz=>nomatch z) fin|@dt a ys ks ds hs m t=>cases (show u=Value.ref a from c);let⟨_,_,xs,_,o,es,ep,h1,h2,_⟩:=(show ObjOk X.prog X.w H s.1 a (.dT ys)from hs.ok I.hok);exact aaA abH I.kIn {(o),h1,h2.1} e (λz=>nomatch z) fin|@dct a ys ks ds hs m t=>cases (show u=Value.ref a from c);let⟨_,_,vs,_,p⟩:=(show ObjOk X.prog X.w H s.1 a (.dK ys)from hs.ok I.hok);let⟨o,es,ep,h1,h2,_⟩:=p;exact aaA abH I.kIn {(o),h1,h2.1} e (λz=>nomatch z) fin|@opq a ys n hs v l=>cases (show u=Value.ref a from c);let⟨_,_,vs,_,p⟩:=(show ObjOk X.prog X.w H s.1 a (.dK ys)from hs.ok I.hok);let⟨o,es,ep,h1,h2,_⟩:=p;exact aaA abH I.kIn {(o),h1,h2.1} e (λz=>nomatch z) fin
def Kt(K:Frag)(h:X.K=K):BCall X (.builtin "isinstance") (NW K):=by subst h;exact{(zd)}
def Ku(K:Frag):R2:=λx y H Q=>∃l b xs zs,x=.ref l/\y=.ref b/\SqL K H l xs/\SqL K H b zs/\xs.length+zs.length<=sizeLine/\∀p,H p=none->Q (.ref p) (upd H p (.lst (xs++zs)))
def Fe:OpR X (binaryOp .Add) (Ku X.K):=by intro pins s σ H x y v u Q I p o h;let⟨l,b,xs,zs,rfl,rfl,z,A,D,q⟩:=h;cases p;cases o;let⟨its,r,⟨⟨cls,F,data,sl⟩,n,j,k,d,hd⟩,_⟩:=I.list z;let⟨its2,i,⟨⟨m,C,data2,g⟩,t,c,f,a,e⟩,_⟩:=I.list A;dsimp only at k hd f e d a;subst k hd f e d a;have E:=r.length;have w:=i.length;refine concat_meets {_,j,rfl} {_,c,rfl} noFill_list_add seq_list_add PySem.F.slot_list_add PySem.F.entry_list_add (PySem.F.args_list_add_2 _ _) (list_addW l b its.toArray its2.toArray n t none none sl g (by simp;nofun)) {j,c,?_};have B:its.toArray++its2.toArray=(its++its2).toArray:=by{simp};rw[B];exact{.ref _,_,I.lnew (t':=s.toks) (r.append i) (by rw[aag];nofun),rfl,q _ I.fresh}
def Kv(K:Frag):R2:=λx y H Q=>(∃i j,x=.int i/\y=.int j/\Q (.int (i+j)) H)∨(∃i j,x=.str i/\y=.str j/\i.length+j.length<=sizeLine/\Q (.str (i++j)) H)∨Ku K x y H Q∨IM K x y H Q
def ze(K:Frag)(h:X.K=K):BOp X (binaryOp .Add) (Kv K):=by subst h;exact{Iw.or (qI.or (Fe.or DL))}
def uD:CallR X (.builtin "ord") (λxs H Q=>∃c:Nat,xs=[.str {#[c]}]/\Q (.int c) H):=by intro pins s σ H xs us Q I r h;let⟨c,rfl,q⟩:=h;let⟨u,rfl,a⟩:=eI r;let⟨t,rfl⟩:=a;exact PySem.P.ord_of_char {.int c,H,I.tok _,{_,rfl},q}
def Pd:↥V->Hp->VK->Prop:=λxs H Q=>∃c:Nat,xs=[.str {#[c]}]/\Q (.int c) H
def Kw:BCall X (.builtin "ord") Pd:=-{(uD)}
def tGU(K:Frag)(xs:↥V):TE:=λ_ H Q=>∀a,(∀H',SqT K H' a xs)->Q (.ref a) H
def Ff{K:Frag}(h:JN K X.mg x xs)(b:X.env.kindOf x=!.globalImplicit)(hd:autoParam ((x==("__debug__":Str))=false) _L.aD._auto_1):BE X (.Name x pos) (tGU K xs):=by let⟨a,e,hs⟩:=h;exact{λpins s σ H Q I q=>BX (v:=.ref a) {_,e,rfl} b hd pins s σ H Q I (q a hs)}
section
variable{K:Frag}
def az(e:Same F H)(n:EM K F H P Q)(h:Den K F v d)(p:P (.fz d)):Q v H:=-n _ v F H [] p (Pure.refl e) (.fz h) New.nil
def dm(e:Same F H)(n:EM K F H P Q)(h:Dens K F xs ds)(p:P (.fl ds)):∀q,H q=none->Q (.ref q) (upd H q (.lst xs)):=-λq a=>n _ (.ref q) F _ [q] p (Pure.new e a) (.fl ah h) (New.one a (e.free a))
def kN(e:Same F H)(n:EM K F H P Q)(h:Dens K F xs ds)(p:P (.fz (.tup ds))):∀q,H q=none->Q (.ref q) (upd H q (.tup xs)):=-λq a=>n _ (.ref q) (upd F q (.tup xs)) _ [] p (Pure.frz e a) (.fz (.tup ah (h.mono (bF (e.free a))))) New.nil
def NX(hd:∀F,Dens K F xs ds):EF K μ (tGU K xs) (fC (.gt ds)):=-{fun {F Z H c σ ρ A Q P} d R h q a b=>q _ _ _ F H A [] h (Same.refl _) R (.fz (.gt (b F) (hd F))) Fresh.nil}
def aI0(g:Int->Int->D):D->D->(OV->Prop)->Prop|.int i,.int j,P=>P (.fz (g i j))|_,_,_=>False
def aIC(C:Int->Int->Prop)(g:Int->Int->D):D->D->(OV->Prop)->Prop|.int i,.int j,P=>C i j/\P (.fz (g i j))|_,_,_=>False
def Kx(h:∀F i j,Den K F (gV i j) (gD i j)):OpF K (rI0 gV) (aI0 gD):=-{by intro F H x y d e Q P s b a f n;cases d with|int i=>{cases e with|int j=>exact{_,_,b.int_eq,a.int_eq,az s n (h F _ _) f}|_=>exact faa f}|_=>exact faa f}
def j4{C:Int->Int->Prop}(h:∀F i j,Den K F (gV i j) (gD i j)):OpF K (rI C gV) (aIC C gD):=-{by intro F H x y d e Q P s b a f n;cases d with|int i=>{cases e with|int j=>exact{_,_,b.int_eq,a.int_eq,f.1,az s n (h F _ _) f.2}|_=>exact faa f}|_=>exact faa f}
def Fg:OpF K (rI0 λi j=>.int (i - j)) (aI0 λi j=>.int (i - j)):=-Kx λ_ _ _=>.int _
def Fh:OpF K (rI CMul λi j=>.int (i*j)) (aIC CMul λi j=>.int (i*j)):=-j4 λ_ _ _=>.int _
def zf:OpF K (rI HL λi j=>.int (i/j)) (aIC HL λi j=>.int (i/j)):=-j4 λ_ _ _=>.int _
def Fi:OpF K (rI (λ_ j=>0<j) λi j=>.int (i % j)) (aIC (λ_ j=>0<j) λi j=>.int (i % j)):=-j4 λ_ _ _=>.int _
def Fj:OpF K (rI HM λi j=>.int (i ^ j.toNat)) (aIC HM λi j=>.int (i ^ j.toNat)):=-j4 λ_ _ _=>.int _
def ir(b:Int->Int->Bool)(a:Str->Str->Bool):D->D->(OV->Prop)->Prop|.int i,.int j,P=>P (.fz (.bl (b i j)))|.str i,.str j,P=>P (.fz (.bl (a i j)))|_,_,_=>False
def Fk{b:Int->Int->Bool}{a:Str->Str->Bool}:OpF K (Kn b a) (ir b a):=-{by intro F H x y d e Q P s g c f n;cases d with|int i=>{cases e with|int j=>exact .inl {_,_,g.int_eq,c.int_eq,az s n (.bl _) f}|_=>exact faa f}|str i=>{cases e with|str j=>exact .inr {_,_,g.str_eq,c.str_eq,az s n (.bl _) f}|_=>exact faa f}|_=>exact faa f}
def dW:D->D->(OV->Prop)->Prop|.int i,.int j,P=>P (.fz (.int (i+j)))|.str i,.str j,P=>i.length+j.length<=sizeLine/\P (.fz (.str (i++j)))|.lst xs,.lst ys,P=>xs.length+ys.length<=sizeLine/\P (.fl (xs++ys))|.tup xs,.tup ys,P=>xs≠[]/\xs.length+ys.length<=sizeLine/\P (.fz (.tup (xs++ys)))|_,_,_=>False
def Fl:OpF K (Kv K) dW:=-{by intro F H x y d e Q P s k g f n;cases d with|int i=>{cases e with|int j=>exact .inl {_,_,k.int_eq,g.int_eq,az s n (.int _) f}|_=>exact faa f}|str i=>{cases e with|str j=>exact .inr (.inl {_,_,k.str_eq,g.str_eq,f.1,az s n (.str _) f.2})|_=>exact faa f}|lst ds=>{cases e with|lst es=>let⟨a,xs,rfl,h1,h2⟩:=k.asL s;let⟨b,ys,rfl,l,c⟩:=g.asL s;exact .inr (.inr (.inl {a,b,xs,ys,rfl,rfl,h1,l,by rw[h2.length,c.length];exact f.1,dm s n (h2.append c) f.2}))|_=>exact faa f}|tup ds=>{cases e with|tup es=>{have m:=g;let⟨a,xs,rfl,h1,h2⟩:=k.asT s;let⟨b,ys,rfl,l,c⟩:=g.asT s;refine .inr (.inr (.inr {a,b,xs,ys,rfl,rfl,h1,l,λz=>f.1 ?_,by rw[h2.length,c.length];exact f.2.1,λz=>?_,λz=>kN s n (h2.append c) f.2.2}));have:=h2.length;rw[z]at this;exact aaD this.symm;subst z;cases c;have f2:=f.2.2;rw[aaw]at f2;cases k with|fz hd=>exact az s n hd f2}|_=>exact faa f}|_=>exact faa f}
end
def db(a b:Str):Bool:=⇑(aY b a)
def eU{a:Str}:db a b=true↔¬(b.cps.toList<a.cps.toList):=by unfold db aY;simp
def jd(a b c:Str)(h1:db a b=true)(h2:db b c=true):db a c=true:=by rw[eU]at*;exact acJ.mpr (List.le_trans (acJ.mp h1) (acJ.mp h2))
def nL(a b:Str):(db a b||db b a)=true:=by rw[Bool.or_eq_true,eU,eU];rcases List.le_total a.cps.toList b.cps.toList with h|h;exact .inl (acJ.mpr h);exact .inr (acJ.mpr h)
def gI{a:Str}(h1:db a b=true)(h2:db b a=true):a=b:=by rw[eU]at*;exact gB (List.le_antisymm (acJ.mp h1) (acJ.mp h2))
def aT(zs:↥Str):↥Str:=zs.mergeSort db
def aq(zs:↥Str):(aT zs).Perm zs:=-List.mergeSort_perm zs _
def bt(zs:↥Str):(aT zs).Pairwise λa b=>db a b=true:=-List.pairwise_mergeSort jd nL zs
theorem eV:∀(p:Str)(l:↥Str),risingS p l=true->(p::l).Pairwise λa b=>db a b=true|p,[],_=>List.pairwise_singleton _ _|p,x::r,h=>by simp only[risingS,Bool.and_eq_true]at h;have e:=eV x r h.2;have c:db p x=true:=by{unfold db aY;rw[←ltCps_eq];exact h.1};refine List.pairwise_cons.mpr {λy d=>?_,e};rcases ab2.mp d with rfl|d;exact c;exact jd _ _ _ c (List.rel_of_pairwise_cons e d)
theorem eB:∀(l:↥Str),sortedS l=true->l.Pairwise λa b=>db a b=true|[],_=>.nil|x::r,h=>eV x r h
def gX(c:ss.Perm zs)(hs:sortedS ss=true):ss=aT zs:=- List.Perm.eq_of_pairwise (le:=λa b=>db a b=true) (λa b _ _ h1 h2=>gI h1 h2) (eB ss hs) (bt zs) (c.trans (aq zs).symm)
def eW(c:ss.Perm zs)(hs:ss.Pairwise λa b=>db a b=true):ss=aT zs:=- List.Perm.eq_of_pairwise (le:=λa b=>db a b=true) (λa b _ _ h1 h2=>gI h1 h2) hs (bt zs) (c.trans (aq zs).symm)
section
open PySem.Calls
variable{prog:Program}  {A:Around} {E:Value->Shared->Prop}  {T:String} {r d:Addr}  {P:Nat->Value->Prop} {OK:Heap->Prop}
def Ky{R:↥Value->Shared->Prop}(S:PySem.W.KdlSrc prog w T r d n P OK)(calm:A.handled=none)(ok:OK s.1)(few:n<=sizeLine)
  (go:∀(g:Heap)(tk:Nat)(acc:Array Value),(∀b o,s.1.get? b=!o->g.get? b=!o)->s.1.1.size<g.1.size->ItemsOf P acc n->R acc.toList {s with heap:=g,toks:=tk}):
  wpAny (model prog w) A (collect (.ref r)) R E s:=by
 let⟨l1,l2⟩:=S.there _ ok;unfold collect;refine aaa (wpAny_runValue (codeAny_builtin entry_proto_collect' ?_));rw[aaI PySem.F.plain_proto_collect _];show wpAny _ A.in1 (newList []>>=λx=>again (.builtin "list.__iadd__" {[x,.ref r],[]})) _ _ s;refine aaa (aaO (aaf {plainId_quiet PySem.F.plain_list_iadd _,codeAny_builtin entry_list_iadd' ?_}));rw[aaI PySem.F.plain_list_iadd _];have top:(s.1.push {cls:=.type "list",data:=.seq ([]:↥Value).toArray}).get? s.1.1.size=some {cls:=.type "list",data:=.seq #[]}:=ab0 _ rfl;show wpAny _ A.in1 (Builtin.List.listExtendWith (.ref s.1.1.size) (.ref r) (.ref s.1.1.size)) _ _ _
 have j:=PySem.W.kdl_extend (A:=A) (s:={s with heap:=s.1.push {cls:=.type "list",data:=.seq ([]:↥Value).toArray}})
  (R:=λ(q:Result) (s':Shared)=>∃(g:Heap)(tk:Nat)(acc:Array Value)(c:Nat),q=.ok (.ret (.ref s.1.1.size))/\s'={s with heap:=g,toks:=tk}/\
   (∀b o,s.1.get? b=!o->g.get? b=!o)/\g.get? s.1.1.size=some {cls:=.type "list",dict:=none,data:=.seq acc c,slots:=#[]}/\ItemsOf P acc n)
  S calm (S.keep _ _ ok λb _ o e=>abV _ e) s.1.1.size (Nat.ne_of_gt l1) (Nat.ne_of_gt l2) (.ref s.1.1.size) 0 top
  (λg tk acc c k i a=>{g,tk,acc,c,rfl,rfl,λb o e=>k b o (aap (aaj e)) (abV _ e),i,a}) few
 refine abz j (λz s' x=>?_) λe s' x=>?_
 .cases z with
  |done f=>
   let⟨g,tk,acc,c,e,rfl,k,i,a⟩:=x;cases e;exact aaa (wpAny_load i (aaf (go g tk acc k (aaj i) a)))
  |again m=>
   refine{x.1,codeAny_mono x.2 λq l y=>?_};let⟨g,tk,acc,c,rfl,rfl,k,i,a⟩:=y;exact aaa (wpAny_load i (aaf (go g tk acc k (aaj i) a)))
 .let⟨_,_,_,_,p,_⟩:=x;cases p
end
def l5(W:X.calm=true):CallR X (.builtin "sorted") (λxs H Q=>∃p kvs zs,xs=[.ref p]/\Rd H p (.dK kvs)/\kvs.map (·.1)=zs.map Sum.inr/\kvs.length<64/\∀q ss,H q=none->ss.Perm zs->sortedS ss=true->Q (.ref q) (upd H q (.lst (ss.map .str)))):=by intro pins s σ H xs us Q I r h;let⟨p,kvs,zs,rfl,O,A,E,q⟩:=h;let⟨u,rfl,U⟩:=eI r;cases U;obtain⟨g,Y,vs,N,m⟩:kvs.length<=sizeLine/\(p==sysModules)=false/\∃vs,KV kvs vs/\s.1.DictOf (ay X.prog X.w) p vs:=O.ok I.hok;let⟨ep,D⟩:=m.dictAt;have G:kvs.length=vs.length:=aa9 N;refine Calls.call_function_entry kind_sorted plain_sorted entry_sorted (args_sorted1 _) ?_;unfold Builtin.«sorted»;refine aaa (m:=checkCount "sorted" 1 1 _) (aaf ?_);refine aaa (Ky (PySem.W.kdl_dict (knd:=ay X.prog X.w) (kvs:=vs) (ep:=ep) Y) (by simpa using I.ok.hd W) D (by rw[←G];exact g) λh' tk acc P J f=>?_);have c:acc.toList.length=kvs.length:=by{rw[acd,f.1,G]};have y:StrsAre acc.toList zs:=by{have d:∀(j:Nat) v,acc.toList[j]?=!v->∃k x,vs[j]?=!(k,x)/\kx k v=true:=λj v e=>f.2 j v (by rw[←acf];exact e);clear f P q O m D;generalize acc.toList=us at c d;clear g G E I r;induction N generalizing us zs with|nil=>{cases zs with|nil=>{cases us with|nil=>exact .nil|cons a b=>simp at c}|cons z zs=>simp at A}|cons h1 h2 V=>cases zs with|nil=>simp at A|cons z zs=>cases us with|nil=>simp at c|cons a b=>simp only[List.map_cons,List.cons.injEq]at A;let⟨k,x,T,S⟩:=d 0 a rfl;simp only[List.getElem?_cons_zero,Option.some.injEq]at T;subst T;have Z:_=k:=h1.1;rw[←Z,A.1]at S;rcases aW S with ⟨i,t,q,_⟩|⟨z',t,q,rfl⟩;cases q;cases q;exact .cons _ t (V zs A.2 b (by exists c) λj v e=>by simpa using d (j+1) v (by exists e))};refine aaa (wpAny_newList ?_ (hsz:=by rw[c];exact g));have n:(h'.push (seqObj "list" acc.toList.toArray 0)).get? h'.1.size=!(seqObj "list" acc.toList.toArray 0):=ab0 _ rfl;have w:s.1.1.size<=h'.1.size:=acM J;refine aaa (aaT (aaF slot_list_sort {_,n,rfl} entry_list_sort (list_sort_treeK strKind_oneLt n y.keysOf (λM L rest e=>keyKind_strs (by rw[←e];exact y)) (by rw[c];exact E) λB a1 a2=>{_,rfl,?_}) (args_list_sort _)));let⟨l,b1,b2,b3⟩:=sorted_out_str y a1 a2;let⟨e',K⟩:=sortedHeap_at (out:=(arrOf B).map (·.2)) n;have F:l.length=kvs.length:=by{rw[b2.length_eq];have:=congrArg List.length A;simpa using this.symm};refine aaf {_,rfl,.ref h'.1.size,_,I.laid (t':=tk) (o:=.lst (l.map .str)) (λb ob R=>?_) w {by rw[abR,F];exact g,((arrOf B).map (·.2)).toList,e',eQ b1,by rw[abt];exact K},rfl,q h'.1.size l (I.hok.fresh w) b2 b3};have C:b<h'.1.size:=aau (aaj R) w;rw[sortedHeap_old (aap C) (by rw[size_push'];exact aaQ C)];exact abV _ (P b ob R)
section
variable{K:Frag}
def zg(d e:D):Prop:=okD d=true/\okD e=true/\dep (m9 d)<=40
def aEq:D->D->(OV->Prop)->Prop:=λd e P=>zg d e/\P (.fz (.bl (dEq d e)))
def aNe:D->D->(OV->Prop)->Prop:=λd e P=>zg d e/\P (.fz (.bl (⇑(dEq d e))))
def Kz:OpF K (MN K) aEq:=-{fun {F H x y d e Q P} s b a f n=>.inr {_,_,(b.den s).deep f.1.1,(a.den s).deep f.1.2.1,f.1.2.2,az s n (.bl _) f.2}}
def KA:OpF K (MO K) aNe:=-{fun {F H x y d e Q P} s b a f n=>.inr {_,_,(b.den s).deep f.1.1,(a.den s).deep f.1.2.1,f.1.2.2,az s n (.bl _) f.2}}
def vOf:D->V|.non=>.non|.bl b=>.bl b|.int i=>.int i|.str z=>.str z|_=>.non
def flD:D->Bool|.non=>true|.bl _=>true|.int _=>true|.str _=>true|_=>false
def Den.flat(h:Den K F v d)(f:flD d=true):v=vOf d/\iM v=true:=by cases h<;>first|exact{(rfl),rfl}|exact(ab3 f).elim
def Dens.flat{v:↥V}{d:↥D}(h:Dens K F v d)(f:d.all flD=true):v=d.map vOf/\v.all iM=true:=by induction d generalizing v with|nil=>cases h;exact{(rfl),rfl}|cons d ds a=>cases h with|cons h t=>rw[aaU,ach]at f;let⟨h1,h2⟩:=h.flat f.1;let⟨c,b⟩:=a t f.2;exact{by rw[ab1,←h1,←c],by rw[aaU,h2,b];rfl}
def Acc.flat(h:Acc K F H v d)(f:flD d=true):v=vOf d/\iM v=true:=by cases h with|fz h=>exact h.flat f|lst _ _=>exact(ab3 f).elim|dct _ _ _=>exact(ab3 f).elim|dt _ _ _=>exact(ab3 f).elim
def inD(d:D)(ds:↥D):Bool:=inV (vOf d) (ds.map vOf)
def rp(ks:↥Key)(k:Key):Bool:=ks.any λx=>decide (x=k)
def rA(ks:↥↥Key)(k:↥Key):Bool:=ks.any λx=>decide (x=k)
def jL:↥D->Option ↥Key
 |[]=>![]
 |d::ds=>match nb d with
  |some k=>match jL ds with
   |some ks=>!(k::ks)
   |none=>none
  |none=>none
def zi(h:Dens K F xs ds)(e:jL ds=!k):xs=k.map kV:=by induction ds generalizing xs k with|nil=>cases h;cases e;rfl|cons d ds g=>cases h with|cons h t=>unfold jL at e;cases c:nb d with|none=>rw[c]at e;cases e|some a=>cases f:jL ds with|none=>rw[c,f]at e;cases e|some b=>rw[c,f]at e;cases e;rw[ab1,←g t f,fN (F:=F) (H:=F) (.fz h) c]
def kO(s:Same F H)(h:Acc K F H v (.tup ds))(e:jL ds=!k):∃b,v=.ref b/\H b=!(.tup (k.map kV)):=by let⟨b,xs,rfl,h1,h2⟩:=h.asTH s;exact{b,rfl,by rw[←zi h2 e];exact h1}
def bIn(d:D)(R:Bool->Prop):D->Prop|.str y=>(match d with|.str x=>(match x.cps.toList with|[c]=>R (decide (c∈y.cps.toList))|_=>False)|_=>False)|.lst ds=>(flD d=true/\ds.all flD=true)/\R (inD d ds)|.tup ds=>(flD d=true/\ds.all flD=true)/\R (inD d ds)|.dct ks _=>(match nb d with|some k=>R (rp ks k)|none=>False)|.gt ds=>(flD d=true/\ds.all flD=true)/\R (inD d ds)|.dt ks _=>(match d with|.tup a=>(match jL a with|some k=>R (rA ks k)|none=>False)|_=>False)|_=>False
def aIn(d e:D)(P:OV->Prop):Prop:=bIn d (λb=>P (.fz (.bl b))) e
def o9(d e:D)(P:OV->Prop):Prop:=bIn d (λb=>P (.fz (.bl (⇑b)))) e
def Cg{c:Nat}(h:x.cps.toList=[c]):x={#[c]}:=-gB h
def pb{k:Key}(h:ys.map (·.1)=ks):(ib ys k).isSome=rp ks k:=by rw[←io,rp,←h,abA];rfl
def zj{ys:↥(↥Key×V)}{ks:↥↥Key}(h:ys.map (·.1)=ks):(ib ys k).isSome=rA ks k:=by rw[←io,rA,←h,abA];rfl
def Ch{x y:V}{R:Bool->Prop}(s:Same F H)(hx:Acc K F H x d)(g:Acc K F H y e)(f:bIn d R e)(n:∀b,R b->Q (.bl b) H):NV K x y H Q:=by cases e with|str z=>{cases d with|str u=>{unfold bIn at f;dsimp only at f;generalize t:u.cps.toList=l at f;cases l with|nil=>exact faa f|cons c r=>cases r with|nil=>exact .inl (.inl {c,_,by rw[hx.str_eq,Cg t],g.str_eq,n _ f})|cons=>exact faa f}|_=>exact faa f}|lst ds=>let⟨a,xs,rfl,h1,h2⟩:=g.asL s;let⟨o,m⟩:=hx.flat f.1.1;let⟨j,i⟩:=h2.flat f.1.2;subst o j;exact .inl (.inr {a,_,rfl,.inl h1,m,i,n _ f.2})|tup ds=>let⟨a,xs,rfl,h1,h2⟩:=g.asT s;let⟨o,m⟩:=hx.flat f.1.1;let⟨j,i⟩:=h2.flat f.1.2;subst o j;exact .inl (.inr {a,_,rfl,.inr h1,m,i,n _ f.2})|dct ks vs=>{unfold bIn at f;dsimp only at f;generalize p:nb d=l at f;cases l with|none=>exact faa f|some k=>let⟨a,ys,rfl,h1,h2,w⟩:=g.asD s;refine .inr {a,ib ys k,rfl,by rw[fN hx p];exact DGet.kR h1,?_};rw[pb h2];exact n _ f}|gt ds=>let⟨a,xs,rfl,h1,h2⟩:=g.asG s;let⟨o,m⟩:=hx.flat f.1.1;let⟨j,i⟩:=h2.flat f.1.2;subst o j;exact .inl (.inr {a,_,rfl,.inr h1,m,i,n _ f.2})|dt ks vs=>{cases d with|tup q=>{unfold bIn at f;dsimp only at f;generalize p:jL q=l at f;cases l with|none=>exact faa f|some k=>let⟨a,ys,rfl,h1,h2,w⟩:=g.asDT s;let⟨b,rfl,v⟩:=kO s hx p;refine .inr {a,ib ys k,rfl,.inr {(ys),k,b,h1,rfl,v,rfl},?_};rw[zj h2];exact n _ f}|_=>exact faa f}|_=>exact faa f
def KB:OpF K (NV K) aIn:=-{λs b a f n=>Ch s b a f λ_ q=>az s n (.bl _) q}
def uE:OpF K (uB K) o9:=-{by intro F H x y d e Q P s k j f n;have h:=Ch (Q:=λv H'=>∀b,v=.bl b->Q (.bl (⇑b)) H') s k j f λb q c e=>by{cases e;exact az s n (.bl _) q};obtain (⟨c,z,i,g,q⟩|⟨a,xs,i,g,m,l,q⟩)|⟨a,o,i,g,q⟩:=h;exact .inl (.inl {c,z,i,g,q _ rfl});exact .inl (.inr {a,xs,i,g,m,l,q _ rfl});exact .inr {a,o,i,g,q _ rfl}}
def gY(ks:↥Key)(ds:↥D)(k:Key):Option D:=((ks.zip ds).find? λa=>decide (a.1=k)).map (·.2)
def cF(ks:↥↥Key)(ds:↥D)(k:↥Key):Option D:=((ks.zip ds).find? λa=>decide (a.1=k)).map (·.2)
def aIx:D->D->(OV->Prop)->Prop|.lst ds,.int i,P=>(match atI ds i with|some d=>P (.fz d)|none=>False)|.tup ds,.int i,P=>(match atI ds i with|some d=>P (.fz d)|none=>False)|.str z,.int i,P=>z.length<=sizeLine/\(match atI z.cps.toList i with|some c=>P (.fz (.str {#[c]}))|none=>False)|.dct ks ds,k,P=>(match nb k with|some k=>(match gY ks ds k with|some d=>P (.fz d)|none=>False)|none=>False)|.dt ks ds,.tup a,P=>(match jL a with|some k=>(match cF ks ds k with|some d=>P (.fz d)|none=>False)|none=>False)|_,_,_=>False
def Dens.atI{i:Int}(h:Dens K F xs ds)(e:_L.atI ds i=!d):∃x,_L.atI xs i=!x/\Den K F x d:=by unfold _L.atI at e ⊢;rw[h.length];cases q:ixN ds.length i with|none=>rw[q]at e;cases e|some j=>rw[q]at e;exact h.get e
def l6{κ:Type}[DecidableEq κ]{ys:↥(κ×V)}{ks:↥κ}{k:κ}(f:ys.map (·.1)=ks)(h:Dens K F (ys.map (·.2)) ds)(e:((ks.zip ds).find? λb=>decide (b.1=k)).map (·.2)=!d):∃v,ib ys k=!v/\Den K F v d:=by subst f;induction ys generalizing ds with|nil=>simp at e|cons y ys c=>cases h with|@cons _ g _ ds h1 h2=>by_cases a:y.1=k;rw[il a];simp only[List.map_cons,List.zip_cons_cons,List.find?_cons,a,decide_true,Option.map_some,Option.some.injEq]at e;subst e;exact{(y.2),rfl,h1};rw[im a];simp only[List.map_cons,List.zip_cons_cons,List.find?_cons,a,decide_false]at e;exact c h2 e
def kP{k:Key}(a:ys.map (·.1)=ks)(h:Dens K F (ys.map (·.2)) ds)(e:gY ks ds k=!d):∃v,ib ys k=!v/\Den K F v d:=-l6 a h e
def uF{ys:↥(↥Key×V)}{ks:↥↥Key}(a:ys.map (·.1)=ks)(h:Dens K F (ys.map (·.2)) ds)(e:cF ks ds k=!d):∃v,ib ys k=!v/\Den K F v d:=-l6 a h e
def KC:OpF K (zc K) aIx:=-{by intro F H x y d e Q P s o m f n;cases d with|lst ds=>{cases e with|int i=>{unfold aIx at f;dsimp only at f;cases hd:_L.atI ds i with|none=>rw[hd]at f;exact faa f|some d=>rw[hd]at f;let⟨a,xs,rfl,h1,h2⟩:=o.asL s;let⟨v,l,j⟩:=h2.atI hd;exact .inl (.inl {a,xs,_,v,rfl,m.int_eq,h1,l,az s n j f})}|_=>exact faa f}|tup ds=>{cases e with|int i=>{unfold aIx at f;dsimp only at f;cases hd:_L.atI ds i with|none=>rw[hd]at f;exact faa f|some d=>rw[hd]at f;let⟨a,xs,rfl,h1,h2⟩:=o.asT s;let⟨v,l,j⟩:=h2.atI hd;exact .inl (.inr (.inl {a,xs,_,v,rfl,m.int_eq,h1,l,az s n j f}))}|_=>exact faa f}|str z=>{cases e with|int i=>{let⟨f1,f⟩:=f;cases p:_L.atI z.cps.toList i with|none=>rw[p]at f;exact faa f|some c=>rw[p]at f;exact .inl (.inr (.inr {_,_,c,o.str_eq,m.int_eq,f1,p,az s n (.str _) f}))}|_=>exact faa f}|dct ks ds=>{unfold aIx at f;dsimp only at f;cases g:nb e with|none=>rw [g]at f;exact faa f|some k=>rw[g]at f;dsimp only at f;cases hd:gY ks ds k with|none=>rw[hd]at f;exact faa f|some d=>rw[hd]at f;let⟨a,ys,rfl,h1,h2,l⟩:=o.asD s;let⟨v,j,q⟩:=kP h2 l hd;exact .inr {a,v,rfl,by rw[fN m g,←j];exact DGet.kR h1,az s n q f}}|dt ks ds=>{cases e with|tup r=>{unfold aIx at f;dsimp only at f;cases g:jL r with|none=>rw[g]at f;exact faa f|some k=>rw[g]at f;dsimp only at f;cases hd:cF ks ds k with|none=>rw[hd]at f;exact faa f|some d=>rw[hd]at f;let⟨a,ys,rfl,h1,h2,l⟩:=o.asDT s;let⟨b,rfl,t⟩:=kO s m g;let⟨v,j,q⟩:=uF h2 l hd;exact .inr {a,v,rfl,.inr {(ys),k,b,h1,rfl,t,j.symm},az s n q f}}|_=>exact faa f}|_=>exact faa f}
def dq(n:Nat)(lo hi:Option Int):Prop:=¬(HT.sIx n 0 lo=0/\HT.sIx n n hi=n)
def gZ(z:Str)(lo hi:Option Int):Str:={(gc z.cps.toList lo hi).toArray}
def aSl:D->Option Int->Option Int->(OV->Prop)->Prop|.str z,lo,hi,P=>z.length<=sizeLine/\P (.fz (.str (gZ z lo hi)))|.lst ds,lo,hi,P=>P (.fl (gc ds lo hi))|.tup ds,lo,hi,P=>dq ds.length lo hi/\P (.fz (.tup (gc ds lo hi)))|_,_,_,_=>False
def Dens.cut{lo hi:Option Int}(h:Dens K F xs ds):Dens K F (gc xs lo hi) (gc ds lo hi):=by unfold gc;rw[h.length];exact(h.drop _).take _
def kQ:SlF K (Ja K) aSl:=-{by intro F H x d lo hi Q P s b f n;cases d with|str z=>refine .inl {_,b.str_eq,f.1,λy c=>?_};have e:y=gZ z lo hi:=gB (c.trans (by simp[gZ]));rw[e];exact az s n (.str _) f.2|lst ds=>let⟨a,xs,rfl,h1,h2⟩:=b.asL s;exact .inr (.inl {a,xs,rfl,h1,dm s n h2.cut f})|tup ds=>let⟨a,xs,rfl,h1,h2⟩:=b.asT s;exact .inr (.inr {a,xs,rfl,h1,by rw[h2.length];exact f.1,kN s n h2.cut f.2})|_=>exact faa f}
def eO:↥D->(OV->Prop)->Prop|[.str z],P=>z.length<=sizeLine/\P (.fz (.int z.length))|[.lst ds],P=>P (.fz (.int ds.length))|[.tup ds],P=>P (.fz (.int ds.length))|[.dct ks _],P=>P (.fz (.int ks.length))|_,_=>False
def KD:CallF K (HQ K) eO:=-{by
 intro F H xs ds Q P s b f n
 cases ds with
 |nil=>exact faa f
 |cons d tl=>
 cases d with
 |str z=>
  cases tl with
  |cons _ _=>exact faa f
  |nil=>
  let⟨x,rfl,a⟩:=bZ b;exact .inl {_,by rw[a.str_eq],f.1,az s n (.int _) f.2}
 |lst ds=>
  cases tl with
  |cons _ _=>exact faa f
  |nil=>
  let⟨x,rfl,a⟩:=bZ b;let⟨p,ys,rfl,h1,h2⟩:=a.asL s;exact .inr (.inl {p,ys,rfl,.inl h1,by rw[h2.length];exact az s n (.int _) f})
 |tup ds=>
  cases tl with
  |cons _ _=>exact faa f
  |nil=>
  let⟨x,rfl,a⟩:=bZ b;let⟨p,ys,rfl,h1,h2⟩:=a.asT s;exact .inr (.inl {p,ys,rfl,.inr h1,by rw[h2.length];exact az s n (.int _) f})
 |dct ks es=>
  cases tl with
  |cons _ _=>exact faa f
  |nil=>
  let⟨x,rfl,a⟩:=bZ b;let⟨p,ys,rfl,h1,h2,c⟩:=a.asD s;subst h2;have f:P (.fz (.int (ys.map (·.1)).length)):=f;rw[abR]at f;exact .inr (.inr {p,ys,rfl,h1,az s n (.int _) f})
 |_=>exact faa f}
def MT:↥D->(OV->Prop)->Prop|[.int i,.int j],P=>P (.fz (.int (if j>i then j else i)))|_,_=>False
def Pe:↥D->(OV->Prop)->Prop|[.int i,.int j],P=>P (.fz (.int (if j<i then j else i)))|_,_=>False
def KE:CallF K NA MT:=-{by
 intro F H xs ds Q P s c f n
 cases ds with
 |nil=>exact faa f
 |cons d tl=>
 cases d with
 |int i=>
  cases tl with
  |nil=>exact faa f
  |cons e tl=>
  cases e with
  |int j=>
   cases tl with
   |cons _ _=>exact faa f
   |nil=>
   let⟨x,y,rfl,a,b⟩:=o0 c;exact{_,_,by rw[a.int_eq,b.int_eq],az s n (.int _) f}
  |_=>exact faa f
 |_=>exact faa f}
def KF:CallF K NB Pe:=-{by
 intro F H xs ds Q P s c f n
 cases ds with
 |nil=>exact faa f
 |cons d tl=>
 cases d with
 |int i=>
  cases tl with
  |nil=>exact faa f
  |cons e tl=>
  cases e with
  |int j=>
   cases tl with
   |cons _ _=>exact faa f
   |nil=>
   let⟨x,y,rfl,a,b⟩:=o0 c;exact{_,_,by rw[a.int_eq,b.int_eq],az s n (.int _) f}
  |_=>exact faa f
 |_=>exact faa f}
def cIs:↥D->(OV->Prop)->Prop|[d,.ty T],P=>(Fd (tyD d)=true/\Fd T=true)/\P (.fz (.bl (isT (tyD d) T)))|_,_=>False
def NY:CallF K (NW K) cIs:=-{by
 intro F H xs ds Q P s c f n
 cases ds with
 |nil=>exact faa f
 |cons d ds=>
 cases ds with
 |nil=>exact faa f
 |cons e ds=>
 cases e with
 |ty T=>
  cases ds with
  |cons _ _=>exact faa f
  |nil=>
  let⟨x,y,rfl,a,b⟩:=o0 c;exact{x,_,_,by rw[b.ty_eq],a.den s,f.1.1,f.1.2,az s n (.bl _) f.2}
 |_=>exact faa f}
def ic:↥D->Option ↥Bool|[]=>![]|.bl b::ds=>(ic ds).map (b::·)|_::_=>none
theorem kS:∀{ds:↥D}{bs:↥Bool},ic ds=!bs->ds=bs.map .bl|[],_,h=>by simp only[ic,Option.some.injEq]at h;subst h;rfl|d::ds,bs,h=>by cases d<;>simp[ic]at h;let⟨a,h1,rfl⟩:=h;rw[kS h1];rfl
theorem l7:∀bs:↥Bool,ic (bs.map .bl)=!bs|[]=>rfl|b::bs=>by rw[ab1,ic,l7 bs];rfl
def uG:↥D->(OV->Prop)->Prop|[.lst ds],P=>(match ic ds with|some bs=>P (.fz (.bl (bs.all id)))|none=>False)|_,_=>False
def KG:↥D->(OV->Prop)->Prop|[.lst ds],P=>(match ic ds with|some bs=>P (.fz (.bl (bs.any id)))|none=>False)|_,_=>False
def KH:CallF K (ML K) uG:=-{by
 intro F H xs ds Q P s c f n
 cases ds with
 |nil=>exact faa f
 |cons d tl=>
 cases d with
 |lst ds=>
  cases tl with
  |cons _ _=>exact faa f
  |nil=>
  let⟨x,rfl,a⟩:=bZ c;let⟨p,ys,rfl,h1,h2⟩:=a.asL s;unfold uG at f;dsimp only at f
  cases b:ic ds with
  |none=>rw [b]at f;exact faa f
  |some bs=>
   rw[b]at f;rw[kS b]at h2;exact{p,bs,rfl,by rw[←h2.bls_eq];exact h1,az s n (.bl _) f}
 |_=>exact faa f}
def KI:CallF K (MM K) KG:=-{by
 intro F H xs ds Q P s c f n
 cases ds with
 |nil=>exact faa f
 |cons d tl=>
 cases d with
 |lst ds=>
  cases tl with
  |cons _ _=>exact faa f
  |nil=>
  let⟨x,rfl,a⟩:=bZ c;let⟨p,ys,rfl,h1,h2⟩:=a.asL s;unfold KG at f;dsimp only at f
  cases b:ic ds with
  |none=>rw [b]at f;exact faa f
  |some bs=>
   rw[b]at f;rw[kS b]at h2;exact{p,bs,rfl,by rw[←h2.bls_eq];exact h1,az s n (.bl _) f}
 |_=>exact faa f}
def zk:Key->D|.inl i=>.int i|.inr z=>.str z
theorem gj{F:Hp}:∀(ks:↥Key),Dens K F (ks.map kV) (ks.map zk)|[]=>.nil|.inl i::ks=>.cons (.int i) (gj ks)|.inr z::ks=>.cons (.str z) (gj ks)
def Fm:↥D->(OV->Prop)->Prop|[.lst ds],P=>P (.fl ds)|[.tup ds],P=>P (.fl ds)|[.dct ks _],P=>P (.fl (ks.map zk))|_,_=>False
def Fn:CallF K (ud K) Fm:=-{by
 intro F H xs ds Q P s b f n
 cases ds with
 |nil=>exact faa f
 |cons d tl=>
 cases d with
 |lst ds=>
  cases tl with
  |cons _ _=>exact faa f
  |nil=>
  let⟨x,rfl,a⟩:=bZ b;let⟨p,ys,rfl,h1,h2⟩:=a.asL s;exact uf h1 (dm s n h2 f)
 |tup ds=>
  cases tl with
  |cons _ _=>exact faa f
  |nil=>
  let⟨x,rfl,a⟩:=bZ b;let⟨p,ys,rfl,h1,h2⟩:=a.asT s;exact ug h1 (dm s n h2 f)
 |dct ks es=>
  cases tl with
  |cons _ _=>exact faa f
  |nil=>
  let⟨x,rfl,a⟩:=bZ b;let⟨p,ys,rfl,h1,h2,g⟩:=a.asD s;refine rb h1 (dm s n ?_ f);have e:(ys.map λc=>kV c.1)=(ys.map (·.1)).map kV:=by rw[aar];rfl
  rw[e,h2];exact gj _
 |_=>exact faa f}
def Ci:↥D->(OV->Prop)->Prop|[.lst ds],P=>P (.fz (.tup ds))|[.tup ds],P=>P (.fz (.tup ds))|_,_=>False
def zm:CallF K (ue K) Ci:=-{by
 intro F H xs ds Q P s b f n
 cases ds with
 |nil=>exact faa f
 |cons d tl=>
 cases d with
 |lst ds=>
  cases tl with
  |cons _ _=>exact faa f
  |nil=>
  let⟨x,rfl,a⟩:=bZ b;let⟨p,ys,rfl,h1,h2⟩:=a.asL s;exact rc h1 (kN s n h2 f)
 |tup ds=>
  cases tl with
  |cons _ _=>exact faa f
  |nil=>
  let⟨x,rfl,a⟩:=bZ b;have c:=a;let⟨p,ys,rfl,h1,h2⟩:=a.asT s;refine{p,ys,rfl,.inr {h1,?_}}
  cases c with
  |fz h=>exact az s n h f
 |_=>exact faa f}
def eC:↥D->Option ↥Str|[]=>![]|.str z::ds=>(eC ds).map (z::·)|_::_=>none
theorem gk:∀{ds:↥D}{zs:↥Str},eC ds=!zs->ds=zs.map .str|[],_,h=>by simp only[eC,Option.some.injEq]at h;subst h;rfl|d::ds,bs,h=>by cases d<;>simp[eC]at h;let⟨a,h1,rfl⟩:=h;rw[gk h1];rfl
theorem j5:∀zs:↥Str,eC (zs.map .str)=!zs|[]=>rfl|b::bs=>by rw[ab1,eC,j5 bs];rfl
def dX:↥Key->Option ↥Str|[]=>![]|.inr z::ks=>(dX ks).map (z::·)|.inl _::_=>none
theorem j6:∀{ds:↥Key}{zs:↥Str},dX ds=!zs->ds=zs.map Sum.inr|[],_,h=>by simp only[dX,Option.some.injEq]at h;subst h;rfl|d::ds,bs,h=>by cases d<;>simp[dX]at h;let⟨a,h1,rfl⟩:=h;rw[j6 h1];rfl
theorem je:∀zs:↥Str,dX (zs.map Sum.inr)=!zs|[]=>rfl|b::bs=>by rw[ab1,dX,je bs];rfl
def uH:↥D->(OV->Prop)->Prop|[.lst ds],P=>(match eC ds with|some zs=>zs.length<64/\P (.fl ((aT zs).map .str))|none=>False)|[.dct ks _],P=>(match dX ks with|some zs=>zs.length<64/\P (.fl ((aT zs).map .str))|none=>False)|_,_=>False
def pc(P:Program)(w:World)(K:Frag):↥V->Hp->VK->Prop:=λxs H Q=>uc P w K xs H Q∨∃p kvs zs,xs=[.ref p]/\Rd H p (.dK kvs)/\kvs.map (·.1)=zs.map Sum.inr/\kvs.length<64/\∀q ss,H q=none->ss.Perm zs->sortedS ss=true->Q (.ref q) (upd H q (.lst (ss.map .str)))
def zn(P:Program)(w:World)(K:Frag)(a:X.calm=true)(c:X.prog=P)(b:X.w=w)(h:X.K=K):BCall X (.builtin "sorted") (pc P w K):=by subst h c b;exact{(lX a).or (l5 a)}
def Fo{P:Program}:CallF K (pc P w K) uH:=-{by
 intro F H xs ds Q k s g f n
 cases ds with
 |nil=>exact faa f
 |cons d tl=>
 cases d with
 |lst ds=>
  cases tl with
  |cons _ _=>exact faa f
  |nil=>
  let⟨x,rfl,a⟩:=bZ g;let⟨p,ys,rfl,h1,h2⟩:=a.asL s;unfold uH at f;dsimp only at f
  cases b:eC ds with
  |none=>rw [b]at f;exact faa f
  |some zs=>
   rw[b]at f;rw[gk b]at h2;rw[h2.strs_eq]at h1;refine .inl {p,zs,rfl,.inr h1,f.1,λq ss c e hs=>?_};rw[gX e hs];exact dm s n (Dens.strs _) f.2 q c
 |dct ks es=>
  cases tl with
  |cons _ _=>exact faa f
  |nil=>
  let⟨x,rfl,a⟩:=bZ g;let⟨p,ys,rfl,h1,h2,j⟩:=a.asD s;unfold uH at f;dsimp only at f
  cases b:dX ks with
  |none=>rw [b]at f;exact faa f
  |some zs=>
   rw[b]at f;rw[j6 b]at h2;have i:ys.length=zs.length:=by have:=congrArg List.length h2;rwa [abR,abR]at this
   refine .inr {p,ys,zs,rfl,h1,h2,by rw[i];exact f.1,λq ss c e hs=>?_};rw[gX e hs];exact dm s n (Dens.strs _) f.2 q c
 |_=>exact faa f}
def N0:↥D->(OV->Prop)->Prop|[.str z],P=>(match z.cps.toList with|[c]=>P (.fz (.int c))|_=>False)|_,_=>False
def KJ:CallF K Pd N0:=-{by intro F H xs ds Q P s d f n;unfold N0 at f;split at f;split at f;rename_i c b;let⟨x,rfl,a⟩:=bZ d;exact{c,by rw[a.str_eq,Cg b],az s n (.int _) f};exact f.elim;exact f.elim}
def l9(zs:↥Str):↥Str:=zs.foldl (λacc z=>_S.dedup1 acc z) []
theorem gJ:∀(zs acc:↥Str),acc.Nodup->(zs.foldl (λacc z=>_S.dedup1 acc z) acc).Nodup/\∀k,k∈zs.foldl (λacc z=>_S.dedup1 acc z) acc↔k∈acc∨k∈zs|[],acc,h=>{h,λk=>by simp}|z::zs,acc,h=>by let⟨h1,h2⟩:=gJ zs (_S.dedup1 acc z) (gU h);refine{h1,λk=>?_};rw[List.foldl_cons,h2 k,gH,ab2];constructor;rintro ((a|a)|a);exact .inl a;exact .inr (.inl a);exact .inr (.inr a);rintro (a|a|a);exact .inl (.inl a);exact .inl (.inr a);exact .inr a
def g0(zs:↥Str):(l9 zs).Nodup:=-(gJ zs [] aaH).1
def j7{k:Str}:k∈l9 zs↔k∈zs:=by have:=(gJ zs [] aaH).2 k;simpa [l9]using this
def nc(zs:↥Str):↥Str:=aT (l9 zs)
def kT{k:Str}:k∈nc zs↔k∈zs:=by rw[nc,(aq _).mem_iff,j7]
def j8(zs:↥Str):(nc zs).Nodup:=-(aq _).nodup_iff.mpr (g0 zs)
def nM(zs:↥Str):(nc zs).Pairwise λa b=>db a b=true:=-bt _
def jf{a b:↥Str}(d:a.Nodup)(c:b.Nodup)(h:∀k,k∈a↔k∈b):a.Perm b:=-(List.perm_ext_iff_of_nodup d c).mpr h
def fO(c:ss.Nodup)(d:∀k,k∈ss↔k∈zs)(hs:ss.Pairwise λa b=>db a b=true):ss=nc zs:=- eW (jf c (g0 zs) λk=>(d k).trans j7.symm) hs
def kU(fe:FE):FE:=λρ Q=>fe ρ λr a=>on1 a r λd=>match d with|.lst ds=>(match eC ds with|some zs=>(zs.length+1<scanBound/\(nc zs).length<64)/\Q (.ov (.fl ((nc zs).map .str))) a|none=>False)|_=>False
def rB{P:Program}(E:EF K μ te fe):EF K μ (tCB (pc P w K) (cL (tCB (MQ P w K) (cL te iJ)) iJ)) (kU fe):=-{by intro F Z H L σ ρ A Q J u R h q;refine E.h u R h λr i v F1 H1 S O h1 y c v1 f1=>?_;let⟨d,G,h2⟩:=ca h1;split at h2;split at h2;rename_i zs D;let⟨p,ys,rfl,t,s⟩:=(c.acc v1 G).asL c.fh;rw[gk D]at s;rw[s.strs_eq]at t;refine{p,zs,rfl,t,h2.1.1,λl b j n m _=>?_};refine .inl {l,b,rfl,.inl ah,?_,λl2 ss f g hs=>?_};have g:b.Perm (nc zs):=jf m (j8 zs) λk=>(n k).trans kT.symm;rw[g.length_eq];exact h2.1.2;have e:ss=nc zs:=fO (g.nodup_iff.mpr m) (λk=>(g.mem_iff).trans (n k)) (eB ss hs);subst e;have z:=(Pure.new (o:=MP P w l b) c.fh j).trans (Pure.new (p:=l2) (o:=.lst ((nc zs).map .str)) (c.fh.trans (bF j)) f);have a:H1 l2=none:=(bF j).free f;exact c.after (P:=λo=>J (.ov o) i) (λo v N M B p x I C fr=>q _ _ _ _ _ _ _ p (y.trans x) I C fr) _ _ F1 _ [l2] h2.2 z (.fl ah (Dens.strs _)) (New.one a (c.fh.free a));exact h2.elim;exact h2.elim}
end
end _L
namespace _L
open PySem PySem.Spec PyProof.Rows PySem.W
variable{prog:Program}{w:World}{A:Around}{s:Shared}
def zo(n:Nat){α:Type}(c:α->Prop):KasT α->Prop|.ret a=>c a|.ask i j k=>i<n/\j<n/\∀b,zo n c (k b)
end _L
namespace _L
open PySem PySem.Spec PyProof.Rows
variable{P:Program}{w:World}{te:TE}{fe:FE}{n j:Nat}{T:↥Nat}{fg:FG}{ds:↥D}{ρ:FSt}{fb:FS}{E:FEnds}{lo i:Int}{d:D}{Q:D->Prop}{a b z:Str}{zs:↥Str}
section
variable{K:Frag}{μ:↥Nat}
def pd:↥D->Option ↥Str|[]=>![]|.tup (.str z::_)::ds=>(pd ds).map (z::·)|_::_=>none
def uI(P:Program)(w:World)(K:Frag):↥V->Hp->VK->Prop:=pc P w K
def zp{X:Cx}(P:Program)(w:World)(K:Frag)(b:X.calm=true)(c:X.prog=P)(a:X.w=w)(h:X.K=K):BCall X (.builtin "sorted") (uI P w K):=-zn P w K b c a h
@[irreducible] def hJ(ds:↥D)(P:OV->Prop):Prop:=uH ds P
def zq:CallF K (uI P w K) hJ:=-{by intro F H xs ds Q b s a f n;unfold hJ at f;exact Fo.h s a f n}
def nN(a:EF K μ te fe):EF K μ (tCB (uI P w K) (cL (tCB (MQ P w K) (cL te iJ)) iJ)) (kU fe):=-rB a
@[irreducible] def Pf:↥D->(OV->Prop)->Prop|[.lst ds],P=>(match eC ds with|some zs=>zs.length<64/\P (.fl ((aT zs).map .str))|none=>(match pd ds with|some zs=>(zs.Nodup/\zs.length<64)/\∀a:↥D,a.Perm ds->P (.fl a)|none=>False))|[.dct ks _],P=>(match dX ks with|some zs=>zs.length<64/\P (.fl ((aT zs).map .str))|none=>False)|_,_=>False
def zr(e fe:FE):FE:=λρ Q=>e ρ λr b=>on1 b r λd=>match d with|.str z=>fe b λc a=>on1 a c λf=>(match f with|.lst ds=>(match eC ds with|some zs=>(zs.map (·.length)).sum+zs.length*z.length<=16777216/\Q (.ov (.fz (.str (Builtin.Str.glued z zs)))) a|none=>False)|_=>False)|_=>False
def Fp{to:TE}{c:FE}(o:EF K μ to c)(r:EF K μ te fe):EF K μ (tBM K "str" (yp K) to (cL te iJ)) (zr c fe):=-{by intro F Z H v σ ρ A Q P b R h q;refine o.h b R h λB j x F1 H1 J G h1 m g v1 f1=>?_;let⟨d,u,h2⟩:=ca h1;split at h2;rename_i z;have ex:=(g.acc v1 u).str_eq;subst ex;refine{rfl,r.h b g h2 λw i y D H2 I E s l R2 k f2=>?_};let⟨C,t,a⟩:=ca s;split at a;split at a;rename_i zs n;let⟨p,ys,rfl,f,e⟩:=(R2.acc k t).asL R2.fh;rw[gk n]at e;rw[e.strs_eq]at f;exact{z,p,zs,rfl,rfl,f,a.1,q _ _ _ _ _ _ [] a.2 (m.trans l) R2 (.fz (.str _)) Fresh.nil};exact a.elim;exact a.elim;exact h2.elim}
end
section
variable{K:Frag}
def Pg(h:j<n):EF K (List.range n) (da j) (ab j):=-ul (by simp[h])
def ef_w(h:autoParam (j<n) _L.aD._auto_1):EF K (List.range n) (da j) (ab j):=-Pg h
def gf_n(h:j<n):GF K (List.range n) [j] (fG j) (ac j):=-ur (by simp[h]) List.nodup_range
def Fq(h:j<n)(a:EF K (List.range n) te fe):EF K (List.range n) (tBM K "list" dB (da j) (cL te iJ)) (sh j fe):=-Kk (by simp[h]) a
def zt{m:↥Nat}(h:(m.all λi=>⇑(T.contains i))=true):∀i∈m,i∉T:=-λi hi a=>by have:=List.all_eq_true.mp h i hi;simp[a]at this
def N1{no:Nat}(h:(T.all λi=>decide (i<no))=true):∀i∈T,i<no:=-λi hi=>of_decide_eq_true (List.all_eq_true.mp h i hi)
def Fun.okG{mg:Str->Option Value}{base:Heap}{x qual:Str}{st:Stmt}{f:Addr}{fd:FuncData}{N ps:↥Str}{k:Nat}{c:Ct}{fs:FS}(n:Nat)(m:↥Nat)(F:Fun K x qual st f fd)(S:FnScope N ps (ax st))(d:N.length=n)(l:ps.length<=n)(b:∀os P,c os P->os.length=ps.length/\∀j o,os[j]?=!o->j∉m->si o=true)(e:∀i∈m,i<ps.length)(a:∀(cdv:Value)(A:Around)(outer:↥Env)(s:Shared)(H:Hp)(E:XK),Room k (A.deeper (envOfC qual (ax st) s.1.1.size f cdv)) ->∃t,BSs (sN CX0 P w K mg base N qual (ax st) f cdv A outer s H E).nox (bH st) t/\SF K n m t fs)(g:∀os P,c os P->fs {nx:=fin m os P (.fz .non),rt:=fin m os P} (ak n os)):FnOk P w K mg base CX0 (k+1) f fd ps (spM K c):=by subst d;exact Fun.okF F S l b e a g
end
def aH{ft:FT}{P:↥D->FSt->Prop}{f:↥D}(I:Nat->↥D->FSt->Prop)(p:I 0 f ρ)
  (hs:∀(i:Nat)(d:D)(as:↥D)(ρ:FSt)(R:↥D->FSt->Prop),ds[i]?=!d->I i as ρ->(∀c a,I (i+1) c a->R c a) ->
   fg d ρ λn=>ft n λb g=>br b (fe g λr m=>match fzR r m with
    |some (y,l)=>as.length<sizeLine/\R (as++[y]) l
    |none=>False) (R as g))
  (hd:∀as ρ,I ds.length as ρ->P as ρ):eT fg ft fe P ds f ρ:=by
 have j:∀(k i:Nat)(as:↥D)(ρ:FSt),i+k=ds.length->I i as ρ->eT fg ft fe P (ds.drop i) as ρ:=by
  intro k
  induction k with
  |zero=>
   intro i as ρ e h;have:i=ds.length:=()
   subst this;rw[aaP];exact ux (hd as ρ h)
  |succ k o=>
   intro i as ρ e h;have hi:i<ds.length:=()
   rw[aav hi];exact rm (hs i ds[i] as ρ _ (abU hi) h λc a h'=>o (i+1) c a () h')
 have:=j ds.length 0 f ρ () p
 rwa [aaS]at this
def bf(I:Nat->FSt->Prop)(g:I 0 ρ)(hs:∀(i:Nat)(d:D)(ρ:FSt)(R:FSt->Prop),ds[i]?=!d->I i ρ->(∀a,I (i+1) a->R a)->fg d ρ λc=>fb {nx:=R,ct:=R,bk:=E.nx,rt:=E.rt} c)(hd:∀ρ,I ds.length ρ->E.nx ρ):dU fg fb E ds ρ:=by have b:∀(k i:Nat)(ρ:FSt),i+k=ds.length->I i ρ->dU fg fb E (ds.drop i) ρ:=by{intro k;induction k with|zero=>intro i ρ e h;have:i=ds.length:=();subst this;rw[aaP];exact uw (hd ρ h)|succ k f=>intro i ρ e h;have hi:i<ds.length:=();rw[aav hi];exact rj (hs i ds[i] ρ _ (abU hi) h λa h'=>f (i+1) a () h')};have:=b ds.length 0 ρ () g;rwa [aaS]at this
def dG{fc:FT}(I:Nat->FSt->Prop)(n:Nat)(f:I n ρ)(hs:∀(m:Nat)(ρ:FSt)(R:FSt->Prop),I m ρ->(∀k a,k<m->I k a->R a)->fc ρ λb c=>br b (fb {nx:=R,ct:=R,bk:=E.nx,rt:=E.rt} c) (E.nx c)):i9 fc fb E ρ:=by refine{n+1,?_};have d:∀(N m:Nat)(ρ:FSt),m<N->I m ρ->cE fc fb E N ρ:=by{intro N;induction N with|zero=>intro m ρ h _;nofun|succ N e=>intro m ρ h hi;exact nK (hs m ρ _ hi λk a g h'=>e k a () h')};exact d (n+1) n ρ () f
def bw{i:Nat}(h:(eA lo n)[i]?=!d):i<n/\d=.int (lo+i):=by unfold eA at h;rw[abW,aai]at h;let⟨k,h1,rfl⟩:=h;let⟨h2,a⟩:=abT.mp h1;rw[acO]at a;rw[acz]at h2;subst a;exact{(h2),rfl}
def cb:(eA lo n).length=n:=by simp[eA]
theorem cZ{xs:↥D}(a:0<=i)(h:i<xs.length)(q:∀d∈xs,Q d):match atI xs i with
  |some d=>Q d
  |none=>False:=by
 let⟨c,h1,h2⟩:=BZ a h;rw[h1];exact q c h2
theorem kW{xs:↥Nat}{Q:Nat->Prop}(a:0<=i)(h:i<xs.length)(q:∀d∈xs,Q d):match atI xs i with
  |some d=>Q d
  |none=>False:=by
 let⟨c,h1,h2⟩:=BZ a h;rw[h1];exact q c h2
def au:dEq (.str a) (.str b)=true↔a=b:=by show (a==b)=true↔_;rw[beq_iff_eq]
def bu{a b:Int}:dEq (.int a) (.int b)=true↔a=b:=by show (a==b)=true↔_;rw[beq_iff_eq]
def pf:(⇑(dEq (.str a) (.str b)))=true↔a≠b:=by rw[aaX,abJ,Ne,au]
def ai:zg (.str a) (.str b):=-{rfl,rfl,aan _}
def aM{a b:Int}:zg (.int a) (.int b):=-{rfl,rfl,aan _}
theorem ph{z:Str}:∀{zs:↥Str},inV (.str z) (zs.map V.str)=true↔z∈zs|[]=>by simp[inV]|y::zs=>by have a:=ph (z:=z) (zs:=zs);unfold inV at a ⊢;rw[ab1,abD,Bool.or_eq_true,a,ab2];have:eqV (.str y) (.str z)=true↔z=y:=by{show (y==z)=true↔_;rw[beq_iff_eq];exact eq_comm};rw[this]
def cq:inD (.str z) (zs.map D.str)=true↔z∈zs:=by unfold inD;have:(zs.map D.str).map vOf=zs.map V.str:=by{rw[aar];rfl};rw[this];exact ph
def iu(zs:↥Str):(zs.map D.str).all flD=true:=by induction zs with|nil=>rfl|cons z zs a=>exact a
def bx:rp (zs.map Sum.inr) (.inr z)=true↔z∈zs:=by unfold rp;rw[abA,aaM];constructor;rintro⟨y,h1,h2⟩;have:=of_decide_eq_true h2;cases this;exact h1;intro h;exact{z,h,by simp}
theorem kX{Q:↥Str->Prop}(q:Q zs):match eC (zs.map .str)with
  |some zs=>Q zs
  |none=>False:=by
 rw[j5];exact q
theorem j9{bs:↥Bool}{Q:↥Bool->Prop}(q:Q bs):match ic (bs.map .bl)with
  |some zs=>Q zs
  |none=>False:=by
 rw[l7];exact q
def ma:(jc (zs.map Sum.inr) ds (.inr z) d).1=(_S.dedup1 zs z).map Sum.inr:=by unfold jc _S.dedup1;by_cases h:z∈zs;have e:((zs.map Sum.inr).any λx=>decide (x=(Sum.inr z:Key)))=true:=bx.mpr h;rw[if_pos e,if_pos h];have e:¬((zs.map Sum.inr).any λx=>decide (x=(Sum.inr z:Key)))=true:=λq=>h (bx.mp q);rw[if_neg e,if_neg h,aae];rfl
theorem md:∀(zs acc:↥Str),(zs.foldl (λacc z=>_S.dedup1 acc z) acc).length<=acc.length+zs.length|[],acc=>by simp|z::zs,acc=>by rw[List.foldl_cons,ab6];have:=md zs (_S.dedup1 acc z);have:=(re acc z).2.1;nofun
def zu(zs:↥Str):(nc zs).length<=zs.length:=by rw[nc,(aq _).length_eq];have:=md zs [];simpa [l9]using this
def gl{P:OV->Prop}(a:zs.length<64)(h:P (.fl ((aT zs).map .str))):hJ [.dct (zs.map Sum.inr) ds] P:=by unfold hJ uH;simp only[je];exact{(a),h}
def zv{α:Type}(xs:↥α)(a b:Nat):gc xs ↑(a:Int) ↑(b:Int)=(xs.drop (min a xs.length)).take (min b xs.length - min a xs.length):=by unfold gc;rw[HT.sIx_nat,HT.sIx_nat]
theorem b8{x:D}{r:↥D}(q:Q x):match atI (x::r) 0 with
  |some d=>Q d
  |none=>False:=by
 rw[NK];exact q
end _L
namespace _L
open PySem PySem.Spec PyProof.Rows
variable{X:Cx}{μ ixs T:↥Nat}{e tg l:Expr}{ty te tl t:TE}{apos cpos:Pos}{i j n no i0 j0 ep:Nat}{fk fe:FE}{F H:Hp}{g:TG}{fg:FG}{tc:TT}{fc:FT}{ρ:FSt}{a it:Addr}{o:Obj}{kvs:↥(Key×V)}{vs:↥(Key×Value)}{P:Program}{w:World}{st:Stmt}
def Fs{o:Expr}{td:TE}(d:BE X o td)(f:BE X e ty)(b:attributeBase o "pop" X.env (eval o X.env)=eval o X.env)(c:bh e=true)(a:(apos.endLine==cpos.line)=true):BE X (.Call (.Attribute o "pop" apos) [e] [] cpos) (oN td ty):=- {yh d.h f.h {b,oS (es:=[e]) (by simp[c]) (by show 1<29;decide),a,by rw[aS c];rfl}}
section
variable{K:Frag}
def nO(ks:↥Key)(ds:↥D)(k:Key):↥Key×↥D:=(ks.filter λx=>decide (x≠k),((ks.zip ds).filter λa=>decide (a.1≠k)).map (·.2))
def Ft(i:Nat)(fk:FE):FE:=λρ Q=>(unD ρ i).isSome=true/\fk ρ λs a=>on1 a s λb=>match nb b,unD a i with|some k,↑(ks,ds)=>(match gY ks ds k with|some d=>Q (.ov (.fz d)) (a.set i !(.fd (nO ks ds k).1 (nO ks ds k).2))|none=>False)|_,_=>False
theorem mf{F:Hp}{k:Key}:∀{ys:↥(Key×V)}{ks:↥Key}{ds:↥D},ys.map (·.1)=ks->Dens K F (ys.map (·.2)) ds->(jF ys k).map (·.1)=(nO ks ds k).1/\Dens K F ((jF ys k).map (·.2)) (nO ks ds k).2|[],_,ds,a,h=>by subst a;cases h;exact{rfl,.nil}|y::ys,_,ds,a,h=>by subst a;cases h with|@cons _ f _ ds h1 h2=>let⟨d,c⟩:=mf (k:=k) rfl h2;unfold jF nO at*;by_cases e:y.1=k;have b:decide (y.1≠k)=false:=decide_eq_false λz=>z e;simp only[List.map_cons,List.zip_cons_cons,List.filter_cons,b,if_neg Bool.false_ne_true];exact{(d),c};have b:decide (y.1≠k)=true:=decide_eq_true e;simp only[List.map_cons,List.zip_cons_cons,List.filter_cons,b,if_pos];exact{by rw[d],.cons h1 c}
def Fu(z:μ[j]?=!i)(y:EF K μ ty fk):EF K μ (oN (da j) ty) (Ft i fk):=-{by intro F Z H O σ ρ A Q P m R h q;let⟨B,h⟩:=h;let⟨⟨x,M⟩,J⟩:=acn.mp B;let⟨a,g,h1,h2,_,_,_⟩:=R.mutD J;refine{.ref a,(m j i z).1.trans h1,a,rfl,.inl {g,.inl h2},?_};refine y.h m R h λr o v F1 H1 W U w s n v1 f1=>?_;let⟨S,D,b⟩:=ca w;split at b;rename_i k ks ds G I;split at b;rename_i d E;let⟨T,ys,f,l,c,e,mt⟩:=n.mutD I;rw[h1]at f;cases f;let⟨p,C,L⟩:=kP c e E;let⟨u,t⟩:=mf (k:=k) c e;let⟨V,N⟩:=mt (jF ys k) _ _ u t;exact{ys,k,p,l,fN (n.acc v1 D) G,C,q _ _ _ _ _ _ _ b s N (.fz L) Fresh.nil};exact b.elim;exact b.elim}
def zw(h:j<n)(a:EF K (List.range n) ty fk):EF K (List.range n) (oN (da j) ty) (Ft j fk):=-Fu (by simp[h]) a
def jg:D->Bool|.non=>true|_=>false
def Acc.isNon{v:V}{d:D}(h:Acc K F H v d):decide (v=.non)=jg d:=by cases h with|fz h=>{cases h<;>first|rfl|exact decide_eq_false (λz=>nomatch z)}|lst=>exact decide_eq_false (λz=>nomatch z)|dct=>exact decide_eq_false (λz=>nomatch z)|dt=>exact decide_eq_false (λz=>nomatch z)
def uJ:D->D->(OV->Prop)->Prop|d,.non,P=>P (.fz (.bl (jg d)))|_,_,_=>False
def kY:D->D->(OV->Prop)->Prop|d,.non,P=>P (.fz (.bl (⇑(jg d))))|_,_,_=>False
def Fv:OpF K O9 uJ:=-{by intro F H x y d e Q P s b a f n;unfold uJ at f;split at f;exact{a.non_eq,by rw[b.isNon];exact az s n (.bl _) f};exact f.elim}
def zy:OpF K JF kY:=-{by intro F H x y d e Q P s b a f n;unfold kY at f;split at f;exact{a.non_eq,by rw[b.isNon];exact az s n (.bl _) f};exact f.elim}
end
def kZ(fg:FG)(ft:FT)(fe:FE)(P:↥D->FSt->Prop)(sl:Nat)(all:↥D):↥D->↥D->FSt->Prop|[],as,ρ=>unL ρ sl=!all/\P as ρ|d::ds,as,ρ=>unL ρ sl=!all/\fg d ρ λf=>ft f λb a=>br b (fe a λr e=>match fzR r e with|some (y,c)=>as.length<sizeLine/\kZ fg ft fe P sl all ds (as++[y]) c|none=>False) (kZ fg ft fe P sl all ds as a)
@[irreducible] def eX(fg:FG)(ft:FT)(fe:FE)(P:↥D->FSt->Prop)(sl:Nat)(all ds as:↥D)(ρ:FSt):Prop:=kZ fg ft fe P sl all ds as ρ
def jh(fg:FG)(ft:FT)(fe:FE)(P:↥D->FSt->Prop)(sl:Nat)(all ds:↥D):eX fg ft fe P sl all ds=kZ fg ft fe P sl all ds:=by funext as ρ;unfold eX;rfl
def ka(fg:FG)(ft:FT)(fe:FE)(P:↥D->FSt->Prop)(sl:Nat)(all as:↥D)(ρ:FSt):eX fg ft fe P sl all [] as ρ=(unL ρ sl=!all/\P as ρ):=by rw[jh];rfl
def kb(fg:FG)(ft:FT)(fe:FE)(P:↥D->FSt->Prop)(sl:Nat)(all:↥D)(d:D)(ds as:↥D)(ρ:FSt):eX fg ft fe P sl all (d::ds) as ρ=(unL ρ sl=!all/\fg d ρ λf=>ft f λb a=>br b (fe a λr e=>match fzR r e with|some (y,c)=>as.length<sizeLine/\eX fg ft fe P sl all ds (as++[y]) c|none=>False) (eX fg ft fe P sl all ds as a)):=by rw [jh,jh];rfl
def pi(no i:Nat)(fg:FG)(ft:FT)(fe:FE):FE:=λρ Q=>match unL ρ i with|some ds=>i7 (List.replicate no none++ρ) (eX fg ft fe (λas a=>Q (.ov (.fl as)) (a.drop no)) (no+i) ds ds [])|none=>False
section
variable{K:Frag}
def zz(hj0:μ[j0]?=!i0)(hix:∀j∈ixs,j<μ.length)(hg:GF K (muC no ixs μ) T g fg)(hT:∀i∈T,i<no)
  (hc:TF K (muC no ixs μ) tc fc) (he:EF K (muC no ixs μ) te fe):EF K μ (eP no ixs (nu K (da j0)) g tc te) (pi no i0 fg fc fe):=-{by
 intro F Z H τ σ ρ A Q P vw R h q;unfold pi at h;split at h
 case h_2=>exact h.elim
 rename_i ds e0;let⟨a0,xs0,g1,g2,g3,_⟩:=R.mutL e0;refine{.ref a0,(vw j0 i0 hj0).1.trans g1,a0,rfl,{xs0,SqL.of g2},?_};have h1:=h;rw[dh]at h1;have Y:=R;have s1:Same F F:=Same.refl _
 have own:∀{F' H' f c A'},Rel K F' Z H' f c A'->(∀i,no<=i->f[i]?=(List.replicate no none++σ)[i]?)->unL c (no+i0)=!ds->∃xs,H' a0=!(.lst xs)/\Dens K F' xs ds:=by
  intro F' H' f c A' R' k e;let⟨b,ys,q1,q2,q3,_⟩:=R'.mutL e;rw[k (no+i0) (),ab7 (by simp),aaJ,aa3,g1]at q1;cases q1;exact{(ys),q2,q3}
 intro a ha;have O:F a=none:=Y.fh.free ha;have D:Z a=none:=Y.zh.free ha
 have V:a∉A:=λz=>by
  let⟨u,I⟩:=Y.sl.live a z;rw[ha]at I;cases I
 have R1':Rel K F Z (upd H a (.lst [])) (List.replicate no none++σ) (List.replicate no none++ρ) A:=by
  have:=Y.write (o:=.lst []) V O D;exact{this.sl.none_app no,this.nd,this.fr,this.fh,this.zh,this.dj}
 have M:∀F' H' f c A' acc as,Same F F'->Rel K F' Z H' f c A'->(∀i,no<=i->f[i]?=(List.replicate no none++σ)[i]?)->H' a=!(.lst acc)->F' a=none->a∉A'->Dens K F' acc as->P (.ov (.fl as)) (c.drop no)->Q (.ref a) H':=by
  intro F' H' f c A' acc as s' R' k ha' hF' hA' dn p;let⟨A2,B2,e2,J⟩:=R'.sl.dropN no
  have es:f.drop no=σ:=by
   apply acp;intro i;rw[acF,k (no+i) (),ab7 (by simp),aaJ,aa3]
  rw[es]at J;have X:∀b∈A2,b∈A':=λb C=>by rw[e2];exact abS.mpr (.inr C)
  have R2:Rel K F' Z H' σ (c.drop no) A2:={J,by have:=R'.nd;rw[e2,abI]at this;exact this.2.1,λb C=>R'.fr b (X b C),R'.fh,R'.zh,R'.dj}
  exact q _ _ _ _ _ _ [a] p (s1.trans s') R2 (.fl ha' dn) {by simp,λb C=>by
   have:b=a:=(by exists C);subst this;exact{hF',D,λz=>hA' (X _ z)}}
 refine{λi k acc l H'=>k=ds.length - i/\i<=ds.length/\∃F' c A' f as,Same F F'/\Rel K F' Z H' f c A'/\View (muC no ixs μ) l f/\(∀i,no<=i->f[i]?=(List.replicate no none++σ)[i]?)/\H' a=!(.lst acc)/\F' a=none/\a∉A'/\Dens K F' acc as/\
   eX fg fc fe (λas c=>P (.ov (.fl as)) (c.drop no)) (no+i0) ds (ds.drop i) as c,
  {_,rfl,aan _,F,_,A,_,[],Same.refl _,R1',gi vw hix,λ_ _=>rfl,ah,O,V,.nil,by rw[aaS];exact h1},?_}
 rintro i k acc l H' ⟨rfl,hle,F',c,A',f,as,s',R',vw',kp,S,N,U,dn,h'⟩;by_cases w:i<ds.length
 .rw[aav w,kb]at h';let⟨I,h'⟩:=h';let⟨ys,t,s⟩:=own R' kp I
  refine .inr {(by
   let⟨y,z1,z2⟩:=s.get (abU w);exact{ys,y,SqL.of t,z1}),λacc l H'=>∃F' c A' f as,Same F F'/\Rel K F' Z H' f c A'/\View (muC no ixs μ) l f/\(∀i,no<=i->f[i]?=(List.replicate no none++σ)[i]?)/\H' a=!(.lst acc)/\F' a=none/\a∉A'/\Dens K F' acc as/\
   eX fg fc fe (λas c=>P (.ov (.fl as)) (c.drop no)) (no+i0) ds (ds.drop (i+1)) as c,λacc' m H2 z=>{_,(),rfl,w,z},λx H2 y=>?_}
  let⟨rfl,y⟩:=y;let⟨d,hd,dx⟩:=s.get' (y ys (SqL.of t));rw[abU w]at hd;cases hd;refine hg.h vw' R' dx h' fun τ2 m ρ2 A2 p2 n R2 k2 kl2 _ X=>?_
  have L:∀i,no<=i->m[i]?=(List.replicate no none++σ)[i]?:=λi hi=>by
   rw[k2 i λz=>by have:=hT i z;nofun];exact kp i hi
  have fD:Fresh F' Z A2 [a]:={by simp,λb C=>by
   have:b=a:=(by exists C);subst this;exact{N,D,λz=>U (X _ z)}}
  let⟨Z',sz,R2',zl,back⟩:=R2.hold (B:=[a]) (λb C=>by
   have:b=a:=(by exists C);subst this;exact{_,S}) (.one S (λ_ z=>nomatch z) .nil) fD
  refine hc.h n R2' p2 λb ρ3 F3 H3 A3 G E R3=>?_
  cases b with
  |false=>
   replace G:=uk G;rw[if_neg ab3];let⟨R3',f3,k3⟩:=back _ _ _ _ E R3;have fa:=f3.fr a (by simp);exact{F3,ρ3,A3,m,as,s'.trans E,R3',n,L,k3 a _ (by simp) S,fa.1,fa.2.2,dn.mono E,G}
  |true=>
   replace G:=uh G;rw[if_pos rfl];refine he.h n R3 G λr ρ4 v F4 H4 A4 B4 W s4 R4 v4 f4=>?_;split at W
   .rename_i y ρ5 e5;let⟨F5,A5,s5,R5,dy,_,_⟩:=R4.frz v4 f4 e5;let⟨R5',f5,k5⟩:=back _ _ _ _ ((E.trans s4).trans s5) R5;have fa:=f5.fr a (by simp);refine{k5 a _ (by simp) S,by rw[dn.length];exact W.1,F5,ρ5,A5,m,as++[y],((s'.trans E).trans s4).trans s5,R5'.write fa.2.2 fa.1 D,n,L,ah,fa.1,fa.2.2,(dn.mono ((E.trans s4).trans s5)).snoc dy,W.2}
   .exact W.elim
 .have e:i=ds.length:=()
  subst e;rw[aaP,ka]at h';let⟨I,h'⟩:=h';let⟨ys,t,s⟩:=own R' kp I;exact .inl {{ys,SqL.of t,by rw[s.length];exact aab _},M _ _ _ _ _ _ _ s' R' kp S N U dn h'}}
def uK(h:j<n)(a:∀j∈ixs,j<(List.range n).length)(b:GF K (muC no ixs (List.range n)) T g fg)(e:∀i∈T,i<no)(d:TF K (muC no ixs (List.range n)) tc fc)(c:EF K (muC no ixs (List.range n)) te fe):EF K (List.range n) (eP no ixs (nu K (da j)) g tc te) (pi no j fg fc fe):=-zz (by simp[h]) a b e d c
def uL{ft:FT}{P:↥D->FSt->Prop}{sl:Nat}{all f:↥D}(I:Nat->↥D->FSt->Prop)(o:∀i as ρ,I i as ρ->unL ρ sl=!all)(q:I 0 f ρ)
  (hs:∀(i:Nat)(d:D)(as:↥D)(ρ:FSt)(R:↥D->FSt->Prop),all[i]?=!d->I i as ρ->(∀c a,I (i+1) c a->R c a) ->
   fg d ρ λn=>ft n λb g=>br b (fe g λr m=>match fzR r m with
    |some (y,l)=>as.length<sizeLine/\R (as++[y]) l
    |none=>False) (R as g))
  (hd:∀as ρ,I all.length as ρ->P as ρ):eX fg ft fe P sl all all f ρ:=by
 have j:∀(k i:Nat)(as:↥D)(ρ:FSt),i+k=all.length->I i as ρ->eX fg ft fe P sl all (all.drop i) as ρ:=by
  intro k
  induction k with
  |zero=>
   intro i as ρ e h;have:i=all.length:=()
   subst this;rw[aaP,ka];exact{o _ _ _ h,hd as ρ h}
  |succ k p=>
   intro i as ρ e h;have hi:i<all.length:=()
   rw[aav hi,kb];exact{o _ _ _ h,hs i all[i] as ρ _ (abU hi) h λc a h'=>p (i+1) c a () h'}
 have:=j all.length 0 f ρ () q
 rwa [aaS]at this
end
section
variable{K:Frag}
@[irreducible] def cMinD:↥D->(OV->Prop)->Prop|[.dct ks _],P=>∃zs:↥Str,ks=zs.map Sum.inr/\zs≠[]/\∀z∈zs,P (.fz (.str z))|_,_=>False
end
def uM(K:Frag):↥V->Hp->VK->Prop:=λxs H Q=>∃p kvs,xs=[.ref p]/\Rd H p (.dK kvs)/\∀l,H l=none->Q (.ref l) (upd H l (.dK kvs))
def rC:CallR X (.type "dict") (uM X.K):=by intro pins s σ H xs us Q I r h;let⟨p,kvs,rfl,b,q⟩:=h;let⟨u,rfl,a⟩:=eI r;cases a;exact yi I b λl s' c d=>{.ref l,_,d,rfl,q l c}
def zB(K:Frag)(h:X.K=K):BCall X (.type "dict") (uM K):=by subst h;exact{(rC)}
section
variable{K:Frag}
def Fx:↥D->(OV->Prop)->Prop|[.dct ks ds],P=>P (.fd ks ds)|_,_=>False
def Fy:CallF K (uM K) Fx:=-{by
 intro F H xs ds Q P s e f n;unfold Fx at f
 cases ds with
 |nil=>exact faa f
 |cons d ds=>cases d with
  |dct ks i=>cases ds with
   |nil=>
     let⟨x,rfl,c⟩:=bZ e;let⟨a,ys,rfl,h1,h2,g⟩:=c.asD s;exact{a,ys,rfl,h1,λq b=>n _ (.ref q) F _ [q] f (Pure.new s b) (.fd ah h2 g) (New.one b (s.free b))}
   |cons _ _=>exact faa f
  |_=>exact faa f}
end
section
variable  {pins:↥(Addr×Obj)} {σ:St}  {s:Shared}
def Inv.frozen(I:Inv X pins σ H s)(e:H a=!(.dK kvs))(f:s.1.get? a=!o):Inv X pins σ (upd H a (.frz o (.dK kvs))) s:=by
 have st:∀{b u},ObjOk X.prog X.w H s.1 b u->ObjOk X.prog X.w (upd H a (.frz o (.dK kvs))) s.1 b u:=λx=>x.stay (λ_ _ _ q=>q) (λc q=>by
  rw[aj λz=>by rw[z,e]at q;cases q];exact q) λc xs q=>by
  rw[aj λz=>by rw[z,e]at q;cases q];exact q
 exact I.un (h':=s.1) (t':=s.toks) (H':=upd H a (.frz o (.dK kvs))) {λb ob q _ _ _=>q,λb ob q _ _ _=>{(ob.slots),q},λb ob q n _=>by rw[aj λz=>by rw[z,e]at n;cases n];exact n,λb ob q _=>{(ob),q},
  λb xs q=>by rw[aj λz=>by rw[z,e]at q;cases q];exact q,λb ob u q=>by rw[aj λz=>by rw[z,e]at q;cases q];exact q,λb ps q=>{#[],by rw[aj (λz=>by rw[z,e]at q;cases q),q];simp}} (λb u q=>by
  by_cases d:b=a
  .subst d;rw[ah]at q;cases q;exact{f,st (I.hok b _ e)}
  .rw[aj d]at q;exact st (I.hok b u q))
def Inv.thaw(I:Inv X pins σ H s)(e:H a=!(.frz o (.dK kvs)))(j:∀o' f,X.H₀ a≠!(.frz o' f)):Inv X pins σ (upd H a (.dK kvs)) s:=by
 have nn:∀b,H b=none->upd H a (.dK kvs) b=none:=λb h=>by rw[aj λz=>by rw[z,e]at h;cases h];exact h
 have st:∀{b u},ObjOk X.prog X.w H s.1 b u->ObjOk X.prog X.w (upd H a (.dK kvs)) s.1 b u:=λx=>x.stay (λ_ _ _ q=>q) (λc q=>by
  rw[aj λz=>by rw[z,e]at q;cases q];exact q) λc xs q=>by
  rw[aj λz=>by rw[z,e]at q;cases q];exact q
 refine{I.ok,I.os,I.bare,{I.base.keep,I.base.slot,λb ob q n g=>nn b (I.base.free b ob q n g),I.base.there,λb xs q=>?_,λb ob u q=>?_,λb ps q=>?_},I.loc,I.cell,nn _ I.free,λx c q=>nn c (I.freeC x c q),λp i=>?_,λb u q=>?_,I.len}
 .have h:=I.base.tups b xs q;rw[aj λz=>by rw[z,e]at h;cases h];exact h
 .have h:=I.base.frzs b ob u q;rw[aj (λz=>j ob u (by rw[←z];exact q))];exact h
 .let⟨m,h⟩:=I.base.tbls b ps q;exact{m,by rw[aj λz=>by rw[z,e]at h;cases h];exact h}
 .let⟨h1,h2,k⟩:=I.pin p i;exact{h1,nn _ h2,k}
 .by_cases d:b=a
  .subst d;rw[ah]at q;cases q;exact st (I.hok b _ e).2
  .rw[aj d]at q;exact st (I.hok b u q)
def HR(kv:Key×V):V:=kV kv.1
def KL(kv:Key×V):V:=kv.2
def Itd(c:Key×V->V)(a:Addr)(o:Obj)(kvs:↥(Key×V)):It:={λi H=>H a=!(.frz o (.dK kvs))/\i<kvs.length,λi H x H'=>H'=H/\∃b,kvs[i]?=!b/\x=c b,λi H=>H a=!(.frz o (.dK kvs))/\i=kvs.length}
def N2(r:KV kvs vs):∀{i:Nat}{kv:Key×V},kvs[i]?=!kv->∃x,vs[i]?=!(kv.1,x):=by induction r with|nil=>intro i kv h;simp at h|@cons p q ps c h t a=>intro i kv e;cases i with|zero=>simp at e;subst e;exact {q.2,by simp [h.1]}|succ i=>obtain ⟨x,b⟩:=a (i:=i) (kv:=kv) (by exists e);exact {x,(by exists b)}
def k6{es:Array DictEntry}(I:Inv X pins σ H s)(hd:o.data=.dict es ep)(e:H a=!(.frz o (.dK kvs))):∃vs,KV kvs vs/\kvs.length=vs.length/\s.1.DictAt (ay X.prog X.w) a vs ep:=by let⟨c,j,k,vs,b,o',g,i,h1,h2,d,f⟩:=(show ObjOk X.prog X.w H s.1 a (.frz o (.dK kvs))from I.hok a _ e);rw[c]at h1;cases h1;rw[hd]at d;cases d;exact{vs,b,aa9 b,o,es,c,h2,hd,f}
theorem uN{K:Frag}{es:Array DictEntry}(hd:o.data=.dict es ep):Turn P w K tg (Itd HR a o kvs) [it] it (λi h=>h.IsKeyIter it a i kvs.length ep) where
 mem:=by simp
 obj:=λi h st b hb=>by
  have e:b=it:=(by exists hb);subst e;let⟨o,e,c,d⟩:=st;exact{o,e,λv z=>by rw[d]at z;cases z}
 keep:=λi h h' st k=>st.at λo e=>k it (by simp) o e
 item:=by
  intro X hP hw hK hc i pins s σ H E I hf st hg;subst hP hw hK;let⟨e,hlt⟩:=hg;let⟨vs,rv,hl,hat⟩:=k6 I hd e;let⟨x,hx⟩:=N2 rv (abU hlt);let⟨f0,f1,f2,f3,f4,f5⟩:=hf it (by simp);have st0:s.1.IsKeyIter it a i vs.length ep:=hl ▸ st;refine wpAny_pyNext_dict_item (knd:=ay X.prog X.w) st0 hat hx λkey h' hkey st' sb=>?_;have I1:Inv X pins σ H {s with heap:=h'}:=I.turned (t':=s.toks) (λb o hb e=>(sb.2 b hb).trans e) f0 f1 f3 f4 f5;rw[←hl]at st';let⟨o2,e2,c2,d2⟩:=id st';refine{key,rfl,iE (s:={s with heap:=h'}) e2 c2 d2 (by decide) {kV kvs[i].1,H,I1,?_,{rfl,_,abU hlt,rfl},st',λb hb=>(hf b hb).1}};rcases aW (show kx kvs[i].1 key=true from hkey)with ⟨j,t,q1,q2⟩|⟨z,t,q1,q2⟩
  .rw[q1,q2];exact{(t),rfl}
  .rw[q1,q2];exact{(t),rfl}
 done:=by
  intro X hP hw hK hc i pins s σ H E I hf st hg;subst hP hw hK;let⟨e,hlt⟩:=hg;let⟨vs,rv,hl,hat⟩:=k6 I hd e;let⟨f0,f1,f2,f3,f4,f5⟩:=hf it (by simp);have st0:s.1.IsKeyIter it a i vs.length ep:=hl ▸ st;exact wpAny_pyNext_dict_end (knd:=ay X.prog X.w) (I.ok.hd hc) st0 hat (by simp;nofun) λh' eb=>{rfl,I.turned (t':=s.toks) (λb o hb e=>eb b o hb e) f0 f1 f3 f4 f5}
 self:=λ_ _ _ _ _ st h=>wpAny_pyIter_keyiter st h
def KM(r:KV kvs vs):∀{i:Nat}{kv:Key×V},kvs[i]?=!kv->∃x,vs[i]?=!(kv.1,x)/\RelV kv.2 x:=by induction r with|nil=>intro i kv h;simp at h|@cons p q ps c h t a=>intro i kv e;cases i with|zero=>simp at e;subst e;exact {q.2,by simp [h.1],h.2}|succ i=>obtain ⟨x,b,hr⟩:=a (i:=i) (kv:=kv) (by exists e);exact {x,(by exists b),hr}
theorem uO{K:Frag}{es:Array DictEntry}(hd:o.data=.dict es ep):Turn P w K tg (Itd KL a o kvs) [it] it (λi h=>h.IsValIter it a i kvs.length ep) where
 mem:=by simp
 obj:=λi h st b hb=>by
  have e:b=it:=(by exists hb);subst e;let⟨o,e,c,d⟩:=st;exact{o,e,λv z=>by rw[d]at z;cases z}
 keep:=λi h h' st k=>st.at λo e=>k it (by simp) o e
 item:=by
  intro X hP hw hK hc i pins s σ H E I hf st hg;subst hP hw hK;let⟨e,hlt⟩:=hg;let⟨vs,rv,hl,hat⟩:=k6 I hd e;let⟨x,hx,hr⟩:=KM rv (abU hlt);let⟨f0,f1,f2,f3,f4,f5⟩:=hf it (by simp);have st0:s.1.IsValIter it a i vs.length ep:=hl ▸ st;refine wpAny_pyNext_values_item (knd:=ay X.prog X.w) st0 hat hx λh' st' sb=>?_;have I1:Inv X pins σ H {s with heap:=h'}:=I.turned (t':=s.toks) (λb o hb e=>(sb.2 b hb).trans e) f0 f1 f3 f4 f5;rw[←hl]at st';let⟨o2,e2,c2,d2⟩:=id st';exact{x,rfl,iE (s:={s with heap:=h'}) e2 c2 d2 (by decide) {kvs[i].2,H,I1,hr,{rfl,_,abU hlt,rfl},st',λb hb=>(hf b hb).1}}
 done:=by
  intro X hP hw hK hc i pins s σ H E I hf st hg;subst hP hw hK;let⟨e,hlt⟩:=hg;let⟨vs,rv,hl,hat⟩:=k6 I hd e;let⟨f0,f1,f2,f3,f4,f5⟩:=hf it (by simp);have st0:s.1.IsValIter it a i vs.length ep:=hl ▸ st;exact wpAny_pyNext_values_end (knd:=ay X.prog X.w) (I.ok.hd hc) st0 hat (by simp;nofun) λh' eb=>{rfl,I.turned (t':=s.toks) (λb o hb e=>eb b o hb e) f0 f1 f3 f4 f5}
 self:=λ_ _ _ _ _ st h=>wpAny_pyIter_valiter st h
def mh(b:Key×V->V)(tl:TE):TI:=λσ H R=>tl σ H λx H1=>∃a kvs,x=.ref a/\H1 a=!(.dK kvs)/\∀o,R (Itd b a o kvs) (upd H1 a (.frz o (.dK kvs)))
def Fz(p:PE X l tl):PI X tg l (mh HR tl):=by intro pins s σ H R I h;refine thn (p pins s σ H _ I h) λv c v=>?_;let⟨x,H1,d,m,n⟩:=v;let⟨a,kvs,e,f,q⟩:=n;subst e;cases m;let⟨A,t,vs,k,o,es,ep,h1,h2,j,u⟩:=(show ObjOk X.prog X.w H1 c.1 a (.dK kvs)from d.hok a _ f);have g:kvs.length=vs.length:=aa9 k;refine wpAny_pyIter_dict (knd:=ay X.prog X.w) t {(o),es,h1,h2,j,u} ?_;have y:=d.kept (t':=c.toks) (h':=c.1.push {cls:=.type "dict_keyiterator",data:=.fields #[.ref a,.int 0 0,.int vs.length 0,.int ep 0]}) λb o e=>abV _ e;have w:=y.frozen f (abV _ h1);refine{c.1.1.size,[c.1.1.size],_,_,_,rfl,w,uN j,{_,ab0 _ rfl,rfl,by rw[g];rfl},λb r=>?_,q o};have e:b=c.1.1.size:=(by exists r);subst e;have i:=d.hok.fresh (aab c.1.1.size);exact d.fpOk (aab _) (by rw[aj λz=>by rw[z,f]at i;cases i];exact i)
def FB(a:BE X l tl):BI X tg l (mh HR tl):=-{Fz a.h}
def FC(E:PE X l tl)(i:attributeBase l "values" X.env (eval l X.env)=eval l X.env)(g:(apos.endLine==cpos.line)=true):PI X tg (.Call (.Attribute l "values" apos) [] [] cpos) (mh KL tl):=by intro pins s σ H R I h;refine wpAny_Call_method0_late i g (thn (E pins s σ H _ I h) λv c M=>?_);let⟨x,H1,m,C,D⟩:=M;let⟨a,kvs,e,n,q⟩:=D;subst e;cases C;let⟨L,G,vs,B,o,es,ep,h1,h2,t,w⟩:=(show ObjOk X.prog X.w H1 c.1 a (.dK kvs)from m.hok a _ n);have p:kvs.length=vs.length:=aa9 B;let⟨A,y,_⟩:=sY m (.inl {kvs,.inl n});refine{"dict","dict.values",abB,PySem.F.slot_dict_values,PySem.F.type_dict_values,A,y,?_};refine abj rfl (PySem.evalArgs_none ?_);have k:c.1.DictOf (ay X.prog X.w) a vs:={(o),es,ep,h1,h2,t,w};refine call_meetsIn PySem.F.slot_dict_values k.typeIs PySem.F.entry_dict_values (PySem.F.args_dict_values_1 _) (meets_dict_values (ay X.prog X.w) a G) {{(vs),k},?_};have f:∀b u,c.1.get? b=!u->(c.1.push {cls:=.type "dict_values",data:=.fields #[.ref a]}).get? b=!u:=λb u e=>abV _ e;refine wpAny_pyIter_values (knd:=ay X.prog X.w) (v:=c.1.1.size) (d:=a) {_,ab0 _ rfl,rfl,rfl} {o,es,f a o h1,h2,t,w} ?_;have K:=m.kept (t':=c.toks) (h':=(c.1.push {cls:=.type "dict_values",data:=.fields #[.ref a]}).push {cls:=.type "dict_valueiterator",data:=.fields #[.ref a,.int 0 0,.int vs.length 0,.int ep 0]}) λb o e=>abV _ (f b o e);have J:=K.frozen n (abV _ (f a o h1));refine{(c.1.push {cls:=.type "dict_values",data:=.fields #[.ref a]}).1.size,[(c.1.push {cls:=.type "dict_values",data:=.fields #[.ref a]}).1.size],_,_,_,rfl,J,uO t,{_,ab0 _ rfl,rfl,by rw[p];rfl},λb F=>?_,q o};have e:b=(c.1.push {cls:=.type "dict_values",data:=.fields #[.ref a]}).1.size:=(by exists F);subst e;have j:c.1.1.size<=(c.1.push {cls:=.type "dict_values",data:=.fields #[.ref a]}).1.size:=by{rw[aa5];exact aba _};have r:=m.hok.fresh j;exact m.fpOk j (by rw[aj λz=>by rw[z,n]at r;cases r];exact r)
def FD(c:BE X l tl)(b:attributeBase l "values" X.env (eval l X.env)=eval l X.env)(a:(apos.endLine==cpos.line)=true):BI X tg (.Call (.Attribute l "values" apos) [] [] cpos) (mh KL tl):=-{FC c.h b a}
def rD(t:TE):TE:=λσ H Q=>t σ H λv H'=>∃a o kvs,H a=!(.dK kvs)/\H' a=!(.frz o (.dK kvs))/\Q v (upd H' a (.dK kvs))
def Inv.nofrz(I:Inv X pins σ H s)(e:H a=!(.dK kvs)):∀o' b,X.H₀ a≠!(.frz o' b):=-λo' b z=>by have:=I.base.frzs a o' b z;rw[e]at this;cases this
def FF(h:BE X e t):BE X e (rD t):=-{by intro pins s σ H Q I q;refine thn (h.h pins s σ H _ I q) λv i y=>?_;let⟨x,H1,g,b,a,o,kvs,f,d,c⟩:=y;exact{x,_,g.thaw d (I.nofrz f),b,c}}
def FH(h:BS X st (qE t (fG i))):BS X st (qE (rD t) (fG i)):=-{by intro pins s σ H D I q;refine thn (h.h pins s σ H {D with nx:=λb H'=>∃a o kvs,H a=!(.dK kvs)/\H' a=!(.frz o (.dK kvs))/\D.nx b (upd H' a (.dK kvs))} I q) λf k c=>?_;cases f with|next=>let⟨b,H',j,a,o,kvs,g,e,d⟩:=c;exact{b,_,j.thaw e (I.nofrz g),d}|brk=>exact c|cont=>exact c|ret u=>exact c}
end
def fzo:Option OV->Option OV|some (.fz d)=>!(.fz d)|_=>none
def pj(a:↥Key->↥D->↥D)(no i:Nat)(fg:FG)(ft:FT)(fe:FE):FE:=λρ Q=>match unD ρ i with|some (ks,ds)=>i7 (List.replicate no none++(ρ.map fzo).set i !(.fz (.dct ks ds))) (eT fg ft fe (λas _=>(∃zs:↥Str,as=zs.map .str)/\Q (.ov (.fl as)) ρ) (a ks ds) [])|none=>False
def N3:↥Key->↥D->↥D:=λks _=>ks.map zk
def N4:↥Key->↥D->↥D:=λ_ ds=>ds
def Cj(no i:Nat)(fg:FG)(ft:FT)(fe:FE):FE:=pj N3 no i fg ft fe
section
variable{K:Frag}
theorem Slots.fzo{F H:Hp}:∀{σ:St}{ρ:FSt}{A:↥Addr},Slots K F H σ ρ A->Slots K F H σ (ρ.map fzo) []|_,_,_,.nil=>.nil|_,_,_,.skip t=>.skip (Slots.fzo t)|_,_,_,.has (o:=o) h t=>by cases h with|fz d=>exact .has (A:=[]) (B:=[]) (.fz d) (Slots.fzo t)|_=>exact .skip (Slots.fzo t)
def FJ(k:Key):Den K F (kV k) (zk k):=by cases k with|inl i=>exact .int i|inr z=>exact .str z
def FK(K:Frag)(c:Key×V->V)(a:↥Key->↥D->↥D):Prop:=∀(F:Hp) (ys:↥(Key×V)) ks ds,ys.map (·.1)=ks->Dens K F (ys.map (·.2)) ds->(a ks ds).length=ys.length/\∀(i:Nat) b,ys[i]?=!b->∃e,(a ks ds)[i]?=!e/\Den K F (c b) e
def FL:FK K HR N3:=-λF ys ks ds h1 h2=>{by show (ks.map zk).length=_;rw[←h1,abR,abR],λi a e=>{zk a.1,by show (ks.map zk)[i]?=_;rw[←h1,aar,abW,e];rfl,FJ a.1}}
def FM:FK K KL N4:=-λF ys ks ds h1 h2=>{by show ds.length=_;rw[←h2.length,abR],λi a e=>h2.get' (by rw[abW,e];rfl)}
def pp{pk:Key×V->V}{m:↥Key->↥D->↥D}(hs:FK K pk m)(hj0:μ[j0]?=!i0)(hix:∀j∈ixs,j<μ.length)(hg:GF K (muC no ixs μ) T g fg)(hT:∀i∈T,i<no)
  (hc:TF K (muC no ixs μ) tc fc) (he:EF K (muC no ixs μ) te fe):EF K μ (rD (eP no ixs (mh pk (da j0)) g tc te)) (pj m no i0 fg fc fe):=-{by
 intro F Z H τ σ ρ A Q P vw R h q;unfold pj at h;split at h
 case h_2=>exact h.elim
 rename_i ks ds e0;let⟨a,ys,g1,g2,g3,g4,_⟩:=R.mutD e0
 have ha0:a∈A:=by
  have e:=l0 e0;let⟨v,B,A',h1,h2,h3,h4⟩:=R.sl.take e;rw[g1]at h1;cases h1
  cases h2 with
  |fd=>exact h3.mem_iff.mpr (by simp)
 let⟨hF0,hZ0⟩:=R.fr a ha0;refine{.ref a,(vw j0 i0 hj0).1.trans g1,a,ys,rfl,g2,λo D hD=>?_};rw[dh]at h;have I:D≠a:=λz=>by rw[z,ah]at hD;cases hD
 have s:H D=none:=by rw[aj I]at hD;exact hD
 let⟨w,N,d⟩:=mix (A.filter λb=>decide (b≠a)) H Z;have inB:∀b,b∈A->b≠a->b∈A.filter λb=>decide (b≠a):=λb h1 h2=>acb.mpr {h1,decide_eq_true h2};have n:∀b,b∈(A.filter λb=>decide (b≠a))->b∈A/\b≠a:=λb c=>{(acb.mp c).1,of_decide_eq_true (acb.mp c).2}
 have sz:Same Z w:=λb u z=>by
  rw[d b λy=>by rw[(R.fr b (n b y).1).2]at z;cases z];exact z
 have zA:w a=none:=by rw[d a λy=>(n a y).2 rfl];exact hZ0
 have zD:w D=none:=by
  rw[d D λy=>by
   let⟨u,G⟩:=R.sl.live D (n D y).1;rw[s]at G;cases G]
  exact R.zh.free s
 have S:F D=none:=R.fh.free s
 let F1:Hp:=upd F a (.frz o (.dK ys))
 let H1:Hp:=upd (upd H a (.frz o (.dK ys))) D (.lst [])
 have sF:Same F F1:=λb u z=>by rw[show F1 b=F b from aj λy=>by rw[y,hF0]at z;cases z];exact z
 have fh1:Same F1 H1:=λb u z=>by
  have bD:b≠D:=λy=>by rw[y,show F1 D=F D from aj I,S]at z;cases z
  rw[show H1 b=upd H a (.frz o (.dK ys)) b from aj bD];by_cases c:b=a
  .subst c;rw[ah];rw[show F1 b=↑(.frz o (.dK ys))from ah]at z;exact z
  .rw[aj c];rw[show F1 b=F b from aj c]at z;exact R.fh b u z
 have zh1:SameN w H1:={λb u z=>by
  have bD:b≠D:=λy=>by rw[y,zD]at z;cases z
  have ba:b≠a:=λy=>by rw[y,zA]at z;cases z
  rw[show H1 b=upd H a (.frz o (.dK ys)) b from aj bD,aj ba];by_cases c:b∈A.filter λb=>decide (b≠a)
  .rw[N b c]at z;exact z
  .rw[d b c]at z;exact R.zh.s b u z,λb xs z=>by
  by_cases c:b∈A.filter λb=>decide (b≠a)
  .rw[N b c]at z;exact R.sl.nt b (n b c).1 xs z
  .rw[d b c]at z;exact R.zh.n b xs z}
 have dj1:∀b u,F1 b=!u->w b=none:=λb u z=>by
  by_cases c:b=a
  .rw[c];exact zA
  .rw[show F1 b=F b from aj c]at z;rw[d b λy=>by rw[(R.fr b (n b y).1).1]at z;cases z];exact R.dj b u z
 have sl0:Slots K F1 H1 σ (ρ.map fzo) []:=(R.sl.fzo).keep sF λ_ _ z=>nomatch z;have hi0:i0<ρ.length:=(abT.mp (l0 e0)).1;have en:(ρ.map fzo)[i0]?=!none:=by rw[abW,l0 e0];rfl
 let⟨A2,p2,sl2⟩:=sl0.put (i:=i0) (B:=[]) en g1 (.fz (.dct (.inr {(o),ah}) g3 (g4.mono sF)));have eA2:A2=[]:=(by exists p2);subst eA2;have R1:Rel K F1 w H1 (List.replicate no none++σ) (List.replicate no none++(ρ.map fzo).set i0 !(.fz (.dct ks ds))) []:={sl2.none_app no,aaH,λ_ z=>(nomatch z),fh1,zh1,dj1};have fD1:F1 D=none:=by rw[show F1 D=F D from aj I];exact S
 have t:∀{F' H' f l A'},Same F1 F'->Rel K F' w H' f l A'->H' a=!(.frz o (.dK ys)):=λs' R'=>R'.fh _ _ (s' _ _ ah);have X:(m ks ds).length=ys.length:=(hs F ys ks ds g3 g4).1
 refine{λi k acc C H'=>k=ys.length - i/\i<=ys.length/\∃F' l A' f as,Same F1 F'/\Rel K F' w H' f l A'/\View (muC no ixs μ) C f/\H' D=!(.lst acc)/\F' D=none/\D∉A'/\Dens K F' acc as/\
   eT fg fc fe (λas _=>(∃zs:↥Str,as=zs.map .str)/\P (.ov (.fl as)) ρ) ((m ks ds).drop i) as l,
  {_,rfl,aan _,F1,_,[],_,[],Same.refl _,R1,gi vw hix,ah,fD1,(λz=>nomatch z),.nil,by rw[aaS];exact h},?_}
 rintro i k acc C H' ⟨rfl,hle,F',l,A',f,as,s',R',vw',p,hFD,hAD,dn,h'⟩;by_cases M:i<ys.length
 .have J:i<(m ks ds).length:=by rw[X];exact M
  rw[aav J,jb]at h'
  refine .inr {{t s' R',M},λacc C H'=>∃F' l A' f as,Same F1 F'/\Rel K F' w H' f l A'/\View (muC no ixs μ) C f/\H' D=!(.lst acc)/\F' D=none/\D∉A'/\Dens K F' acc as/\
   eT fg fc fe (λas _=>(∃zs:↥Str,as=zs.map .str)/\P (.ov (.fl as)) ρ) ((m ks ds).drop (i+1)) as l,λacc' L H2 z=>{_,(),rfl,M,z},λx H2 y=>?_}
  let⟨rfl,kv,hkv,rfl⟩:=y;let⟨el,Y,del⟩:=(hs F ys ks ds g3 g4).2 i kv hkv
  have ekey:(m ks ds)[i]=el:=by
   rw[abU J]at Y;exact aak Y
  rw[ekey]at h';refine hg.h vw' R' (del.mono (sF.trans s')) h' fun τ2 L ρ2 A2 p2 E R2 k2 kl2 _ m2=>?_
  have fD:Fresh F' w A2 [D]:={by simp,λb c=>by
   have:b=D:=(by exists c);subst this;exact{hFD,zD,λz=>hAD (m2 _ z)}}
  let⟨Z2,sz2,R2',zl,back⟩:=R2.hold (B:=[D]) (λb c=>by
   have:b=D:=(by exists c);subst this;exact{_,p}) (.one p (λ_ z=>nomatch z) .nil) fD
  refine hc.h E R2' p2 λb ρ3 F3 H3 A3 W U R3=>?_
  cases b with
  |false=>
   replace W:=uk W;rw[if_neg ab3];let⟨R3',f3,k3⟩:=back _ _ _ _ U R3;have fa:=f3.fr D (by simp);exact{F3,ρ3,A3,L,as,s'.trans U,R3',E,k3 D _ (by simp) p,fa.1,fa.2.2,dn.mono U,W}
  |true=>
   replace W:=uh W;rw[if_pos rfl];refine he.h E R3 W λr ρ4 v F4 H4 A4 B4 p4 s4 R4 v4 f4=>?_;split at p4
   .rename_i y ρ5 e5;let⟨F5,A5,s5,R5,dy,_,_⟩:=R4.frz v4 f4 e5;let⟨R5',f5,k5⟩:=back _ _ _ _ ((U.trans s4).trans s5) R5;have fa:=f5.fr D (by simp);refine{k5 D _ (by simp) p,by rw[dn.length];exact p4.1,F5,ρ5,A5,L,as++[y],((s'.trans U).trans s4).trans s5,R5'.write fa.2.2 fa.1 zD,E,ah,fa.1,fa.2.2,(dn.mono ((U.trans s4).trans s5)).snoc dy,p4.2}
   .exact p4.elim
 .have e:i=ys.length:=()
  subst e;rw[←X,aaP,ja]at h';let⟨⟨zs,rfl⟩,h'⟩:=h';refine .inl {{t s' R',rfl},a,o,ys,g2,t s' R',?_};have ex:=dn.strs_eq;subst ex
  have sl3:Slots K F (upd H' a (.dK ys)) σ ρ A:=R.sl.keep (Same.refl _) λb u c G=>by
   by_cases O:b=a
   .subst O;rw[ah];rw[g2]at G;exact G
   .rw[aj O];exact R'.zh.s b u (by rw[N b (inB b c O)];exact G)
  have R3:Rel K F Z (upd H' a (.dK ys)) σ ρ A:={sl3,R.nd,R.fr,λb u z=>by
   rw[aj λy=>by rw[y,hF0]at z;cases z];exact R'.fh b u (s' b u (sF b u z)),{λb u z=>by
   rw[aj λy=>by rw[y,hZ0]at z;cases z];exact R'.zh.s b u (sz b u z),R.zh.n},R.dj}
  refine q _ _ _ F _ A [D] h' (Same.refl _) R3 (.fl (by rw[aj I];exact p) (Dens.strs zs)) {by simp,λb c=>?_};have:b=D:=(by exists c);subst this
  exact{S,R.zh.free s,λz=>by
   let⟨u,G⟩:=R.sl.live b z;rw[s]at G;cases G}}
def uP(h:j<n)(a:∀j∈ixs,j<(List.range n).length)(b:GF K (muC no ixs (List.range n)) T g fg)(e:∀i∈T,i<no)(d:TF K (muC no ixs (List.range n)) tc fc)(c:EF K (muC no ixs (List.range n)) te fe):EF K (List.range n) (rD (eP no ixs (mh HR (da j)) g tc te)) (Cj no j fg fc fe):=-pp FL (by simp[h]) a b e d c
end
def zE:BS X st so:=-{(xN)}
def fI:FS:=λ_ _=>False
def zF{K:Frag}{m:↥Nat}:SF K n m so fI:=-{λ_ _ _ h=>h.elim}
def ji{c:FT}{f g:FS}{E:FEnds}(I:FSt->Prop)(rest:∀ρ,I ρ->E.nx ρ)(h:(∀ρ,I ρ->E.nx ρ)->c ρ λb a=>br b (f E a) (g E a)):fIf c f g E ρ:=-aA (h rest)
end _L
namespace _L
open PySem PySem.Spec PyProof.Rows PyProof.Rows
variable{H:Hp}
def KN{K:Frag}{F:Hp}{vs:↥V}{ds:↥D}(h:Dens K F vs ds):Ows K F H vs (ds.map .fz) []:=- Dens.rec (motive_1:=λ_ _ _=>True) (motive_2:=λvs ds _=>Ows K F H vs (ds.map .fz) []) trivial (λ_=>trivial) (λ_=>trivial) (λ_=>trivial) (λ_=>trivial) (λ_ _ _=>trivial) (λ_ _ _=>trivial) (λ_ _ _ _=>trivial) (λ_ _ _=>trivial) (λ_ _ _=>trivial) (λ_ _ _ _=>trivial) .nil (λh _ _ t=>.cons (A:=[]) (B:=[]) (.fz h) t) h
end _L
namespace HT
open PySem PySem.Spec PyProof.Rows
section
variable{prog:Program}{w:World}{A:Around}{E:Value->Shared->Prop}{s:Shared}
def getItem_tuple_all{t sl:Addr}{items:Array Value}{vl vu:Value}{lo hi:Option Int}{Q:Value->Shared->Prop}(a:IsTup s.1 t items)(hs:s.1.IsSliceOf sl vl vu .none)(pl:IsPart vl lo)(f:IsPart vu hi)
  (e:sIx items.size 0 lo=0/\sIx items.size items.size hi=items.size) (h:Q (.ref t) s):wpAny (model prog w) A (getItem (.ref t) (.ref sl)) Q E s:=by
 let⟨os,b,c,g⟩:=id hs;have d:s.TypeIs (.ref sl) "slice":={(os),b,c};unfold getItem
 try with_reducible refine aaT ?_
 first|refine aaa (aaf ?_)|skip
 refine aaa (wpAny_sequenceKey a.typeIs (by decide) ?_)
 refine aaa (wpAny_callSpecial?_slot (name:=Str.ofString "__getitem__") a.typeIs abd
  (aaF abd a.typeIs entry_tuple_getitem ?_ (args_tuple_getitem _ _)))
 show wpAny _ _ (Builtin.Tuple.tupleItemsOf (.ref t)>>=_) _ _ s;refine aaa (tupleItemsOf_ a ?_);refine aaa (wpAny_typeOf d ?_);rw[if_pos (by decide)];refine aaa (eu hs pl f ?_);show wpAny _ _ (if (((sIx items.size 0 lo:Nat):Int)==0&&(1:Int)==1&&(sIx items.size items.size hi - sIx items.size 0 lo)==items.size)=true then _ else _) _ _ s;rw[if_pos (by rw[e.1,e.2];simp)];refine aaa (m:=Builtin.Tuple.tupleIsExact _) (aaa (wpAny_typeOf a.typeIs (aaf ?_)));rw[if_pos (by decide)]
 first
  |exact aaa (abG (aaf {_,rfl,aaf h}))
  |exact aaa (abG (aaa (aaf (aaf {_,rfl,aaf h}))))
  |exact aaa (aaa (abG (aaf (aaf {_,rfl,aaf h}))))
  |exact aaa (aaa (abG (aaf {_,rfl,aaf h})))
end
end HT
namespace _L
open PySem PySem.Spec PyProof.Rows
variable{X:Cx}
def KO(K:Frag):V->Option Int->Option Int->Hp->VK->Prop:=λx lo hi H Q=>∃a xs,x=.ref a/\SqT K H a xs/\HT.sIx xs.length 0 lo=0/\HT.sIx xs.length xs.length hi=xs.length/\Q (.ref a) H
def FN:SlR X (KO X.K):=by intro pins s σ H x v vl vu lo hi sl Q I f hs pl g h;let⟨a,xs,rfl,i,e,d,q⟩:=h;cases f;let⟨its,r,c,j⟩:=I.tuple i;have b:its.toArray.size=xs.length:=by{rw[aca];exact r.length.symm};refine{"tuple",_,PyProof.Rows.slot_tuple_getitem.lookup,c.typeIs,?_};exact HT.getItem_tuple_all c hs pl g (by rw[b];exact{(e),d}) {.ref a,H,I,rfl,q}
def Ph(K:Frag):V->Option Int->Option Int->Hp->VK->Prop:=λx lo hi H Q=>Ja K x lo hi H Q∨KO K x lo hi H Q
def uQ{a:Expr}{lo hi:Option Expr}{ta:TE}{tl th:TO}{pos b:Pos}(K:Frag)(d:BE X a ta)(c:BO X lo tl)(hh:BO X hi th)(e:X.K=K):BE X (.Subscript a (.Slice lo hi none b) pos) (tSl (Ph K) ta tl th):=by subst e;exact{oJ (BY.or FN) d.h c.h hh.h}
section
variable{K:Frag}{μ:↥Nat}
def uR{α:Type}{xs:↥α}{lo hi:Option Int}(h1:HT.sIx xs.length 0 lo=0)(h2:HT.sIx xs.length xs.length hi=xs.length):gc xs lo hi=xs:=by unfold gc;rw[h1,h2];simp
def N5:D->Option Int->Option Int->(OV->Prop)->Prop|.str z,lo,hi,P=>z.length<=sizeLine/\P (.fz (.str (gZ z lo hi)))|.lst ds,lo,hi,P=>P (.fl (gc ds lo hi))|.tup ds,lo,hi,P=>P (.fz (.tup (gc ds lo hi)))|_,_,_,_=>False
def N6:SlF K (Ph K) N5:=-{by intro F H x d lo hi Q P s b f n;unfold N5 at f;split at f;exact .inl (kQ.h s b (by unfold aSl;exact f) n);exact .inl (kQ.h s b (by unfold aSl;exact f) n);rename_i ds;by_cases c:HT.sIx ds.length 0 lo=0/\HT.sIx ds.length ds.length hi=ds.length;have e:=uR c.1 c.2;rw[e]at f;have g:=b;let⟨a,xs,rfl,h1,h2⟩:=b.asT s;refine .inr {a,xs,rfl,h1,by rw[h2.length];exact c.1,by rw[h2.length];exact c.2,?_};cases g with|fz hd=>{exact az s n hd f};exact .inl (kQ.h s b (by unfold aSl;exact{(c),f}) n);exact f.elim}
end
mutual
def depD:D->Nat|.lst xs=>depDs xs+1|.tup xs=>depDs xs+1|_=>0
def depDs:↥D->Nat|[]=>0|d::ds=>max (depD d) (depDs ds)
end
mutual
def okS:D->Bool|.lst xs=>okSs xs|.tup xs=>okSs xs|.dct _ _=>false|.ty _=>false|.gt _=>false|.dt _ _=>false|_=>true
def okSs:↥D->Bool|[]=>true|d::ds=>okS d&&okSs ds
end
end _L
namespace _L
open PySem PySem.Builtin PySem.Builtin.Str PySem.StrLaws
def iw(z:Str):z.length=z.cps.toList.length:=by simp[Str.length]
end _L
namespace _L
open PySem PySem.Spec PyProof.Rows
variable{X:Cx}{e st:Expr}{te:TE}{p2 pos:Pos}{μ:↥Nat}{A:Around}{E:Value->Shared->Prop}{s:Shared}{σ:St}{H:Hp}
def RvR(X:Cx)(r:V->Hp->VK->Prop):Prop:=∀(pins:↥(Addr×Obj))(s:Shared)(σ:St)(H:Hp)(x:V)(v:Value)(t:Tok)(sl:Addr)(Q:VK),Inv X pins σ H s->RelV x v->s.1.IsSliceOf sl .none .none (.int (-1) t)->r x H Q ->∃T id,typeLookup (.type T) "__getitem__"=pure !(.builtin id)/\s.TypeIs v T/\wpAny (model X.prog X.w) X.A (getItem v (.ref sl)) (EP X pins σ Q) X.xe s
def tRv(r:V->Hp->VK->Prop)(te:TE):TE:=λσ H Q=>te σ H λx H1=>r x H1 Q
def KP{r:V->Hp->VK->Prop}(hr:RvR X r)(m:PE X e te)(c:PE X st (tC (.int (-1)))):PE X (.Subscript e (.Slice none none ↑st p2) pos) (tRv r te):=by intro pins s σ H Q I h;refine Subscript_ (thn (m pins s σ H _ I h) λv d z=>?_);let⟨x,H1,u,g,j⟩:=z;refine wpAny_Slice ?_;rw[evalPart_none];refine aaf (aaf ?_);refine thn (c pins d σ H1 (λw H2=>w=.int (-1)/\H2=H1) u {(rfl),rfl}) λvs a b=>?_;let⟨y,H2,p,f,i⟩:=b;let⟨rfl,rfl⟩:=i;let⟨t,rfl⟩:=f;have o:Inv X pins σ H2 {a with heap:=a.1.push {cls:=.type "slice",data:=.fields #[.none,.none,.int (-1) t]}}:=p.kept (t':=a.toks) λb ob q=>abV _ q;let⟨T,id,n,k,l⟩:=hr pins {a with heap:=a.1.push {cls:=.type "slice",data:=.fields #[.none,.none,.int (-1) t]}} σ H2 x v t a.1.1.size Q o g (Heap.IsSliceOf.new ..) j;show wpAny (model X.prog X.w) X.A (subscriptTail e (.Slice none none ↑st p2) v (.ref a.1.1.size)) (EP X pins σ Q) X.xe {a with heap:=a.1.push {cls:=.type "slice",data:=.fields #[.none,.none,.int (-1) t]}};exact tail_any (ops:=[v,.ref a.1.1.size]) k n l (by with_unfolding_all rfl)
def Pi(K:Frag):V->Hp->VK->Prop:=λx H Q=>∃a xs,x=.ref a/\SqL K H a xs/\∀p,H p=none->Q (.ref p) (upd H p (.lst xs.reverse))
def FP:RvR X (Pi X.K):=by intro pins s σ H x v t sl Q I e hs h;let⟨a,xs,rfl,g,q⟩:=h;cases e;let⟨its,r,c,f⟩:=I.list g;have d:=r.length;refine{"list",_,slot_list_getitem.lookup,c.isList.typeIs,?_};refine wpAny_getItem_list_slice c.isList hs .none .none (.int (-1) t) (by simp) ?_ (by rw[List.size_toArray]<;>nofun);rw[PySem.W.krv_pick];exact{.ref s.1.1.size,_,I.laid (t':=s.toks) (o:=.lst xs.reverse) (λb ob q=>abV _ q) (aab _) {by rw[aaB];exact f,_,0,r.reverse,ab0 _ rfl},rfl,q _ (I.hok.fresh (aab _))}
def N7(z:Str):Str:={(z.cps.toList.reverse.toArray)}
def Pj:V->Hp->VK->Prop:=λx H Q=>∃z:Str,x=.str z/\z.length<=sizeLine/\Q (.str (N7 z)) H
def rE(z:Str)(t:Tok):({((slicePicked z none none !(-1,t)).filterMap (z.cps[·]?)).toArray}:Str)=N7 z:=by refine gB ?_;show ((Builtin.Str.strSliceIndices none none (-1) z.length).filterMap (z.cps[·]?)).toArray.toList=z.cps.toList.reverse.toArray.toList;rw[picked_rev,abP,abP];rw[PyProof.Rows.filterMap_get,aar];refine List.ext_getElem (by simp[Str.length]) λi h1 h2=>?_;have hi:i<z.cps.size:=by{simpa [Str.length]using h1};have c:z.cps.size - 1 - i<z.cps.size:=();rw[abw,acO,List.getElem_reverse];show z.cps.getD (z.cps.size - 1 - i) 0=_;rw[acl,ab9 c];rfl;intro i hi;let⟨k,b,rfl⟩:=abZ.mp hi;have a:k<z.length:=acw.mp b;show z.length - 1 - k<z.length;nofun
def KQ:RvR X Pj:=by intro pins s σ H x v t sl Q I a hs h;let⟨z,rfl,b,q⟩:=h;let⟨u,rfl⟩:=a;refine{"str",_,PySem.F.slot_str_getitem.lookup,typeIs_str _ _ _,?_};let⟨o,c,d,hd⟩:=hs;refine abf (l:=none) (u:=none) (st:=!(-1,t)) {(o),c,d,hd} rfl ?_;show (Made.str _).post _ _;rw[rE];exact{by show (z.cps.toList.reverse.toArray).size<=sizeLine;rw[aca,aaB];exact b,.str _,H,I.tok _,{_,rfl},q}
def N8(K:Frag):V->Hp->VK->Prop:=λx H Q=>Pj x H Q∨Pi K x H Q
def KU:RvR X (N8 X.K):=by intro pins s σ H x v t sl Q I a hs h;rcases h with h|h;exact KQ pins s σ H x v t sl Q I a hs h;exact FP pins s σ H x v t sl Q I a hs h
def KW(K:Frag)(b:BE X e te)(a:BE X st (tC (.int (-1))))(h:X.K=K):BE X (.Subscript e (.Slice none none ↑st p2) pos) (tRv (N8 K) te):=by subst h;exact{KP KU b.h a.h}
section
variable{K:Frag}
def fRv(fe:FE):FE:=λρ Q=>fe ρ λr a=>on1 a r λd=>match d with|.str z=>z.length<=sizeLine/\Q (.ov (.fz (.str (N7 z)))) a|.lst ds=>Q (.ov (.fl ds.reverse)) a|_=>False
def N9{fe:FE}(k:EF K μ te fe):EF K μ (tRv (N8 K) te) (fRv fe):=-{by
 intro F Z H s σ ρ A Q P f R h q;refine k.h f R h λt b x F1 H1 C y h1 i c v1 f1=>?_;let⟨d,e,h2⟩:=ca h1;have n:=c.after (P:=λo=>P (.ov o) b) λo v w u B p g r j fr=>q _ _ _ _ _ _ _ p (i.trans g) r j fr;cases d
 case str z=>exact .inl {z,(c.acc v1 e).str_eq,h2.1,az (P:=λo=>P (.ov o) b) c.fh n (.str _) h2.2}
 case lst ds=>
  let⟨a,xs,rfl,m,l⟩:=(c.acc v1 e).asL c.fh;exact .inr {a,xs,rfl,m,dm (P:=λo=>P (.ov o) b) c.fh n l.reverse h2}
 all_goals exact faa h2}
end
def KY:↥RV->Option ↥D
 |[]=>![]
 |.ov (.fz d)::a=>match KY a with
  |some ds=>!(d::ds)
  |none=>none
 |_::_=>none
section
variable{K:Frag}  {G:Hp->Prop}
def rF{F:Hp}{a:↥RV}{vs:↥V}{B:↥Addr}(h:RVL K F H σ vs a B):∀{ds:↥D},KY a=!ds->Dens K F vs ds:=by induction h with|nil=>intro ds e;cases e;exact .nil|@cons v r vs a A B h t b=>intro ds e;cases r with|br i=>cases e|ov o=>cases o with|fz d=>{unfold KY at e;cases q:KY a with|none=>rw[q]at e;cases e|some c=>rw[q]at e;cases e;cases h with|fz dn=>exact .cons dn (b q)}|_=>cases e
end
end _L
namespace _L
open PySem PySem.Spec PyProof.Rows
open PySem.Builtin PySem.Builtin.Str PySem.StrLaws
section
variable{X:Cx}
theorem Oa{j:Nat}{p pos:Pos}:BE X (.UnaryOp .USub (.Constant (.int 1) j p) pos) (tC (.int (-1))):={λpins s σ H Q I h=>tV (X:=X) tU|>.h pins s σ H Q I ⟨1,rfl,h⟩}
end
end _L
namespace _L
open PySem PySem.Spec PyProof.Rows
variable{μ ixs T m:↥Nat}{n no i j c k ix:Nat}{te tv ty tk:TE}{fe fk:FE}{g:TG}{fg:FG}{tc ta tb td tf tg ti tj α K:Type}{fc:FT}{t:TA}{fa:FA}{wi:TI}{fi:FI}{ds:↥D}{os:↥OV}{y:Prop}{X:Cx}{pos p pos2:Pos}{x f q mn:Str}{e:Expr}{es:↥Expr}{st:Stmt}{oc doc pm cdv ct:Value}{od an:Option Addr}{osl:Array (Option Value)}{Z F F' H H':Hp}{fd:FuncData}{ps:↥FV}{σ:St}{ρ:FSt}{A B:↥Addr}{a C b r:Addr}{v:V}{o:Obj}{vs xs:↥V}{d:D}{cc:Ct}{prog:Program}{w:World}{E Q:Value->Shared->Prop}{s:Shared}{pins:↥(Addr×Obj)}{ks:↥↥Key}{u:Tok}
def cO(fa:FE):FT:=av fa
def bI(_:↥Nat)(no:Nat)(fi:FI)(fg:FG)(ft:FT)(fe:FE):FE:=Kh no fi fg ft fe
def uS(_:↥Nat)(no i:Nat)(fg:FG)(ft:FT)(fe:FE):FE:=pi no i fg ft fe
def uT(_:↥Nat)(no i:Nat)(fg:FG)(ft:FT)(fe:FE):FE:=Cj no i fg ft fe
def uU(_:↥Nat)(no i:Nat)(fg:FG)(ft:FT)(fe:FE):FE:=pj N4 no i fg ft fe
section
variable{K:Frag}
def Oc{tc:TT}(h:j<n)(b:GF K (muC no ixs (List.range n)) T g fg)(e:∀i∈T,i<no)(a:∀j∈ixs,j<(List.range n).length)(d:TF K (muC no ixs (List.range n)) tc fc)(c:EF K (muC no ixs (List.range n)) te fe):EF K (List.range n) (rD (eP no ixs (mh KL (da j)) g tc te)) (uU ixs no j fg fc fe):=-pp FM (by simp[h]) a b e d c
def tf_B(a:EF K μ te fe):TF K μ (tB te) (cO fe):=-{(um a).h}
def zG{c:Ct}(a:AF K μ t fa):EF K μ (kz (spM K c) [] E0 t) (al c fa):=-uq a
def Od(h:μ[μ.idxOf i]?=!i):EF K μ (da (μ.idxOf i)) (ab i):=-ul h
def gf_c(h:decide (i<no)=true)(a:(muC no ixs μ).Nodup):GF K (muC no ixs μ) [i] (fG i) (ac i):=-ur (by unfold muC;rw[acg (by rw[acz];exact of_decide_eq_true h)];simp[of_decide_eq_true h]) a
def Oe{tc:TT}(hi:ITF K μ wi fi)(b:GF K (muC no ixs μ) T g fg)(e:∀i∈T,i<no)(a:∀j∈ixs,j<μ.length)(d:TF K (muC no ixs μ) tc fc)(c:EF K (muC no ixs μ) te fe):EF K μ (eP no ixs wi g tc te) (bI ixs no fi fg fc fe):=-E5 hi a b e d c
def Of{tc:TT}(h:j<n)(b:GF K (muC no ixs (List.range n)) T g fg)(e:∀i∈T,i<no)(a:∀j∈ixs,j<(List.range n).length)(d:TF K (muC no ixs (List.range n)) tc fc)(c:EF K (muC no ixs (List.range n)) te fe):EF K (List.range n) (eP no ixs (nu K (da j)) g tc te) (uS ixs no j fg fc fe):=-uK h a b e d c
def Og{tc:TT}(h:j<n)(b:GF K (muC no ixs (List.range n)) T g fg)(e:∀i∈T,i<no)(a:∀j∈ixs,j<(List.range n).length)(d:TF K (muC no ixs (List.range n)) tc fc)(c:EF K (muC no ixs (List.range n)) te fe):EF K (List.range n) (rD (eP no ixs (mh HR (da j)) g tc te)) (uT ixs no j fg fc fe):=-uP h a b e d c
end
def FQ:↥D->↥Str|.str z::ds=>z::FQ ds|_=>[]
def Oh{K:Frag}(h:(FQ ds).map D.str=ds):EF K μ (tGU K ((FQ ds).map V.str)) (fC (.gt ds)):=-NX λ_=>by
 conv=>arg 4;rw[←h]
 exact Dens.strs _
def MU(m:↥Nat):Nat->↥OV->Bool|_,[]=>true|i,o::os=>(m.contains i||si o)&&MU m (i+1) os
theorem uV{m:↥Nat}:∀{os:↥OV}{i:Nat},MU m i os=true->∀j o,os[j]?=!o->i+j∉m->si o=true|[],_,_,_,_,e,_=>nomatch e|a::os,i,h,j,o,e,n=>by rw[MU,ach,Bool.or_eq_true]at h;cases j with|zero=>cases e;exact h.1.elim (λz=>absurd (List.contains_iff_mem.mp z) n) id|succ j=>exact uV h.2 j o e (by rw [Nat.add_right_comm];exact n)
def lo_of(h1:os.length=n)(h2:MU m 0 os=true):os.length=n/\∀j o,os[j]?=!o->j∉m->si o=true:=-{h1,λj o e a=>uV h2 j o e (by rw[Nat.zero_add];exact a)}
abbrev Lk(n:Nat)(m:↥Nat)(os:↥OV):Prop:=os.length=n/\∀j o,os[j]?=!o->j∉m->si o=true
def lq{l:↥OV}{r:Prop}(h:os=l/\r)(k:Lk n m l):Lk n m os:=-h.1 ▸ k
def ex1{r:ta->Prop}(h:∃a,r a)(k:∀a,r a->y):y:=-h.elim k
def ex2{r:ta->tb->Prop}(h:∃a b,r a b)(k:∀a b,r a b->y):y:=-h.elim λa e=>ex1 e (k a)
def ex3{r:ta->tb->tc->Prop}(h:∃a b c,r a b c)(k:∀a b c,r a b c->y):y:=-h.elim λa e=>ex2 e (k a)
def ex4{r:ta->tb->tc->td->Prop}(h:∃a b c d,r a b c d)(k:∀a b c d,r a b c d->y):y:=-h.elim λa e=>ex3 e (k a)
def ex5{te:Type}{r:ta->tb->tc->td->te->Prop}(h:∃a b c d e,r a b c d e)(k:∀a b c d e,r a b c d e->y):y:=-h.elim λa e=>ex4 e (k a)
def ex6{te:Type}{r:ta->tb->tc->td->te->tf->Prop}(h:∃a b c d e f,r a b c d e f)(k:∀a b c d e f,r a b c d e f->y):y:=-h.elim λa e=>ex5 e (k a)
def ex7{te:Type}{r:ta->tb->tc->td->te->tf->tg->Prop}(h:∃a b c d e f g,r a b c d e f g)(k:∀a b c d e f g,r a b c d e f g->y):y:=-h.elim λa e=>ex6 e (k a)
def ex8{te:Type}{r:ta->tb->tc->td->te->tf->tg->ti->Prop}(h:∃a b c d e f g i,r a b c d e f g i)(k:∀a b c d e f g i,r a b c d e f g i->y):y:=-h.elim λa e=>ex7 e (k a)
def ex9{te:Type}{r:ta->tb->tc->td->te->tf->tg->ti->tj->Prop}(h:∃a b c d e f g i j,r a b c d e f g i j)(k:∀a b c d e f g i j,r a b c d e f g i j->y):y:=-h.elim λa e=>ex8 e (k a)
def ex10{te l:Type}{r:ta->tb->tc->td->te->tf->tg->ti->tj->l->Prop}(h:∃a b c d e f g i j p,r a b c d e f g i j p)(k:∀a b c d e f g i j p,r a b c d e f g i j p->y):y:=-h.elim λa e=>ex9 e (k a)
def tgN:Expr->↥Str
 |.Name x _=>[x]
 |.Tuple es _ _=>es.filterMap λe=>match e with
  |.Name x _=>!x
  |_=>none
 |_=>[]
def fvN(X:Cx)(ixs:↥Nat):↥Str:=ixs.map λi=>X.N.getD i ""
def Oi{l:↥Str}(h:decide l.Nodup=true):l.Nodup:=-of_decide_eq_true h
section
variable    {scope:Scope} {elt tg iter:Expr} {ifs:↥Expr}    {tc:TT}
def Oj(e:(tgN tg).length=no)(d:X.calm=true)(S:CompScope X (tgN tg) (fvN X ixs) ixs scope)(hi:BI X tg iter wi)(b:∀C s H fp,BG (bE X (tgN tg++fvN X ixs) scope (aL X.env scope.names []) C s H fp) tg g)(a:∀C s H fp,BIf (bE X (tgN tg++fvN X ixs) scope (aL X.env scope.names []) C s H fp) ifs tc)(c:∀C s H fp,BE (bE X (tgN tg++fvN X ixs) scope (aL X.env scope.names []) C s H fp) elt te)(hs:∀x,foldedSetIterable iter X.env x=pure x):BE X (.ListComp elt [{(tg),iter,ifs,0}] scope pos) (eP no ixs wi g tc te):=-e ▸ Ee d S hi b a c hs
def Ol{y:Str}{py a:Pos}(b:swapsWith (.ListComp elt [{(tg),iter,ifs,0}] scope pos) ↑(.Name y py) a.line X.env=pure true)(l:(tgN tg).length=no)(k:X.calm=true)(S:CompScope X (tgN tg) (fvN X ixs) ixs scope)(hi:BI X tg iter wi)(e:∀C s H fp,BG (bE X (tgN tg++fvN X ixs) scope (aL X.env scope.names []) C s H fp) tg g)(d:∀C s H fp,BIf (bE X (tgN tg++fvN X ixs) scope (aL X.env scope.names []) C s H fp) ifs tc)(j:∀C s H fp,BE (bE X (tgN tg++fvN X ixs) scope (aL X.env scope.names []) C s H fp) elt te)(hs:∀x,foldedSetIterable iter X.env x=pure x)(m:X.N.Nodup)(c:X.N[i]?=!y)(hx:Loc X.env.scope y)(f:X.fn y=true∨X.env.scope.names.lookup y=!.local):BS X (.Assign [.Name y py] (.ListComp elt [{(tg),iter,ifs,0}] scope pos) a) (qE (eP no ixs wi g tc te) (fG i)):=-l ▸ EJ k S hi e d j hs m c hx b f
def zH{f:Value}{r:↥V->Hp->VK->Prop}(k:BCall X f r)(i:X.mg x=none)(d:bootBuiltins x=!f)(m:(∃id,f=.builtin id)∨∃T,f=.type T)(l:BA X (e::es) t)(j:X.env.kindOf x=!.globalImplicit)(a:(e::es).all bh=true)(g:(x=="__name__")=false)(c:(x==("__debug__":Str))=false):BE X (.Call (.Name x p) (e::es) [] pos) (tCB r t):=by have b:x≠ "__name__":=λz=>by{rw[z]at g;exact absurd g (by decide)};rcases m with ⟨id,rfl⟩|⟨T,rfl⟩;exact yw k i d l j a b c;exact yx k i d l j a b c
end
structure Df(K:Frag)(x:Str)(st:Stmt)(f:Addr)(fd:FuncData):Prop where
 ns:PySem.W.nsIn K mainGlobals x=!!(.ref f)
 fn:Fun K x x st f fd
def df_mk{K:Frag}{f:Addr}{kV:Value}(a:PySem.W.nsIn K mainGlobals x=!!(.ref f))(l:K.lookup f=!{oc,od,.func (PySem.W.fnOf x x (cW st) (bH st) (ax st) .none kV doc pm an cdv ct),osl})(c:PySem.W.codeIn K cdv x=true)(k:PySem.W.keepIn K (.ref f)=true):Df K x st f (PySem.W.fnOf x x (cW st) (bH st) (ax st) .none kV doc pm an cdv ct):=-{a,BV l c k}
def sc_of{N P:↥Str}{a:Scope}(h1:a.kind=.function)(h2:a.isCoroutine=false)(c:a.isGenerator=false)(b:N.take P.length=P)(h:N.Nodup/\(∀x∈P,a.names.lookup x=↑.local∨a.names.lookup x=!.cell)/\∀y∈a.names,y.2≠.free):FnScope N P a:=-{(h1),h2,c,h.1,b,h.2.1,h.2.2}
abbrev Lh(c:Ct)(n:Nat)(m:↥Nat):Prop:=∀os P,c os P->os.length=n/\∀j o,os[j]?=!o->j∉m->si o=true
abbrev Hh(c:Ct)(f:FS)(m:↥Nat)(n:Nat):Prop:=∀os P,c os P->f {nx:=fin m os P (.fz .non),rt:=fin m os P} (ak n os)
structure Zz where
 P:Program
 w:World
 K:Frag
 mg:Str->Option Value
 base:Heap
 h:Heap
structure TopZ(Z:Zz)(T:Prop):Prop where
 X:Z.K.In Z.h
 G:Z.h.Ns mainGlobals Z.mg
 T:T
abbrev cG(Z:Zz)(x:Str)(k:Nat)(ps:↥Str)(c:Ct):Prop:=Own Z.P Z.w Z.K Z.mg Z.base x k ps (spM Z.K c)
section
variable{Z:Zz}{T:Prop}   {f:Addr}  {ps:↥Str} {c:Ct} {fs:FS}
def k7(N:↥Str)(t:TopZ Z T)(D:Fun Z.K x q st f fd)(e:Lh c ps.length m)(l:Hh c fs m n)(S:FnScope N ps (ax st))(d:∀(cdv:Value)(A:Around)(outer:↥Env)(s:Shared)(H:Hp)(E:XK),T->N.Nodup->Room k (A.deeper (envOfC q (ax st) s.1.1.size f cdv)) ->∃t,SF Z.K n m t fs/\BSs (sN CX0 Z.P Z.w Z.K Z.mg Z.base N q (ax st) f cdv A outer s H E).nox (bH st) t)(g:autoParam (N.length=n) _L.aR._auto_1)(o:autoParam (ps.length<=n) _L.aD._auto_1)(j:autoParam (∀i∈m,i<ps.length) _L.aD._auto_1):FnOk Z.P Z.w Z.K Z.mg Z.base CX0 (k+1) f fd ps (spM Z.K c):=- Fun.okG n m D S g o e j (λcdv A outer s H E hr=>let ⟨t,a,b⟩:=d cdv A outer s H E t.T S.nd hr;{(t),b,a}) l
def aw(N:↥Str)(t:TopZ Z T)(D:Df Z.K x st f fd)(b:Lh c ps.length m)(g:Hh c fs m n)(j:∀(kV doc pm:Value)(an:Option Addr)(cdv ct:Value)(us:↥Value),us.length=ps.length->bindArgs (PySem.W.fnOf x x (cW st) (bH st) (ax st) .none kV doc pm an cdv ct) {us,[]}=pure (ps.zip us))(S:FnScope N ps (ax st))(a:∀(cdv:Value)(A:Around)(outer:↥Env)(s:Shared)(H:Hp)(E:XK),T->N.Nodup->Room k (A.deeper (envOfC x (ax st) s.1.1.size f cdv)) ->∃t,SF Z.K n m t fs/\BSs (sN CX0 Z.P Z.w Z.K Z.mg Z.base N x (ax st) f cdv A outer s H E).nox (bH st) t)(d:autoParam (N.length=n) _L.aR._auto_1)(l:autoParam (ps.length<=n) _L.aD._auto_1)(e:autoParam (∀i∈m,i<ps.length) _L.aD._auto_1):cG Z x (k+1) ps c:=- {f,fd,k7 N t D.fn b g S a d l e,aaY t.X t.G D.ns,D.fn.kp,D.fn.binds j}
end
structure ClsF(K:Frag)(c:Nat)(C:Addr):Prop where
 ns:PySem.W.nsIn K mainGlobals (EK c)=!!(.ref C)
 cl:Cls K C
 na:∀f∈cD c,NoAttr K C f
def dY(c:Nat):(cD c).Nodup:=by
 match c with
 |0=>decide+kernel
 |1=>exact aaH
 |_+2=>exact aaH
def unO(ρ:FSt)(i c:Nat):Option (Addr×↥FV):=match ρ[i]? with|some ↑(.ob ⟨a,b,ps⟩)=>(match Nat.beq b c with|true=>!(a,ps)|false=>none)|_=>none
def MV(a:Addr):OV->Option FV|.fz d=>!(.fz d)|.fl ds=>!(.fl a ds)|.fd ks ds=>!(.fd a ks ds)|.ft ks ds=>!(.ft a ks ds)|_=>none
def uW(as:Nat->Addr):Nat->↥OV->Option ↥FV
 |_,[]=>![]
 |i,o::os=>match MV (as i) o with
  |some p=>match uW as (i+1) os with
   |some ps=>!(p::ps)
   |none=>none
  |none=>none
def KZ(ps:↥FV)(k:Nat)(g:FV):Option ↥FV:=match Nat.blt k ps.length with|true=>!(ps.set k g)|false=>(match Nat.beq k ps.length with|true=>!(ps++[g])|false=>none)
section
variable{K:Frag}
def uX(h:unO ρ i c=!(a,ps)):ρ[i]?=!!(.ob {(a),c,ps}):=by unfold unO at h;split at h;rename_i g f b e;split at h;rename_i d;cases h;rw[e,Nat.eq_of_beq_eq_true d];cases h;cases h
def adr:V->Addr|.ref a=>a|_=>0
def Ow.part{o:OV}{g:FV}(h:Ow K F H v o B)(e:MV (adr v) o=!g):Fw K F H v g B:=by cases h with|fz h=>cases e;exact .fz h|fl h t=>cases e;exact .fl h t|fd h q t=>cases e;exact .fd h q t|ft h q t=>cases e;exact .ft h q t|_=>cases e
def Ows.parts{as:Nat->Addr}(h:Ows K F H vs os B):∀{ps:↥FV}{i:Nat},(∀j v,vs[j]?=!v->as (i+j)=adr v)->uW as i os=!ps->Fws K F H vs ps B:=by induction h with|nil=>intro ps i _ e;cases e;exact .nil|@cons v o _ os _ _ h t f=>intro ps i c e;unfold uW at e;have k:as i=adr v:=c 0 v rfl;cases a:MV (as i) o with|none=>rw [a]at e;cases e|some p=>cases b:uW as (i+1) os with|none=>rw[a,b]at e;cases e|some d=>rw[a,b]at e;cases e;exact .cons (h.part (k ▸ a)) (f (λj w g=>by rw[show i+1+j=i+(j+1)from ()];exact c (j+1) w g) b)
def Fws.length{xs:↥V}{ps:↥FV}{B:↥Addr}(h:Fws K F H xs ps B):xs.length=ps.length:=by induction h with|nil=>rfl|cons _ _ a=>exact congrArg (·+1) a
def Fws.at_(h:Fws K F H xs ps B):∀{k:Nat}{g:FV},ps[k]?=!g->∃x C B',xs[k]?=!x/\Fw K F H x g C/\B.Perm (C++B')/\ ∀F' H' y g' c,Same F F'->(∀a u,a∈B'->H a=!u->H' a=!u)->Fw K F' H' y g' c->∃b,Fws K F' H' (xs.set k y) (ps.set k g') b/\b.Perm (c++B'):=by induction h with|nil=>intro k g e;cases e|@cons x o xs os d q h t m=>intro k g e;cases k with|zero=>cases e;exact{x,d,q,rfl,h,aaE _,λF' H' y g' c s k w=>{_,.cons w (t.keep s k),aaE _}}|succ k=>let⟨y,C,B',h1,h2,p,n⟩:=m (k:=k) e;have sw:∀(C:↥Addr),(d++(C++B')).Perm (C++(d++B')):=λC=>by{rw[←aay,←aay];exact abi _ abn};refine{y,C,d++B',h1,h2,(aa0 d p).trans (sw C),λF' H' i g' c s k w=>?_};let⟨b,l,j⟩:=n F' H' i g' c s (λa u f=>k a u (aal _ f)) w;exact{_,.cons (h.keep s λa u f=>k a u (aax _ f)) l,(aa0 d j).trans (sw c)}
def Fws.snoc{C:↥Addr}{y:V}{g:FV}(h:Fws K F H xs ps B)(w:Fw K F H y g C):∃a,Fws K F H (xs++[y]) (ps++[g]) a/\a.Perm (C++B):=by induction h with|nil=>exact{_,.cons w .nil,aaE _}|@cons x o xs os c d h t b=>let⟨a,h1,h2⟩:=b;refine{_,.cons h h1,(aa0 c h2).trans ?_};rw[←aay,←aay];exact abi _ abn
def Rel.away(R:Rel K F Z H σ ρ A)(k:∀a u,a∉B->H a=!u->H' a=!u)(f:∀b∈B,F b=none/\Z b=none/\b∉A):Rel K F Z H' σ ρ A:=- {R.sl.keep (Same.refl _) λa u c h=>k a u (λz=>(f a z).2.2 c) h,R.nd,R.fr,λa u h=>k a u (λz=>by rw[(f a z).1]at h;cases h) (R.fh a u h),{λa u h=>k a u (λz=>by rw[(f a z).2.1]at h;cases h) (R.zh.s a u h),R.zh.n},R.dj}
def Rel.chg{o:OV}(R:Rel K F Z H σ ρ A)(e:ρ[i]?=!!o):∃v B,σ[i]?=!!v/\Ow K F H v o B/\B.Nodup/\(∀b∈B,b∈A)/\ ∀H' o' c,(∀a u,a∉B->H a=!u->H' a=!u)->Ow K F H' v o' c->c.Nodup->(∀b∈c,b∈B∨(F b=none/\Z b=none/\b∉A))->∃A',Rel K F Z H' σ (ρ.set i !o') A':=by let⟨v,B,A',h1,h2,R',f,pm⟩:=R.takeI e;refine{v,B,h1,h2,f.nd,λb d=>pm.mem_iff.mpr (abS.mpr (.inl d)),λH' o' c k w nd m=>?_};let⟨j,g,_⟩:=(R'.away k f.fr).putI (dg e) h1 w {nd,λb d=>(m b d).elim (f.fr b) λz=>{z.1,z.2.1,λy=>z.2.2 (pm.mem_iff.mpr (abS.mpr (.inr y)))}};rw[aa4]at g;exact{(j),g}
def uY{fs:↥(Str×V)}:∀{k:Nat}{f:Str}{x:V},(fs.map (·.1)).Nodup->(fs.map (·.1))[k]?=!f->(fs.map (·.2))[k]?=!x->fs.lookup f=!x:=by induction fs with|nil=>intro k f x _ h;cases h|cons p fs c=>intro k f x n h1 h2;let⟨b,a⟩:=ab4.mp n;cases k with|zero=>cases h1;cases h2;simp [List.lookup]|succ k=>have d:f∈fs.map (·.1):=abX h1;have:(f==p.1)=false:=beq_eq_false_iff_ne.mpr λz=>b (show p.1∈_ from z ▸ d);rw[aaK,this];exact c (k:=k) a h1 h2
def FR{fs:↥(Str×V)}(h:f∉fs.map (·.1)):fs.lookup f=none:=by induction fs with|nil=>rfl|cons p fs a=>rw[ab1,ab2,not_or]at h;rw[aaK,beq_eq_false_iff_ne.mpr h.1];exact a h.2
def FU{y:V}{fs:↥(Str×V)}:∀{k:Nat}{f:Str},(fs.map (·.1)).Nodup->(fs.map (·.1))[k]?=!f->(ge f y fs).map (·.1)=fs.map (·.1)/\(ge f y fs).map (·.2)=(fs.map (·.2)).set k y:=by induction fs with|nil=>intro k f _ h;cases h|cons p fs c=>intro k f n h1;let⟨b,a⟩:=ab4.mp n;let⟨g,x⟩:=p;cases k with|zero=>cases h1;unfold ge;rw [if_pos rfl];exact {(rfl),rfl}|succ k=>have d:f∈fs.map (·.1):=abX h1;unfold ge;rw[if_neg λz:g=f=>b (show g∈_ from z.symm ▸ d)];let⟨i,e⟩:=c (k:=k) a h1;exact{by rw[ab1,ab1,i],by rw[ab1,ab1,e];rfl}
theorem pq{y:V}{f:Str}:∀{fs:↥(Str×V)},f∉fs.map (·.1)->ge f y fs=fs++[(f,y)]|[],_=>rfl|(g,x)::fs,h=>by rw[ab1,ab2,not_or]at h;unfold ge;rw[if_neg λz=>h.1 z.symm,pq h.2];rfl
def Rel.obj(R:Rel K F Z H σ ρ A)(hC:ClsF K c C)(e:unO ρ i c=!(a,ps)):∃dx fs B,σ[i]?=!!(.ref a)/\H a=!(.ins C dx fs)/\fs.map (·.1)=(cD c).take ps.length/\ps.length<=(cD c).length/\Fws K F H (fs.map (·.2)) ps B/\(a::B).Nodup/\(∀b∈a::B,b∈A)/\ ∀H' fs' d j,(∀b u,b∉a::B->H b=!u->H' b=!u)->H' a=!(.ins C dx fs')->fs'.map (·.1)=(cD c).take d.length->d.length<=(cD c).length->Fws K F H' (fs'.map (·.2)) d j->(a::j).Nodup->(∀b∈j,b∈B∨(F b=none/\Z b=none/\b∉A))->∃A',Rel K F Z H' σ (ρ.set i !(.ob {(a),c,d})) A':=by let⟨v,G,h1,h2,n,m,g⟩:=R.chg (uX e);cases h2 with|ob h2=>cases h2 with|@mk _ E dx _ fs _ B D f w t s=>have:E=C:=by{have:=f.symm.trans hC.ns;cases this;rfl};subst this;refine{dx,fs,B,h1,D,w,t,s,n,m,λH' fs' d j k y p o l q r=>g H' _ (a::j) k (.ob (.mk y f p o l)) q λb x=>?_};rcases ab2.mp x with z|z;exact .inl (z ▸ aac ..);exact(r b z).imp (aad _) id
def gK{l:↥α}{x:α}(h:l[k]?=!x)(a:k<n):(l.take n)[k]?=!x:=by rw[acr a];exact h
def ie(c i k:Nat):FE:=λρ Q=>match unO ρ i c with|some (_,ps)=>(match ps[k]? with|some (.fz d)=>Q (.ov (.fz d)) ρ|_=>False)|none=>False
def K0(hC:ClsF K c C)(p:μ[j]?=!i)(b:(cD c)[k]?=!f):EF K μ (xV K (da j) f) (ie c i k):=-{by intro F Z H s σ ρ A Q P m R h q;unfold ie at h;split at h;rename_i a ps e;split at h;rename_i d l;let⟨dx,fs,B,h1,h2,g,t,r,_⟩:=R.obj hC e;let⟨x,u,v,g1,g2,_⟩:=r.at_ l;have o:k<ps.length:=(abT.mp l).1;have n:fs.lookup f=!x:=uY (k:=k) (by rw[g];exact(aa6 ..).nodup (dY c)) (by rw[g];exact gK b o) g1;cases g2 with|fz dn=>{exact{.ref a,(m j i p).1.trans h1,a,C,dx,fs,x,rfl,h2,hC.cl,hC.na f (abX b),n,q _ _ _ _ _ _ _ h (Same.refl _) R (.fz dn) Fresh.nil}};exact h.elim;exact h.elim}
def uZ(c:Nat):(cD c).length<1000:=by
 match c with
 |0=>decide
 |1=>decide
 |_+2=>show (0:Nat)<1000;decide
def Rel.setF{s:↥FV}{g:FV}{y:V}{E:↥Addr}(R:Rel K F Z H σ ρ A)(hC:ClsF K c C)(G:(cD c)[k]?=!f)(e:unO ρ i c=!(a,ps))(w:Fw K F H y g E)(fr:Fresh F Z A E)(ep:KZ ps k g=!s):∃dx fs,σ[i]?=!!(.ref a)/\H a=!(.ins C dx fs)/\fs.length<1000/\∃A',Rel K F Z (upd H a (.ins C dx (ge f y fs))) σ (ρ.set i !(.ob {(a),c,s})) A':=by let⟨dx,fs,B,h1,h2,D,h4,Q,nd,mA,mk⟩:=R.obj hC e;let⟨m,t⟩:=ab4.mp nd;have L:=Q.length;rw[abR]at L;have O:a∈A:=mA a (aac ..);have r:∀b∈E,b≠a:=λb d z=>(fr.fr b d).2.2 (z ▸ O);have out:∀b u,b≠a->H b=!u->upd H a (.ins C dx (ge f y fs)) b=!u:=λb u d q=>by{rw[aj d];exact q};have T:Fw K F (upd H a (.ins C dx (ge f y fs))) y g E:=w.keep (Same.refl _) λb u d q=>out b u (r b d) q;have X:(fs.map (·.1)).Nodup:=by{rw[D];exact(aa6 ..).nodup (dY c)};refine{dx,fs,h1,h2,by have:=uZ c;nofun,?_};unfold KZ at ep;split at ep;rename_i o;have o:k<ps.length:=Nat.le_of_ble_eq_true o;cases ep;let⟨x,C0,B',g1,g2,pm,g4⟩:=Q.at_ (abU o);let⟨W,p2⟩:=FU (y:=y) (k:=k) X (by rw[D];exact gK G o);have n:∀b∈B',b∈B:=λb d=>pm.mem_iff.mpr (abS.mpr (.inr d));let⟨S,I,l⟩:=g4 F (upd H a (.ins C dx (ge f y fs))) y g E (Same.refl _) (λb u d q=>out b u (λz=>m (z ▸ n b d)) q) T;let⟨_,Y,_⟩:=aP pm t;refine mk _ _ _ S (λb u d q=>out b u (λz=>d (z ▸ aac ..)) q) ah (by rw[W,D,aaG]) (by rw[aaG];exact h4) (by rw[p2];exact I) (ab4.mpr {λd=>?_,l.nodup_iff.mpr (ace.mpr {fr.nd,Y,λb d b' p z=>?_})}) λb d=>?_;rcases abS.mp (l.mem_iff.mp d)with z|z;exact r a z rfl;exact m (n a z);exact(fr.fr b d).2.2 (mA b (aad _ (n b (z ▸ p))));rcases abS.mp (l.mem_iff.mp d)with z|z;exact .inr (fr.fr b z);exact .inl (n b z);split at ep;rename_i o;have o:k=ps.length:=Nat.eq_of_beq_eq_true o;subst o;cases ep;have J:ps.length<(cD c).length:=(abT.mp G).1;have v:f∉fs.map (·.1):=λz=>by{rw[D]at z;let⟨j,N⟩:=aci.mp z;have M:j<ps.length:=by{have:=(abT.mp N).1;rw[aam]at this;nofun};rw[acr M]at N;have:=(List.getElem?_inj () (dY c)).mp (N.trans G.symm);nofun};have P:Fws K F (upd H a (.ins C dx (ge f y fs))) (fs.map (·.2)) ps B:=Q.keep (Same.refl _) λb u d q=>out b u (λz=>m (z ▸ d)) q;let⟨S,I,l⟩:=P.snoc T;have U:=pq (y:=y) v;have e2:(ge f y fs).map (·.2)=fs.map (·.2)++[y]:=by{rw[U,aae];rfl};refine mk _ _ _ S (λb u d q=>out b u (λz=>d (z ▸ aac ..)) q) ah ?_ (by rw[aag];exact J) (by rw[e2];exact I) (ab4.mpr {λd=>?_,l.nodup_iff.mpr (ace.mpr {fr.nd,t,λb d b' p z=>?_})}) λb d=>?_;rw[U,aae,D,aag,show ps.length+[g].length=ps.length+1 from rfl,List.take_add_one,G];rfl;rcases abS.mp (l.mem_iff.mp d)with z|z;exact r a z rfl;exact m z;exact(fr.fr b d).2.2 (mA b (aad _ (z ▸ p)));rcases abS.mp (l.mem_iff.mp d)with z|z;exact .inr (fr.fr b z);exact .inl z;cases ep
def jM(c i k:Nat)(fe:FE):FS:=λE ρ=>fe ρ λr e=>match fzR r e with|some (d,b)=>(match unO b i c with|some (a,ps)=>(match KZ ps k (.fz d)with|some f=>E.nx (b.set i !(.ob {(a),c,f}))|none=>False)|none=>False)|none=>False
def Ck(c i k:Nat)(fe:FE):FS:=λE ρ=>fe ρ λr e=>match takeR r e with|some (o,d)=>∀b:Addr,(match MV b o with|some g=>(match unO d i c with|some (a,ps)=>(match KZ ps k g with|some f=>E.nx (d.set i !(.ob {(a),c,f}))|none=>False)|none=>False)|none=>False)|none=>False
def rG(c i k:Nat)(fe:FE):FS:=λE ρ=>match unO ρ i c with|some (_,e)=>(match e[k]? with|some (.fz (.int x))=>fe ρ fun r b=>on1 b r fun d=>(match d with|.int y=>(match unO b i c with|some (a,ps)=>(match KZ ps k (.fz (.int (x+y)))with|some f=>E.nx (b.set i !(.ob {(a),c,f}))|none=>False)|none=>False)|_=>False)|_=>False)|none=>False
def FW(hC:ClsF K c C)(e:(cD c)[k]?=!f)(s:EF K (List.range n) te fe):SF K n m (MH K (da i) te f) (jM c i k fe):=-{by intro F Z H σ0 σ ρ A D B R p E h;refine s.h (View.id p.1) R h λr j v F1 H1 M I b o z v1 f1=>?_;split at b;rename_i d g x;let⟨G,L,l,R2,dn,_,_⟩:=z.frz v1 f1 x;split at b;rename_i a ps w;split at b;rename_i q u;let⟨dx,fs,h1,h2,t,J,y⟩:=R2.setF hC e w (.fz dn) Fresh.nil u;exact{.ref a,h1,a,C,dx,fs,rfl,h2,hC.cl,hC.na f (abX e),t,E.nx _ _ _ _ _ (o.trans l) y p b};exact b.elim;exact b.elim;exact b.elim}
def zI(hC:ClsF K c C)(d:(cD c)[k]?=!f)(t:EF K (List.range n) te fe):SF K n m (MH K (da i) te f) (Ck c i k fe):=-{by intro F Z H σ0 σ ρ A D I R p E h;refine t.h (View.id p.1) R h λr j v F1 H1 O L b l G v1 f1=>?_;split at b;rename_i o e z;let⟨J,N,R2,s,f2,_,_⟩:=G.takeR v1 f1 z;have b:=b (adr v);split at b;rename_i g w;split at b;rename_i a ps y;split at b;rename_i q x;let⟨dx,fs,h1,h2,u,M,B⟩:=R2.setF hC d y (s.part w) f2 x;exact{.ref a,h1,a,C,dx,fs,rfl,h2,hC.cl,hC.na f (abX d),u,E.nx _ _ _ _ _ l B p b};exact b.elim;exact b.elim;exact b.elim;exact b.elim}
def Rel.fld(R:Rel K F Z H σ ρ A)(hC:ClsF K c C)(l:(cD c)[k]?=!f)(e:unO ρ i c=!(a,ps))(g:ps[k]?=!(.fz d)):∃dx fs x,σ[i]?=!!(.ref a)/\H a=!(.ins C dx fs)/\fs.lookup f=!x/\Den K F x d:=by let⟨dx,fs,B,h1,h2,b,n,m,_⟩:=R.obj hC e;let⟨x,o,p,g1,g2,_⟩:=m.at_ g;have j:k<ps.length:=(abT.mp g).1;cases g2 with|fz dn=>exact{dx,fs,x,h1,h2,uY (k:=k) (by rw[b];exact(aa6 ..).nodup (dY c)) (by rw[b];exact gK l j) g1,dn}
def FX(hC:ClsF K c C)(b:(cD c)[k]?=!f)(w:EF K (List.range n) te fe):SF K n m (nv K (da i) te Nm f) (rG c i k fe):=-{by intro F Z H σ0 σ ρ A D N R p E h;unfold rG at h;split at h;rename_i j s L;split at h;rename_i x G;let⟨dx,fs,z,h1,h2,B,dn⟩:=R.fld hC b L G;refine{.ref j,h1,j,C,dx,fs,z,rfl,h2,hC.cl,hC.na f (abX b),B,?_};refine w.h (View.id p.1) R h λr o v F1 H1 Q O u q l v1 f1=>?_;let⟨d,e,p2⟩:=ca u;split at p2;rename_i y;refine{x,y,dn.int_eq,(l.acc v1 e).int_eq,?_};split at p2;rename_i a ps J;split at p2;rename_i t I;let⟨g,fs',g1,g2,g3,P,M⟩:=l.setF (y:=.int (x+y)) hC b J (.fz (.int _)) Fresh.nil I;have:a=j:=by{rw[h1]at g1;cases g1;rfl};subst this;exact{g,fs',g2,g3,E.nx _ _ _ _ _ q M p p2};exact p2.elim;exact p2.elim;exact p2.elim;exact h.elim;exact h.elim}
end
section
variable{K:Frag}
def iy{l:↥α}{x:α}(h:l[k]?=!x):l.set k x=l:=by apply acp;intro j;by_cases a:k=j;subst a;rw[h,acj (abT.mp h).1];rw[ack a]
def Rel.fldL(R:Rel K F Z H σ ρ A)(hC:ClsF K c C)(I:(cD c)[k]?=!f)(e:unO ρ i c=!(a,ps))(w:ps[k]?=!(.fl b ds)):∃dx fs xs,σ[i]?=!!(.ref a)/\H a=!(.ins C dx fs)/\fs.lookup f=!(.ref b)/\H b=!(.lst xs)/\Dens K F xs ds/\∀d g,Dens K F d g->∃A',Rel K F Z (upd H b (.lst d)) σ (ρ.set i !(.ob {a,c,ps.set k (.fl b g)})) A':=by let⟨dx,fs,B,h1,h2,r,M,L,nd,mA,mk⟩:=R.obj hC e;let⟨n,m⟩:=ab4.mp nd;let⟨x,P,Q,g1,g2,pm,N⟩:=L.at_ w;have G:k<ps.length:=(abT.mp w).1;cases g2 with|@fl _ xs _ J dn=>have o:b∈B:=pm.mem_iff.mpr (by simp);have p:a≠b:=λz=>n (z ▸ o);let⟨_,O,E⟩:=aP pm m;refine{dx,fs,xs,h1,h2,uY (k:=k) (by rw[r];exact(aa6 ..).nodup (dY c)) (by rw[r];exact gK I G) g1,J,dn,λd g s=>?_};let⟨D,t,l⟩:=N F (upd H b (.lst d)) (.ref b) (.fl b g) [b] (Same.refl _) (λy u j q=>by rw[aj (show y≠b from λz=>E b (by simp) (z ▸ j))];exact q) (.fl ah s);rw[iy g1]at t;have v:∀y∈D,y∈B:=λy j=>pm.mem_iff.mpr (l.mem_iff.mp j);exact mk _ fs _ D (λy u j q=>by rw[aj (show y≠b from λz=>j (z ▸ aad _ o))];exact q) (by rw[aj p];exact h2) (by rw[aaG];exact r) (by rw[aaG];exact M) t (ab4.mpr {λz=>n (v a z),(l.trans pm.symm).nodup_iff.mpr m}) λy j=>.inl (v y j)
def zJ(c i k:Nat)(fe:FE):FE:=λρ Q=>match unO ρ i c with|some (_,g)=>(match g[k]? with|some (.fl b _)=>fe ρ fun r f=>(match fzR r f with|some (d,e)=>(match unO e i c with|some (a,ps)=>(match ps[k]? with|some (.fl j ds)=>j=b/\ds.length<sizeLine/\Q (.ov (.fz .non)) (e.set i !(.ob {a,c,ps.set k (.fl j (ds++[d]))}))|_=>False)|none=>False)|none=>False)|_=>False)|none=>False
def FY(hC:ClsF K c C)(z:μ[j]?=!i)(l:(cD c)[k]?=!f)(B:EF K μ te fe):EF K μ (tBM K "list" dB (xV K (da j) f) (cL te iJ)) (zJ c i k fe):=-{by intro F Z H W σ ρ A Q P n R h q;unfold zJ at h;split at h;rename_i p x M;split at h;rename_i b S m;let⟨dx,fs,xs,h1,h2,E,D,_⟩:=R.fldL hC l M m;refine{.ref p,(n j i z).1.trans h1,p,C,dx,fs,.ref b,rfl,h2,hC.cl,hC.na f (abX l),E,.inl {rfl,xs,SqL.of D},?_};refine B.h n R h λr t v F1 H1 A1 Y e w V v1 f1=>?_;split at e;rename_i d s L;let⟨X,A2,u,R2,N,_,_⟩:=V.frz v1 f1 L;split at e;rename_i a ps J;split at e;rename_i T ds I;let⟨rfl,p2,y⟩:=e;let⟨O,fs',g,g1,g2,g3,G,o,mt⟩:=R2.fldL hC l J I;let⟨A3,U⟩:=mt (g++[v]) (ds++[d]) (o.snoc N);exact{T,g,v,rfl,rfl,G,by rw[o.length];exact p2,q _ _ _ _ _ _ _ y (w.trans u) U (.fz .non) Fresh.nil};exact e.elim;exact e.elim;exact e.elim;exact h.elim;exact h.elim}
def eJ(_:Str)(c i:Nat)(cc:Ct)(fa:FA):FE:=λρ Q=>match unO ρ i c with|some _=>al cc (aa (ab i) fa) ρ Q|none=>False
def FZ(hC:ClsF K c C)(g:μ[j]?=!i)(f:(cD c).contains mn=false)(l:AF K μ t fa):EF K μ (qL C mn (spM K cc) [] E0 (da j) t) (eJ mn c i cc fa):=-{by intro F Z H n σ ρ A Q P b R h q;unfold eJ at h;split at h;rename_i ap e;let⟨a,ps⟩:=ap;let⟨dx,fs,B,h1,h2,m,p,o,_⟩:=R.obj hC e;let⟨v,d,k⟩:=(uq (E:=E0) (uo (ul g) l)).h b R h q;have:v=.ref a:=by{have:=d.symm.trans ((b j i g).1.trans h1);cases this;rfl};subst this;refine{.ref a,d,a,dx,fs,rfl,h2,FR λz=>?_,k};rw[m]at z;rw[List.contains_eq_mem,decide_eq_false_iff_not]at f;exact f (abb z);exact h.elim}
end
section
variable{K:Frag}
def Rel.call{c:Ct}{C:↥Addr}{P:OV->↥OV->Prop}{Q:VK}{E:XK}(R:Rel K F Z H σ ρ A)(G:Ows K F H vs os C)(f2:Fresh F Z A C)(h:c os P)(q:∀o f v i j l B,P o f->Same F i->Rel K i Z j σ ρ A->Ows K i j vs f l->Ow K i j v o B->Fresh i Z A (l++B)->Q v j):spM K c vs H Q E:=by let⟨r,g,d⟩:=mix A H Z;have I:∀a,a∈A->Z a=none:=λa e=>(R.fr a e).2;have sz:Same Z r:=λa o z=>by{rw[d a λy=>by rw[I a y]at z;cases z];exact z};refine{F,r,os,C,P,R.fh,{λa o z=>?_,λa xs z=>?_},λa o z=>?_,G,f2.nd,λa e=>{(f2.fr a e).1,by rw[d a (f2.fr a e).2.2];exact(f2.fr a e).2.1},h,λo f v i j l B p s fh zh dj D x nd fr=>?_};by_cases y:a∈A;rw[g a y]at z;exact z;rw[d a y]at z;exact R.zh.s a o z;by_cases y:a∈A;rw[g a y]at z;exact R.sl.nt a y xs z;rw[d a y]at z;exact R.zh.n a xs z;rw[d a λy=>by rw[(R.fr a y).1]at z;cases z];exact R.dj a o z;have t:∀a∈A,∃u,r a=!u:=λa e=>by{let⟨u,m⟩:=R.sl.live a e;exact{u,by rw[g a e];exact m}};have J:Rel K i Z j σ ρ A:={R.sl.keep s λa u e m=>zh a u (by rw[g a e];exact m),R.nd,λa e=>{(by cases z:i a with|none=>rfl|some u=>have:=dj a u z;let⟨w,k⟩:=t a e;rw[k]at this;exact nomatch this),(R.fr a e).2},fh,{sz.trans zh,R.zh.n},λa o z=>sz.free (dj a o z)};exact q o f v i j l B p s J D x {nd,λb n=>{(fr b n).1,sz.free (fr b n).2,λy=>by let⟨w,k⟩:=t b y;rw[(fr b n).2]at k;cases k}}
def K1(c:Nat)(cc:Ct)(fa:FA):FE:=λρ Q=>fa ρ λg d=>match takeL g d with|some (os,b)=>∀a:Addr,cc (.ob {a,c,[]}::os) λo f=>(match o,f with|.fz .non,i::e=>Q (.ov i) (putL g e b)|_,_=>False)|none=>False
def F6(hC:ClsF K c C)(Y:AF K μ t fa):EF K μ (DE C (spM K cc) [] E0 t) (K1 c cc fa):=-{by intro F Z H τ σ ρ A Q P J R h q;refine Y.h J R h λrs s vs F1 H1 A1 B1 h1 M R1 v1 f1=>?_;rw[aaw];intro x dx f l k;split at h1;rename_i os r e;let⟨C1,A2,R2,m,f2,m2,c2⟩:=R1.takeL v1 f1 e;have j:upd H1 dx (.own x) x=none:=by{rw[aj (abC k)];exact f};have hh:Same H1 (upd (upd H1 dx (.own x)) x (.ins C dx [])):=(bF l).trans (bF j);have R3:=R2.step (F':=F1) (H':=upd (upd H1 dx (.own x)) x (.ins C dx [])) {Same.refl _,hh,R2.fh.trans hh,λa o h n=>by rw[n]at h;cases h};have S:=m.keep (Same.refl F1) λa u _ h=>hh a u h;have fx:F1 x=none:=R2.fh.free f;have w:Z x=none:=R2.zh.free f;have nx:x∉A2:=λz=>by{let⟨u,g⟩:=R2.sl.live x z;rw[f]at g;cases g};have T:x∉C1:=λz=>by{let⟨u,g⟩:=m.live x z;rw[f]at g;cases g};refine R3.call (.cons (.ob (.mk ah hC.ns rfl (aan _) .nil)) S) {ab4.mpr {(T),f2.nd},λb d=>?_} (h1 x) λo O v F4 H4 C4 B p L R4 I G i=>?_;rcases ab2.mp d with z|z;rw[z];exact{(fx),w,nx};exact f2.fr b z;split at p;rename_i o1 N;cases G with|fz dn=>{cases I with|@cons _ _ _ _ D1 D2 E D=>rw[aaw]at i;let⟨W,V,U⟩:=aP (aaE (D1++D2)) i.nd;let⟨A5,R5,X⟩:=R4.putL v1 D {V,λb d=>i.fr b (abS.mpr (.inr d))};refine{dn.non_eq,q _ _ _ _ _ _ _ p (M.trans L) R5 E {W,λb d=>?_}};have:=i.fr b (abS.mpr (.inl d));exact{this.1,this.2.1,λz=>(X b z).elim this.2.2 λy=>U b d y}};exact p.elim;exact h1.elim}
def zK(c i k:Nat):FE:=λρ Q=>match unO ρ i c with|some (a,ps)=>(match ps[k]? with|some g=>Q (.ov (.fz (iZ g))) (ρ.set i !(.ob {a,c,ps.set k (.fz (iZ g))}))|none=>False)|none=>False
def F7(hC:ClsF K c C)(hj:μ[j]?=!i)(L:(cD c)[k]?=!f):EF K μ (xV K (da j) f) (zK c i k):=-{by intro F Z H τ σ ρ A Q P V R h q;unfold zK at h;split at h;rename_i a ps e;split at h;rename_i g O;let⟨v,B,A',h1,h2,R',t,pm⟩:=R.takeI (uX e);have hk:k<ps.length:=(abT.mp O).1;cases h2 with|ob h2=>{cases h2 with|@mk _ T dx _ fs _ B N r n hl hp=>have:T=C:=by{have:=r.symm.trans hC.ns;cases this;rfl};subst this;let⟨p,D⟩:=ab4.mp t.nd;let⟨x,C1,B1,g1,g2,l,g4⟩:=hp.at_ O;have Y:∀b∈C1,b∈a::B:=λb m=>aad _ (l.mem_iff.mpr (abS.mpr (.inl m)));have J:∀b∈B1,b∈B:=λb m=>l.mem_iff.mpr (abS.mpr (.inr m));let⟨n1,X,W⟩:=aP l D;let⟨G,w,R2,k2,U⟩:=R'.grow g2.live λb m=>t.fr b (Y b m);have dn:=g2.freeze w k2;let⟨B2,I,d⟩:=g4 G H x (.fz (iZ g)) [] w (λ_ _ _ h=>h) (.fz dn);rw[iy g1]at I;have E:∀b∈a::B2,G b=none/\Z b=none/\b∉A':=λb m=>by{have s:b∈a::B:=by{rcases ab2.mp m with z|z;exact z ▸ aac ..;exact aad _ (J b (d.mem_iff.mp z))};refine{?_,(t.fr b s).2};cases z:G b with|none=>rfl|some u=>have M:=U b u z (t.fr b s).1;rcases ab2.mp m with y|y;exact absurd (l.mem_iff.mpr (abS.mpr (.inl (y ▸ M)))) p;exact absurd (d.mem_iff.mp y) (W b M)};let⟨A3,S,_⟩:=R2.putI (o:=.ob {a,c,ps.set k (.fz (iZ g))}) (dg (uX e)) h1 (.ob (.mk N r (by rw[aaG];exact n) (by rw[aaG];exact hl) I)) {ab4.mpr {λz=>p (J a (d.mem_iff.mp z)),d.nodup_iff.mpr X},E};rw[aa4]at S;exact{.ref a,(V j i hj).1.trans h1,a,T,dx,fs,x,rfl,N,hC.cl,hC.na f (abX L),uY (k:=k) (by rw[n];exact(aa6 ..).nodup (dY c)) (by rw[n];exact gK L hk) g1,q _ _ _ _ _ _ _ h w S (.fz dn) Fresh.nil}};exact h.elim;exact h.elim}
end
section
variable{K:Frag}
def Obs.length{xs:↥V}{os:↥Oo}{B:↥Addr}(h:Obs K F H xs os B):xs.length=os.length:=by induction h with|nil=>rfl|cons _ _ a=>exact congrArg (·+1) a
def Ob.at_{o:Oo}(h:Ob K F H v o B):v=.ref o.a:=by cases h;rfl
def K3(fe:FE):FE:=λρ Q=>fe ρ λr a=>match r with|.ov (.ob o)=>Q (.ov (.obs [o])) a|_=>False
def F8(m:EF K μ te fe):EF K μ (MJ (cL te iJ)) (K3 fe):=-{by intro F Z H s σ ρ A Q P j R h q;refine m.h j R h λr i v F1 H1 t g f k e v1 f1=>{by rw[sizeLine_eq];exact(by decide:(1:Nat)<=16777216),λp c=>?_};split at f;rename_i o;cases v1 with|ob v1=>{have l:F1 p=none:=e.fh.free c;have R2:=e.step (Pure.new (o:=.lst [v]) e.fh c);have w:Obs K F1 (upd H1 p (.lst [v])) [v] [o] (g++[]):=.cons (v1.keep (Same.refl _) λa u _ h=>bF c a u h) .nil;rw[aaw]at w;have np:p∉g:=λz=>by{let⟨u,d⟩:=v1.live p z;rw[c]at d;cases d};refine q _ _ _ _ _ _ _ f k R2 (.obs ah w) {ab4.mpr {(np),f1.nd},λb n=>?_};rcases ab2.mp n with z|z;rw[z];exact{l,e.zh.free c,λy=>by let⟨u,d⟩:=e.sl.live p y;rw[c]at d;cases d};exact f1.fr b z};exact f.elim}
def zL(i:Nat):FE:=λρ Q=>match ρ[i]? with|some ↑(.obs os)=>Q (.ov (.fz (.int os.length))) ρ|some ↑(.obh os _)=>Q (.ov (.fz (.int (os.length+1:Nat)))) ρ|_=>False
def F9(g:μ[j]?=!i):EF K μ (tCB (HQ K) (cL (da j) iJ)) (zL i):=-{by intro F Z H k σ ρ A Q P f R h q;unfold zL at h;split at h;rename_i os e;let⟨v,B,h1,h2,_⟩:=R.chg e;cases h2 with|@obs a xs _ _ d c=>{refine{.ref a,(f j i g).1.trans h1,.inr (.inl {a,_,rfl,.inl (SqL.of d),?_})};rw[aaB,c.length];exact q _ _ _ _ _ _ _ h (Same.refl _) R (.fz (.int _)) Fresh.nil};rename_i os b e;let⟨v,B,h1,h2,_⟩:=R.chg e;cases h2 with|@obh a _ xs _ _ d c=>{refine{.ref a,(f j i g).1.trans h1,.inr (.inl {a,_,rfl,.inl (SqL.of d),?_})};rw[aaB,ab6,c.length];exact q _ _ _ _ _ _ _ h (Same.refl _) R (.fz (.int _)) Fresh.nil};exact h.elim}
def pr(i:Nat):FE:=λρ Q=>match ρ[i]? with|some ↑(.obs (o::os))=>Q (.ov (.ob o)) (ρ.set i !(.obh os o.a))|_=>False
def zM(C:μ[j]?=!i):EF K μ (tOp (zc K) (da j) (tUn (rU λi=>.int (-i)) (tC (.int 1)))) (pr i):=-{by intro F Z H G σ ρ A Q P p R h q;unfold pr at h;split at h;rename_i o os e;let⟨v,B,A',h1,h2,R',k,pm⟩:=R.takeI e;cases h2 with|@obs a xs _ _ l w=>{cases w with|@cons x _ xs _ E B2 m D=>have ex:=m.at_;subst ex;let⟨d,g⟩:=ab4.mp k.nd;let⟨u,t,s⟩:=aP (aaE (E++B2)) g;let⟨I,n,r⟩:=R'.putI (o:=.obh os o.a) (dg e) h1 (.obh l D) {ab4.mpr {λz=>d (abS.mpr (.inr z)),t},λb f=>k.fr b (by rcases ab2.mp f with z|z;exact z ▸ aac ..;exact aad _ (abS.mpr (.inr z)))};rw[aa4]at n;refine{.ref a,(p j i C).1.trans h1,1,rfl,.inl (.inl {a,_,-1,.ref o.a,rfl,rfl,SqL.of l,(by rw[aaW];exact x2 _ _),q _ _ _ _ _ _ _ h (Same.refl _) n (.ob m) {u,λb f=>?_}})};have c:=k.fr b (aad _ (abS.mpr (.inl f)));refine{c.1,c.2.1,λz=>?_};rcases abS.mp (r.mem_iff.mp z)with y|y;rcases ab2.mp y with y|y;exact d (y ▸ abS.mpr (.inl f));exact s b f y;exact c.2.2 y};exact h.elim}
def Ga(i:Nat):FE:=λρ Q=>match ρ[i]? with|some ↑(.obh os _)=>Q (.ov (.fz .non)) (ρ.set i !(.obs os))|_=>False
def Gb:SF K n m (xM (MK K "list" Nq (da i))) (bR (Ga i)):=-{by intro F Z H σ0 σ ρ A D j R p E h;unfold bR Ga at h;split at h;rename_i os b e;let⟨v,B,h1,h2,nd,mA,mk⟩:=R.chg e;cases h2 with|@obh a _ xs _ B d f=>{let⟨k,g⟩:=mk (upd H a (.lst xs.reverse)) (.obs os) (a::B) (λy u c q=>by rw[aj (show y≠a from λz=>c (z ▸ aac ..))];exact q) (.obs ah (f.keep (Same.refl _) λy u c q=>by rw[aj (show y≠a from λz=>(ab4.mp nd).1 (z ▸ c))];exact q)) nd λy c=>.inl c;refine{.ref a,h1,.inl {rfl,_,SqL.of d},a,_,.ref b,rfl,rfl,d,?_,?_};rw[aaB,ab6,aaW,ab7 (by rw[aaB];nofun)];simp;have:((V.ref b::xs).reverse).dropLast=xs.reverse:=by{rw[aaW,List.dropLast_concat]};rw[this];exact E.nx _ _ _ _ _ (Same.refl _) g p h};exact h.elim}
def zN(i:Nat)(fe:FE):FE:=λρ Q=>(match ρ[i]? with|some ↑(.obs _)=>fe ρ λr a=>(match r,a[i]? with|.ov (.ob o),↑↑(.obs os)=>os.length<sizeLine/\Q (.ov (.fz .non)) (a.set i !(.obs (o::os)))|_,_=>False)|_=>False)
def Gc(x:μ[j]?=!i)(C:EF K μ te fe):EF K μ (tBM K "list" dB (da j) (cL te iJ)) (zN i fe):=-{by
 intro F Z H M σ ρ A Q P k R h q;unfold zN at h;split at h
 .rename_i t I;let⟨v0,S,h1,h2,_⟩:=R.chg I
  cases h2 with
  |@obs a p _ _ g w=>
   refine{.ref a,(k j i x).1.trans h1,.inl {rfl,_,SqL.of g},?_};refine C.h k R h λr n v F1 H1 U m d s L v1 f1=>?_;split at d
   .rename_i o os G;let⟨O,B,g1,g2,nd,mA,mk⟩:=L.chg G;rw[h1]at g1;cases g1
    cases v1 with
    |ob v1=>
     cases g2 with
     |@obs _ xs _ B E l=>
      have na:∀b∈m,b≠a:=λb D z=>(f1.fr b D).2.2 (mA b (z ▸ aac ..));have f:∀(y:Addr)(u:HO),y≠a->H1 y=!u->upd H1 a (.lst (v::xs).reverse) y=!u:=λy u c q=>by rw[aj c];exact q
      let⟨T,J⟩:=mk (upd H1 a (.lst (v::xs).reverse)) (.obs (o::os)) (a::(m++B)) (λy u c q=>f y u (λz=>c (z ▸ aac ..)) q) (.obs ah (.cons (v1.keep (Same.refl _) λy u c q=>f y u (na y c) q) (l.keep (Same.refl _) λy u c q=>f y u (λz=>(ab4.mp nd).1 (z ▸ c)) q)))
       (ab4.mpr {λz=>(abS.mp z).elim (λy=>na a y rfl) (ab4.mp nd).1,ace.mpr {f1.nd,(ab4.mp nd).2,λy c N e z=>(f1.fr y c).2.2 (mA y (aad _ (z ▸ e)))}})
       (λy c=>by
        rcases ab2.mp c with z|z
        .exact .inl (z ▸ aac ..)
        .exact(abS.mp z).elim (λz=>.inr (f1.fr y z)) λz=>.inl (aad _ z))
      refine{a,_,v,rfl,rfl,E,by rw[aaB,l.length];exact d.1,?_};rw[←aaW];exact q _ _ _ _ _ _ _ d.2 s J (.fz .non) Fresh.nil
   .exact d.elim
 .exact h.elim}
def bk(i ix:Nat)(ρ:FSt)(k:FSt->Prop):Prop:=match ρ[i]? with|some ↑(.obh os b)=>(match ρ[ix]? with|some ↑(.ob o)=>o.a=b/\k ((ρ.set ix none).set i !(.obs (o::os)))|_=>False)|_=>k ρ
def Rel.bk{k:FSt->Prop}(R:Rel K F Z H σ ρ A)(h:_L.bk i ix ρ k):∃c A',Rel K F Z H σ c A'/\k c:=by
 unfold _L.bk at h;split at h
 .rename_i os b e;split at h
  .rename_i o l;let⟨rfl,h⟩:=h;let⟨v,B,A',h1,h2,R',d,pm⟩:=R.takeI l;have j:ix≠i:=λz=>by rw[z,e]at l;cases l
   have p:(ρ.set ix none)[i]?=!!(.obh os o.a):=by rw[ack j];exact e
   let⟨w,B2,g1,g2,nd,mA,mk⟩:=R'.chg p
   cases h2 with
   |ob h2=>
    cases g2 with
    |@obh a _ xs _ B2 n m=>
     have ex:=h2.at_;subst ex;have na:a∉B:=λz=>(d.fr a z).2.2 (mA a (aac ..))
     let⟨s,r⟩:=mk H (.obs (o::os)) (a::(B++B2)) (λ_ _ _ q=>q) (.obs n (.cons h2 m)) (ab4.mpr {λz=>(abS.mp z).elim na (ab4.mp nd).1,ace.mpr {d.nd,(ab4.mp nd).2,λy g t f z=>(d.fr y g).2.2 (mA y (aad _ (z ▸ f)))}})
      (λy g=>by
       rcases ab2.mp g with z|z
       .exact .inl (z ▸ aac ..)
       .exact(abS.mp z).elim (λz=>.inr (d.fr y z)) λz=>.inl (aad _ z))
     exact{_,s,r,h}
  .exact h.elim
 .exact{(ρ),A,R,h}
def va(i ix:Nat)(f:FS):FS:=λE ρ=>bk i ix ρ λa=>f E a
def zO{t:TS}{f:FS}(h:SF K n m t f):SF K n m t (va i ix f):=-{λR p E q=>by let⟨a,A',R',b⟩:=R.bk q;exact h.h R' p E b}
def K4(i ix:Nat)(f:FS):FS:=λE ρ=>f {E with nx:=λρ=>bk i ix ρ E.nx,ct:=λρ=>bk i ix ρ E.ct} ρ
def Gd{t:TS}{f:FS}(h:SF K n m t f):SF K n m t (K4 i ix f):=-{fun {F Z H σ0 σ ρ A D g} R p E q=>h.h (fD:={g with nx:=λρ=>bk i ix ρ g.nx,ct:=λρ=>bk i ix ρ g.ct}) R p {λF' H' a c A' s R' e h'=>by
  let⟨b,j,R2,d⟩:=R'.bk h';exact E.nx _ _ _ _ _ s R2 e d,E.rt,E.bk,λF' H' a c A' s R' e h'=>by
  let⟨b,j,R2,d⟩:=R'.bk h';exact E.ct _ _ _ _ _ s R2 e d} q}
end
section
variable{K:Frag}
def zP(fa:FA):FE:=λρ Q=>fa ρ λc b=>match takeL c b with|some (os,a)=>∀as:Nat->Addr,(match uW as 0 os with|some ps=>ps.length<=sizeLine/\Q (.ov (.ot ps)) a|none=>False)|none=>False
def Ge(x:AF K μ t fa):EF K μ (MI t) (zP fa):=-{by intro F Z H D σ ρ A Q P n R h q;refine x.h n R h λE m vs F1 H1 M J h1 r B v1 f1=>?_;split at h1;rename_i os l e;let⟨C,L,R2,f,f2,G,I⟩:=B.takeL v1 f1 e;have h2:=h1 λj=>adr (vs.getD j .non);split at h2;rename_i ps ep;have w:=f.parts (i:=0) (λj v s=>by rw[Nat.zero_add,ab5,s];rfl) ep;refine{by rw[w.length];exact h2.1,λp c=>?_};have y:=R2.step (Pure.frz (o:=.tup vs) R2.fh c);have np:p∉C:=λz=>by{let⟨u,g⟩:=f.live p z;rw[c]at g;cases g};have k:F1 p=none:=R2.fh.free c;refine q _ _ _ _ _ _ _ h2.2 (r.trans (bF k)) y (.ot ah (w.keep (bF k) λa u _ h=>bF c a u h)) {f2.nd,λb d=>{?_,(f2.fr b d).2}};rw[aj (show b≠p from λz=>np (z ▸ d))];exact(f2.fr b d).1;exact h2.elim;exact h1.elim}
def Rel.otL(R:Rel K F Z H σ ρ A)(e:ρ[i]?=!!(.ot ps))(E:ps[k]?=!(.fl b ds)):∃a ys xs,σ[i]?=!!(.ref a)/\H a=!(.tup ys)/\ys[k]?=!(.ref b)/\H b=!(.lst xs)/\Dens K F xs ds/\∀c d,Dens K F c d->∃A',Rel K F Z (upd H b (.lst c)) σ (ρ.set i !(.ot (ps.set k (.fl b d)))) A':=by let⟨v,r,h1,h2,nd,mA,mk⟩:=R.chg e;cases h2 with|@ot a ys _ B o w=>have j:=nd;let⟨x,I,J,g1,g2,pm,D⟩:=w.at_ E;cases g2 with|@fl _ xs _ C dn=>have l:b∈r:=pm.mem_iff.mpr (by simp);let⟨_,G,s⟩:=aP pm j;refine{a,ys,xs,h1,R.fh _ _ o,g1,C,dn,λc d m=>?_};let⟨p,n,g⟩:=D F (upd H b (.lst c)) (.ref b) (.fl b d) [b] (Same.refl _) (λy u f q=>by rw[aj (show y≠b from λz=>s b (by simp) (z ▸ f))];exact q) (.fl ah m);rw[iy g1]at n;have t:∀y∈p,y∈r:=λy f=>pm.mem_iff.mpr (g.mem_iff.mp f);exact mk _ _ p (λy u f q=>by rw[aj (show y≠b from λz=>f (z ▸ l))];exact q) (.ot o n) ((g.trans pm.symm).nodup_iff.mpr j) λy f=>.inl (t y f)
def iz{l:↥α}{x:α}(h:l[k]?=!x):atI l (k:Int)=!x:=by have:=(abT.mp h).1;unfold atI ixN;rw[if_pos (Int.natCast_nonneg k),if_pos ()];exact h
def zQ(i k:Nat)(fe:FE):FE:=λρ Q=>match ρ[i]? with|some ↑(.ot e)=>(match e[k]? with|some (.fl b _)=>fe ρ fun r c=>(match fzR r c with|some (d,a)=>(match a[i]? with|some ↑(.ot ps)=>(match ps[k]? with|some (.fl f ds)=>f=b/\ds.length<sizeLine/\Q (.ov (.fz .non)) (a.set i !(.ot (ps.set k (.fl f (ds++[d])))))|_=>False)|_=>False)|none=>False)|_=>False)|_=>False
def Gf(w:μ[j]?=!i)(x:EF K μ te fe):EF K μ (tBM K "list" dB (tOp (zc K) (da j) (tC (.int k))) (cL te iJ)) (zQ i k fe):=-{by intro F Z H O σ ρ A Q P g R h q;unfold zQ at h;split at h;rename_i t G;split at h;rename_i b J f;let⟨a,ys,xs,h1,h2,z,y,_⟩:=R.otL G f;refine{.ref a,(g j i w).1.trans h1,.inl (.inr (.inl {a,ys,k,.ref b,rfl,rfl,SqT.of h2,iz z,.inl {rfl,xs,SqL.of y},?_}))};refine x.h g R h λr n v F1 H1 X U c s N v1 f1=>?_;split at c;rename_i d m E;let⟨T,W,p,R2,I,_,_⟩:=N.frz v1 f1 E;split at c;rename_i ps D;split at c;rename_i L ds C;let⟨rfl,p2,u⟩:=c;let⟨S,o,e,g1,g2,g3,B,l,mt⟩:=R2.otL D C;let⟨V,M⟩:=mt (e++[v]) (ds++[d]) (l.snoc I);exact{L,e,v,rfl,rfl,B,by rw[l.length];exact p2,q _ _ _ _ _ _ _ u (s.trans p) M (.fz .non) Fresh.nil};exact c.elim;exact c.elim;exact c.elim;exact h.elim;exact h.elim}
def K5(c k:Nat)(fe:FE):FE:=λρ Q=>fe ρ λr a=>match r with|.ov (.ob ⟨_,b,ps⟩)=>(match Nat.beq b c with|true=>(match ps[k]? with|some g=>Q (.ov (.fz (iZ g))) a|none=>False)|false=>False)|_=>False
def Gg(hC:ClsF K c C)(m:(cD c)[k]?=!f)(D:EF K μ te fe):EF K μ (xV K te f) (K5 c k fe):=-{by intro F Z H L σ ρ A Q P t R h q;refine D.h t R h λr s v F1 H1 U T d u J v1 f1=>?_;split at d;rename_i a o ps;split at d;rename_i I;obtain rfl:o=c:=Nat.eq_of_beq_eq_true I;split at d;rename_i g n;cases v1 with|ob v1=>{cases v1 with|@mk _ p dx _ fs _ B G j e M y=>have:p=C:=by{have:=j.symm.trans hC.ns;cases this;rfl};subst this;have z:k<ps.length:=(abT.mp n).1;let⟨x,O,S,g1,g2,i,_⟩:=y.at_ n;let⟨N,l,R2,w,_⟩:=J.grow g2.live λb E=>f1.fr b (aad _ (i.mem_iff.mpr (abS.mpr (.inl E))));exact{a,p,dx,fs,x,rfl,G,hC.cl,hC.na f (abX m),uY (k:=k) (by rw[e];exact(aa6 ..).nodup (dY o)) (by rw[e];exact gK m z) g1,q _ _ _ _ _ _ _ d (u.trans l) R2 (.fz (g2.freeze l w)) Fresh.nil}};exact d.elim;exact d.elim;exact d.elim}
def pv(c:Ct)(i:Nat)(fa:FA):FE:=λρ Q=>match ρ[i]? with|some ↑o=>(match EL o with|some d=>i7 ((ρ.map fzo).set i !(.fz d)) fun a=>fa a fun b _=>(match KY b with|some ds=>c (ds.map .fz) λo' _=>(match o' with|.fz e=>flD e=true/\Q (.ov (.fz e)) ρ|_=>False)|none=>False)|none=>False)|_=>False
def zR(h:Den K F v d)(f:flD d=true)(G:Hp):Den K G v d:=by cases h with|non=>exact .non|bl b=>exact .bl b|int b=>exact .int b|str b=>exact .str b|_=>exact nomatch f
def zS{c:Ct}(j:AF K μ t fa):EF K μ (kz (spM K c) [] E0 t) (pv c i fa):=-{by
 intro F Z H τ σ ρ A Q P O R h q;unfold pv at h;split at h
 .rename_i o e;split at h
  .rename_i d X;rw[dh]at h;let⟨v,B,A',h1,h2,R',W,pm⟩:=R.takeI e;let⟨F1,G,l,I,w1⟩:=R'.grow h2.live W.fr;have dn:=h2.freeze G I X;let⟨L,f,b⟩:=mix A' H Z;have U:∀a,a∈A'->Z a=none:=λa j=>(R'.fr a j).2;have sz:Same Z L:=λa u z=>by rw[b a λy=>by rw[U a y]at z;cases z];exact z
   have hi:i<ρ.length:=(abT.mp e).1
   have m:Slots K F1 H σ ((ρ.map fzo).set i none) []:=by
    have:=Slots.fzo l.sl
    rwa [List.map_set]at this
   let⟨A0,n,g⟩:=m.put (i:=i) (o:=.fz d) (B:=[]) (by rw[acj (by rw[abR];exact hi)]) h1 (.fz dn);rw[aa4]at g;have r:A0=[]:=List.perm_nil.mp n;subst r
   have R2:Rel K F1 L H σ ((ρ.map fzo).set i !(.fz d)) []:={g,aaH,(λ_ z=>nomatch z),l.fh,{λa u z=>by
    by_cases y:a∈A'
    .rw[f a y]at z;exact z
    .rw[b a y]at z;exact R.zh.s a u z,λa xs z=>by
    by_cases y:a∈A'
    .rw[f a y]at z;exact R'.sl.nt a y xs z
    .rw[b a y]at z;exact R.zh.n a xs z},λa u z=>by
    rw[b a λy=>by rw[(l.fr a y).1]at z;cases z];exact l.dj a u z}
   refine j.h O R2 h λrs M vs F2 H2 A2 B2 s E Y S f3=>?_;rw[aaw];split at s
   .rename_i ds x;refine Y.call (C:=[]) (KN (rF S x)) Fresh.nil s λo' T w F3 H3 C3 B3 p D k w3 N f4=>?_;split at p
    .rename_i e'
     cases N with
     |fz dw=>
      have V:∀a u,a∈A->H a=!u->H3 a=!u:=λa u j J=>by
       rcases abS.mp (pm.mem_iff.mp j)with z|z
       .exact k.fh a u (D a u (E a u (I a u z J)))
       .exact k.zh.s a u (by rw[f a z];exact J)
      exact q _ _ _ _ _ _ _ p.2 (Same.refl F) {R.sl.keep (Same.refl _) V,R.nd,R.fr,((G.trans E).trans D).trans k.fh,k.zh.back sz,R.dj} (.fz (zR dw p.1 F)) Fresh.nil
    .exact p.elim
   .exact s.elim
  .exact h.elim
 .exact h.elim}
end
section
variable  {o value:Expr}   {pos' tpos apos:Pos} {ta:TE}    {ps:↥Str} {sp:Sp}
def K6(K:Frag)(a:BE X e ta)(b:attributeBase e f X.env (eval e X.env)=eval e X.env)(c:X.K=K):BE X (.Attribute e f pos) (xV K ta f):=by subst c;exact{IF a.h b}
def K8(K:Frag)(b:BE X o ta)(a:BE X value tv)(hs:swapsWith value ↑(.Attribute o f pos') pos.line X.env=pure false)(c:X.K=K):BS X (.Assign [.Attribute o f pos'] value pos) (MH K ta tv f):=by subst c;exact{IG b.h a.h hs}
def K9(K:Frag)(b:BE X o ta)(a:BE X value tv)(c:X.K=K):BS X (.AugAssign (.Attribute o f tpos) .Add value pos) (nv K ta tv Nm f):=by subst c;exact{sL b.h a.h IH}
structure OwnM(P:Program)(w:World)(K:Frag)(mg:Str->Option Value)(base:Heap)(C:Addr)(x:Str)(k:Nat)(ps:↥Str)(sp:Sp):Prop where
 ex:∃(f:Addr)(fd:FuncData),FnOk P w K mg base CX0 k f fd ps sp/\Meth K C x f/\Binds K fd ps []
def La{m:Str}(O:OwnM X.prog X.w X.K X.mg X.base C m k ps sp)(c:Cls X.K C)(hr:Room k X.A)(g:BE X o ta)(j:BA X (e::es) t)(b:(e::es).all bh=true)
  (a:∃pl:Sem Bool,eval (.Call (.Attribute o m apos) (e::es) [] pos) X.env=(do
   let ov ← eval o X.env
   standAt apos.atName
   let (f,first) ← holding [ov] (getMethod ov m pl)
   callWith pos f first (backTo pos (starEach (e::es) X.env)) (backToKw pos (keywordEach [] X.env)))):BE X (.Call (.Attribute o m apos) (e::es) [] pos) (qL C m sp [] E0 ta t):=by
 let⟨f,fd,F,d,i⟩:=O.ex;let⟨pl,a⟩:=a;have h:=b;rw[aaU,ach]at h;exact{DG (pl:=pl) g.h c d F hr i .nil yk j.h (aS h.1) (dF h.2) a}
def Gh{m:Str}(O:OwnM X.prog X.w X.K X.mg X.base C m k ps sp)(c:Cls X.K C)(hr:Room k X.A)(d:BE X o ta)
  (a:∃pl:Sem Bool,eval (.Call (.Attribute o m apos) [] [] pos) X.env=(do
   let ov ← eval o X.env
   standAt apos.atName
   let (f,first) ← holding [ov] (getMethod ov m pl)
   callWith pos f first (backTo pos (starEach [] X.env)) (backToKw pos (keywordEach [] X.env)))):BE X (.Call (.Attribute o m apos) [] [] pos) (qL C m sp [] E0 ta iJ):=by
 let⟨f,fd,F,b,e⟩:=O.ex;let⟨pl,a⟩:=a;exact{xW (pl:=pl) d.h c b F hr e .nil yk a}
structure OwnI(P:Program)(w:World)(K:Frag)(mg:Str->Option Value)(base:Heap)(x:Str)(C:Addr)(k:Nat)(ps:↥Str)(sp:Sp):Prop where
 ex:∃(f:Addr)(fd:FuncData),FnOk P w K mg base CX0 k f fd ps sp/\Mk K C f/\mg x=!(.ref C)/\Binds K fd ps []
def Om(O:OwnI X.prog X.w X.K X.mg X.base x C k ps sp)(hr:Room (k+1) X.A)(j:BA X (e::es) t)(g:X.env.kindOf x=!.globalImplicit)(c:(e::es).all bh=true)(a:(x==("__debug__":Str))=false):BE X (.Call (.Name x p) (e::es) [] pos) (DE C sp [] E0 t):=by let⟨f,fd,F,d,b,i⟩:=O.ex;have h:=c;rw[aaU,ach]at h;exact{DH d F hr g b i .nil yk j.h a (aS h.1) (dF h.2)}
def Lb{t:TE}(K:Frag)(h:BE X (.Attribute o f pos) t)(a:X.K=K):BT X (.Attribute o f pos) (NI K t):=by subst a;exact{oH h.h (λ_=>rfl)}
def Lc(K:Frag)(h:X.K=K):BMt X "list.pop" Nq:=-{(IT)}
def zT:BE X (.Dict [] [] pos) sW:=-{(ye)}
def Gi{td:TE}(c:X.A.units+64<cLine)(a:BE X o td)(b:BE X e ty)(m:M1 X o "get" apos e pos):BE X (.Call (.Attribute o "get" apos) [e] [] pos) (sZ td ty):=-{yg () a.h b.h m}
end
def vb:typeLookup (.type "list") "keys"=pure none:=-am_miss_of_fast ∅
section
variable   {A:Around}
def Gj{xs:Array Value}{Q:Option Value->Shared->Prop}(hx:s.1.get? a=!o)(l:o.cls=.type "list")(f:o.data=.seq xs k)(hd:o.dict=none)(p:A.handled=none)
  (h:∀h' tk,(∀b u,s.1.get? b=!u->h'.get? b=!u)->Q none {s with heap:=h',toks:=tk}):wpAny (model prog w) A (getAttr? (.ref a) "keys") Q E s:=by
 let⟨c,dct,q,sl⟩:=o;simp only at l f hd;subst l f hd;let⟨n,g,d,tk,os⟩:=s;have m:∀i,({(n),g,d,i,os}:Shared).TypeIs (.ref a) "list":=λ_=>{_,hx,rfl};have f1:=sub_AttributeError;have y:=F.slot_list_getattribute.lookup;have x:=F.slot_list_getattribute.bind (.ref a);have v:=am_list_getattr_none;unfold getAttr? getAttrBy? getAttrBy
 repeat (any_goals (first|assumption|exact m _|((with_reducible show wpAny _ _ (call (Value.builtin "list.__getattribute__") _ _) _ _ _);refine call_meets F.slot_list_getattribute (m _) am_entry_list_getattribute (F.args_list_getattribute_2 _ _) (meets_getattribute_miss_list a xs k sl "keys" _ vb ∅ ∅) ⟨hx,p,λh' i e j=>?_⟩)|wp_step))
 let⟨t',r,t⟩:=j.there;show wpAny _ _ (getattributeRaised _ _ _ _ _ _ _) _ _ _;unfold getattributeRaised
 repeat (any_goals (first|assumption|wp_step))
 exact h _ _ j.keeps
def pw:entryFor table "dict.update.loop"=↑Builtin.«dict.update.loop»:=-entryFor_of_tree (by kernel_rfl)
def iA:plainId "dict.update.loop"=true:=-∅
variable  [DecidableEq K] {knd:KeyKind prog w K}
def zU(kv:Nat->K×Value)(i:Nat):↥(K×Value):=((List.range i).map kv).foldl (λm p=>stored m p.1 p.2) []
def jj(kv:Nat->K×Value)(i:Nat):zU kv (i+1)=stored (zU kv i) (kv i).1 (kv i).2:=by unfold zU;rw[List.range_succ,aae,abq];rfl
def rH{t:Addr}{k v:Value}{m:Nat}{Q:↥Value->Shared->Prop}(h1:s.1.get? t=!o)(h2:o.cls=.type "tuple")(a:o.data=.seq #[k,v] m)(h:Q [k,v] s):wpAny (model prog w) A (Builtin.Dict.pairItems (.ref t)) Q E s:=by let⟨c,dct,e,sl⟩:=o;simp only at h2 a;subst h2 a;let⟨b,g,d,tk,os⟩:=s;have f:({(b),g,d,tk,os}:Shared).TypeIs (.ref t) "tuple":={_,h1,rfl};unfold Builtin.Dict.pairItems;repeat (any_goals (first|assumption|wp_step))
theorem px(kv:Nat->K×Value):∀i,(zU kv i).length<=i|0=>aab _|i+1=>by rw[jj];exact aao (stored_length_le ..) (abL (px kv i))
def vc{R:Result->Shared->Prop}{I:Addr}{fp c:↥Addr}{G:Array GenState->Array GenState->Prop}{P:Nat->Value->Prop}{St:Nat->Shared->Prop}(W:WalksS prog w A.in1 I fp c G n P St)(d:Addr)(D:d∉fp)(kv:Nat->K×Value)(hn:n<=sizeLine):∀(k i:Nat)(s:Shared),n - i=k->i<=n->St i s ->(∀i v,P i v->∃t o key m,v=.ref t/\s.1.get? t=!o/\o.cls=.type "tuple" /\ o.data=.seq #[key,(kv i).2] m/\knd.is (kv i).1 key=true/\t∉d::c)->s.1.DictOf knd d (zU kv i) ->(∀s',Moved (d::c) G s s'->s'.1.DictOf knd d (zU kv n)->R (.ok (.ret .none)) s') ->codeAny (model prog w) A (.builtin "dict.update.loop" {[.ref d,.ref I,rawInt i,.none],[]}) R s:=by have F:d∉c:=λh=>D (W.sub _ h);have a:∀b∈c,b∈d::c:=λb l=>aad _ l;intro k;induction k with|zero=>intro i s V hi f M O Q;obtain rfl:i=n:=();refine codeAny_builtin pw ?_;rw[aaI iA _];show wpAny _ A.in1 (pyNext (.ref I)>>=_) _ _ s;refine aaa (W.done s _ _ f λs' B=>?_);show wpAny _ A.in1 (Builtin.Dict.addKeywords d []>>=λ_=>ret Value.none) _ _ s';let⟨o,es,ep,L,r⟩:=O;exact aaa (aaf (aaf (Q s' (B.mono a) {o,es,ep,B.1 d o F L,r})))|succ k U=>intro i s V hi f M O Q;have C:i<n:=();refine codeAny_builtin pw ?_;rw[aaI iA _];show wpAny _ A.in1 (pyNext (.ref I)>>=_) _ _ s;refine aaa (W.item i s _ _ C f λv s' Y x B=>?_);let⟨t,o,key,m,rfl,h1,h2,h3,h4,Z⟩:=M i v Y;have keep:∀b u,b∉c->s.1.get? b=!u->s'.1.get? b=!u:=λb u l q=>B.1 b u l q;have N:s'.1.DictOf knd d (zU kv i):=by{let⟨o,es,ep,L,r⟩:=O;exact{o,es,ep,keep d o F L,r}};show wpAny _ A.in1 (holding [Value.ref t] _>>=_) _ _ s';refine aaa (aaT ?_);refine aaa (wpAny_tryCatch ?_);refine rH (keep t o (λz=>Z (a t z)) h1) h2 h3 ?_;show wpAny _ A.in1 (holding [key,(kv i).2] (dictSet d key (kv i).2)) _ _ s';refine aaT (wpAny_dictSet_pairs h4 N (λh' E g=>?_) (aao (px kv i) ()));rw[←jj]at E;refine aaf {plainId_quiet iA _,U (i+1) _ () C (W.frame _ s' _ _ x (aba _) λb l o e=>?_) (λj v X=>?_) E λJ y H=>?_};rw[g.2 b (λh:b=d=>D (by rw[←h];exact l))];exact e;let⟨t',o',p,T,e1,e2,e3,e4,e5,S⟩:=M j v X;exact{t',o',p,T,e1,(g.2 t' λz=>S (z ▸ aac ..)).trans (keep t' o' (λz=>S (a t' z)) e2),e3,e4,e5,S};refine Q J (Moved.trans W.gtrans ((B.mono a).then_heap (aba _) λb o l e=>?_) y) H;rw[g.2 b (λh:b=d=>l (by rw[h];exact aac))];exact e
def mj{l:Addr}{ol:Obj}{items:Array Value}{nl:Nat}(G:s.1.get? l=!ol)(n:ol.cls=.type "list")(c:ol.data=.seq items nl)(C:ol.dict=none)(hh:A.handled=none)(kv:Nat->K×Value)(N:∀(i:Nat) v,items[i]?=!v->∃t o key m,v=.ref t/\s.1.get? t=!o/\o.cls=.type "tuple" /\ o.data=.seq #[key,(kv i).2] m/\knd.is (kv i).1 key=true)(M:items.size<=sizeLine)(h:∀h' tk,h'.DictOf knd s.1.1.size (zU kv items.size)->(∀b o,s.1.get? b=!o->h'.get? b=!o)->Q (.ref s.1.1.size) {s with heap:=h',toks:=tk}):wpAny (model prog w) A (call (.type "dict") [.ref l]) Q E s:=by refine callType_codes (Q₁:=λobj d=>obj=.ref s.1.1.size/\d={s with heap:=s.1.push {cls:=.type "dict",data:=.dict #[]}}) F.kt_called_dict (F.kt_typeCall_dict_1 _) F.entry_dict_init (kt_code_dict_new _ {(rfl),rfl}) ?_;rintro obj d ⟨rfl,rfl⟩;have a:(s.1.push {cls:=.type "dict",data:=.dict #[]}).DictOf knd s.1.1.size []:=Heap.DictOf.new s.1;have g:(s.1.push {cls:=.type "dict",data:=.dict #[]}).get? l=!ol:=abV _ G;refine{a.typeIs,F.args_dict_init_2 _ _,?_};unfold Builtin.«dict.__init__»;refine aaa ?_;unfold Builtin.Dict.selfAndRest;refine aaa (wpAny_notOrdered_dict a.typeIs ?_);show wpAny _ _ (pure (s.1.1.size,[Value.ref l])) _ _ _;refine aaf ?_;show wpAny _ _ (Builtin.Dict.updateFrom "dict.__init__" s.1.1.size (.ref l) [] .none) _ _ _;unfold Builtin.Dict.updateFrom;refine aaa (wpAny_typeOf (T:="list") {(ol),g,n} ?_);rw[if_pos (by decide)];refine aaa (Gj g n c C (by simp[hh]) λh1 J y=>?_);rw[if_pos (show (none:Option Value).isNone=true from rfl)];refine aaa (abG ?_);have f:h1.get? l=!ol:=y l ol g;refine aaa (wpAny_pyIter_list (items:=items) {(ol),f,n,nl,c} ?_);have j:h1.DictOf knd s.1.1.size []:=by{let⟨o,es,ep,z,r⟩:=a;exact{o,es,ep,y _ _ z,r}};have e:s.1.1.size<h1.1.size:=by{let⟨o,es,ep,z,r⟩:=j;exact aaj z};have B:l<s.1.1.size:=aaj G;have up:∀b u,s.1.get? b=!u->h1.get? b=!u:=λb u q=>y b u (abV _ q);refine aaf {plainId_quiet iA _,vc (knd:=knd) (A:=A.in1) ((Walks.list (by simp[hh]) _ l (aap (aaj f)) items).toS) s.1.1.size ?_ kv M (items.size - 0) 0 _ rfl (aan _) ?_ ?_ ?_ ?_};simp only[List.mem_cons,List.not_mem_nil,or_false,not_or];exact{aap e,Nat.ne_of_gt B};exact{{_,ab0 _ rfl,rfl,rfl},{ol,abV _ f,n,nl,c}};intro i v L;let⟨t,o,key,m,W,I,V,U,S⟩:=N i v L;refine{t,o,key,m,W,abV _ (up t o I),V,U,S,?_};simp only[List.mem_cons,List.not_mem_nil,or_false,not_or];have:=aaj I;exact{aap this,aap (acL this e)};exact j.push _;intro s' k D;let⟨h',g',X,p,x⟩:=s';have P:g'=s.gens:=k.gens;have R:X=s.drawn:=k.drawn;have O:x=s.os:=k.os;subst P R O;refine{rfl,h h' p D λb o q=>?_};have H:=aaj q;refine k.1 b o ?_ (abV _ (up b o q));simp only[List.mem_cons,List.not_mem_nil,or_false,not_or];exact{aap H,aap (acL H e)}
end
def rJ[DecidableEq K]{L:↥(K×Value)}{d:K×Value}(l:(L.map (·.1)).Nodup):∀i,i<=L.length->zU (λi=>L.getD i d) i=L.take i:=by intro i;induction i with|zero=>intro _;rfl|succ i g=>intro hi;rw[jj,g ()];have e:L[i]?=!(L.getD i d):=by{rw[ab5,abU ()];rfl};have a:(L.take i).any (λf=>decide (f.1=(L.getD i d).1))=false:=by{rw[List.any_eq_false];intro p k;rw[decide_eq_true_eq];intro z;let⟨j,c⟩:=aci.mp k;have b:j<i:=by{have:=(abT.mp c).1;rw[aam]at this;nofun};rw[acr b]at c;have n:(L.map (·.1))[j]?=!p.1:=by{rw[abW,c];rfl};have m:(L.map (·.1))[i]?=!p.1:=by{rw[abW,e,z];rfl};have:=(List.getElem?_inj (by rw[abR];nofun) l).mp (n.trans m.symm);nofun};unfold stored;rw[a,if_neg (by decide),List.take_add_one,e];rfl
def vd(K:Frag):↥V->Hp->VK->Prop:=λxs H Q=>∃(l:Addr)(rows:↥(Addr×Str×V)),xs=[.ref l]/\SqL K H l (rows.map λr=>.ref r.1)/\(∀r∈rows,SqT K H r.1 [.str r.2.1,r.2.2])/\(rows.map (·.2.1)).Nodup/\ ∀p,H p=none->Q (.ref p) (upd H p (.dK (rows.map λr=>(.inr r.2.1,r.2.2))))
def Gk(I:Inv X pins σ H s):∀{rows:↥(Addr×Str×V)},(∀r∈rows,SqT X.K H r.1 [.str r.2.1,r.2.2]) ->∃L:↥(Key×Value),KV (rows.map λr=>((.inr r.2.1:Key),r.2.2)) L/\∀(i:Nat) r,rows[i]?=!r->∃o key val m,s.1.get? r.1=!o/\o.cls=.type "tuple" /\ o.data=.seq #[key,val] m/\L[i]?=!(.inr r.2.1,val)/\(ay X.prog X.w).is (.inr r.2.1) key=true:=by intro rows;induction rows with|nil=>exact λ_=>{[],.nil,λi r h=>nomatch h}|cons r rows e=>intro h;let⟨L,h1,h2⟩:=e λx a=>h x (aad _ a);let⟨its,b,⟨o,j,g,n,f⟩,_⟩:=I.tuple (h r (aac ..));let⟨key,val,rfl,d,c⟩:=xS b;refine{(.inr r.2.1,val)::L,.cons {(rfl),c} h1,λi x a=>?_};cases i with|zero=>cases a;exact {o,key,val,n,j,g,f,rfl,jG (k:=.inr r.2.1) d}|succ i=>exact h2 i x a
def rK(G:X.calm=true):CallR X (.type "dict") (vd X.K):=by intro pins s σ H xs us Q I r h;let⟨l,rows,rfl,h1,h2,J,q⟩:=h;let⟨u,rfl,B⟩:=eI r;cases B;let⟨its,j,⟨ol,nl,R,P,O,N⟩,p⟩:=I.list h1;let⟨L,n,k⟩:=Gk I h2;have S:L.length=rows.length:=by{have:=n.length;rw[abR]at this;exact this.symm};have hi:its.length=rows.length:=by{have:=j.length;rw[abR]at this;exact this.symm};rw[abR]at p;have F:L.map (·.1)=rows.map λr=>(.inr r.2.1:Key):=by{apply acp;intro i;rw[abW,abW];cases e:rows[i]? with|none=>have:L[i]?=none:=by{rw[acy]at e ⊢;nofun};rw[this];rfl|some r=>let⟨_,_,val,_,_,_,_,M,_⟩:=k i r e;rw[M];rfl};have E:(L.map (·.1)).Nodup:=by{rw[F];have:(rows.map λr=>(.inr r.2.1:Key))=(rows.map (·.2.1)).map Sum.inr:=by{rw[aar];rfl};rw[this];exact List.Pairwise.map _ (λa b (z:a≠b) y=>z (abg y)) J};refine mj (knd:=ay X.prog X.w) R P N O (I.ok.hd G) (λi=>L.getD i (.inl 0,.none)) (λi v t=>?_) (by rw[aca];nofun) λh' tk A g=>?_;have c:its[i]?=!v:=by{rw[←acf]at t;exact t};have d:i<rows.length:=by{have:=(abT.mp c).1;nofun};let⟨o,key,val,m,g1,g2,g3,x,K⟩:=k i _ (abU d);have D:(rows.map λr=>V.ref r.1)[i]?=!(.ref (rows[i]).1):=by{rw[abW,abU d];rfl};let⟨u,w,C⟩:=j.get D;rw[c]at w;cases w;refine{_,o,key,m,C,g1,g2,?_,?_};rw[ab5,x];exact g3;rw[ab5,x];exact K;have f:its.toArray.size=L.length:=by{rw[aca];nofun};rw[f,rJ E L.length (aab _),List.take_length]at A;refine{.ref s.1.1.size,_,I.laid (a:=s.1.1.size) (o:=.dK (rows.map λr=>(.inr r.2.1,r.2.2))) (t':=tk) g (aab _) (iP (by rw[abR];exact p) (beq_eq_false_iff_ne.mpr (abC (aap I.big))) n A),rfl,q _ (I.hok.fresh (aab _))}
def zV(K:Frag)(a:X.calm=true)(h:X.K=K):BCall X (.type "dict") (vd K):=by subst h;exact{rK a}
section
variable{K:Frag}
def jN:↥D->Option ↥(Str×D)|[]=>![]|.tup [.str z,d]::ds=>(match jN ds with|some r=>!((z,d)::r)|none=>none)|_=>none
def pz:↥D->(OV->Prop)->Prop|[.lst ds],P=>(match jN ds with|some a=>(a.map (·.1)).Nodup/\P (.fd (a.map fun r=>.inr r.1) (a.map (·.2)))|none=>False)|_,_=>False
def ve(s:Same F H):∀{ds:↥D}{xs:↥V}{b:↥(Str×D)},Dens K F xs ds->jN ds=!b->∃rows:↥(Addr×Str×V),xs=rows.map (λr=>.ref r.1)/\(∀r∈rows,SqT K H r.1 [.str r.2.1,r.2.2])/\rows.map (·.2.1)=b.map (·.1)/\Dens K F (rows.map (·.2.2)) (b.map (·.2)):=by
 intro ds
 induction ds with
 |nil=>intro xs b h e;cases h;cases e;exact{[],rfl,(λ_ z=>nomatch z),rfl,.nil}
 |cons d ds m=>
  intro xs b h e
  cases h with
  |@cons x _ xs _ h t=>
   cases d with
   |tup l=>cases l with
    |nil=>cases (show (none:Option ↥(Str×D))=↑b from e)
    |cons c l=>cases c with
     |str z=>cases l with
      |nil=>cases (show (none:Option ↥(Str×D))=↑b from e)
      |cons p l=>cases l with
       |cons _ _=>cases (show (none:Option ↥(Str×D))=↑b from e)
       |nil=>
        have e:(match jN ds with
         |some r=>!((z,p)::r)
         |none=>none)=!b:=e
        cases g:jN ds with
        |none=>rw[g]at e;cases e
        |some r=>
         rw[g]at e;cases e;let⟨rows,rfl,h2,o,n⟩:=m t g
         cases h with
         |@tup a ys _ i hd=>
          cases hd with
          |cons k f=>
           cases f with
           |@cons v _ _ _ f j=>
            cases j;rw[k.str_eq]at i;refine{(a,z,v)::rows,rfl,λr hr=>?_,by rw[ab1,ab1,o],.cons f n};rcases ab2.mp hr with y|y
            .rw[y];exact SqT.of (s _ _ i)
            .exact h2 r y
     |_=>cases (show (none:Option ↥(Str×D))=↑b from e)
   |_=>cases (show (none:Option ↥(Str×D))=↑b from e)
def zW:CallF K (vd K) pz:=-{by
 intro F H xs ds Q P s j f n
 cases ds with
 |nil=>exact faa f
 |cons d ds=>cases d with
  |lst c=>cases ds with
   |cons _ _=>exact faa f
   |nil=>
    have f:(match jN c with
     |some b=>(b.map (·.1)).Nodup/\P (.fd (b.map λr=>.inr r.1) (b.map (·.2)))
     |none=>False):=f
    cases g:jN c with
    |none=>rw[g]at f;exact faa f
    |some b=>
     rw[g]at f;let⟨x,rfl,i⟩:=bZ j;let⟨a,ys,rfl,h1,h2⟩:=i.asL s;let⟨rows,rfl,g2,g3,k⟩:=ve s h2 g;refine{a,rows,rfl,h1,g2,by rw[g3];exact f.1,λq e=>n _ (.ref q) F _ [q] f.2 (Pure.new s e) (.fd ah ?_ ?_) (New.one e (s.free e))}
     .rw[aar];have:(rows.map (·.2.1)).map (Sum.inr (α:=Int))=(b.map (·.1)).map Sum.inr:=by rw[g3]
      rw[aar,aar]at this;exact this
     .rw[aar];exact k
  |_=>exact faa f}
end
section
variable{K:Frag}
def pA:FE:=λρ Q=>Q (.ov (.ft [] [])) ρ
def zX:EF K μ sW pA:=-{by intro F Z H f σ ρ A Q P g R h q p a;have d:F p=none:=R.fh.free a;exact R.after (P:=λo=>P (.ov o) ρ) (λo v j i B p b e c fr=>q _ _ _ _ _ _ _ p b e c fr) _ _ F _ [p] h (Pure.new R.fh a) (.ft ah rfl .nil) (New.one a d)}
def ml(ks:↥↥Key)(ds:↥D)(k:↥Key)(d:D):↥↥Key×↥D:=if rA ks k=true then (ks,(ks.zip ds).map λa=>if a.1=k then d else a.2) else (ks++[k],ds++[d])
def vf{ys:↥(↥Key×V)}{k:↥Key}(e:ys.map (·.1)=ks)(dn:Dens K F (ys.map (·.2)) ds)(g:Den K F v d):(iO ys k v).map (·.1)=(ml ks ds k d).1/\Dens K F ((iO ys k v).map (·.2)) (ml ks ds k d).2:=by unfold ml iO;have f:rA ks k=(ys.any λb=>decide (b.1=k)):=by{rw[←e,rA,abA];rfl};by_cases c:rA ks k=true;have a:(ys.any λb=>decide (b.1=k))=true:=f ▸ c;rw[if_pos a,if_pos c];constructor;rw[aar,←e];refine abh λb _=>?_;show (if b.1=k then (b.1,v) else b).1=b.1;split<;>rfl;subst e;clear c a f;induction ys generalizing ds with|nil=>cases dn;exact .nil|cons y ys i=>{cases dn with|cons l j=>refine .cons ?_ (i j);show Den K F (if y.1=k then (y.1,v) else y).2 (if y.1=k then d else _);split;exact g;exact l};have a:¬(ys.any λb=>decide (b.1=k))=true:=f ▸ c;rw[if_neg a,if_neg c];refine{by rw[aae,e];rfl,?_};rw[aae];exact dn.snoc g
def unT(ρ:FSt)(i:Nat):Option (↥↥Key×↥D):=match ρ[i]? with|some ↑(.ft ks ds)=>!(ks,ds)|_=>none
def Rel.mutT(R:Rel K F Z H σ ρ A)(h:unT ρ i=!(ks,ds)):∃a ys,σ[i]?=!!(.ref a)/\H a=!(.dT ys)/\ys.map (·.1)=ks/\Dens K F (ys.map (·.2)) ds/\ ∀b c d,b.map (·.1)=c->Dens K F (b.map (·.2)) d->∃A',Rel K F Z (upd H a (.dT b)) σ (ρ.set i !(.ft c d)) A':=by have e:ρ[i]?=!!(.ft ks ds):=by{unfold unT at h;split at h;rename_i e;cases h;exact e;cases h};let⟨v,B,h1,h2,nd,mA,mk⟩:=R.chg e;cases h2 with|@ft a ys _ _ l k dn=>refine{a,ys,h1,l,k,dn,λb c d g j=>mk _ _ [a] (λy u f q=>by rw[aj (show y≠a from λz=>f (z ▸ aac ..))];exact q) (.ft ah g j) nd λy f=>.inl f}
def pB(i:Nat)(fe fk:FE):FS:=λE ρ=>fe ρ λr c=>match fzR r c with|some (d,b)=>(unT b i).isSome=true/\fk b λs a=>on1 a s λf=>(match f with|.tup e=>(match jL e,unT a i with|some k,↑(ks,ds)=>ks.length<sizeLine/\E.nx (a.set i !(.ft (ml ks ds k d).1 (ml ks ds k d).2))|_,_=>False)|_=>False)|none=>False
def zY(N:EF K (List.range n) tv fe)(M:EF K (List.range n) ty fk):SF K n m (yb (da i) ty tv) (pB i fe fk):=-{by intro F Z H σ0 σ ρ A D fD R p E h;refine N.h (View.id p.1) R h λr x v F1 H1 A1 B1 e B R1 v1 f1=>?_;split at e;rename_i d u U;let⟨F2,A2,z,R2,W,_,_⟩:=R1.frz v1 f1 U;let⟨P,e⟩:=e;let⟨⟨J,X⟩,V⟩:=acn.mp P;let⟨a,xs,h1,h2,h3,_⟩:=R2.mutT V;refine{.ref a,h1,?_};refine M.h (View.id p.1) R2 e λs t w F3 H3 A3 B3 I q o y f3=>?_;let⟨dk,Q,c⟩:=ca I;split at c;rename_i kd;split at c;rename_i k ks ds S T;let⟨a',ys,g,l,f,j,mt⟩:=o.mutT T;rw[h1]at g;cases g;let⟨b,rfl,O⟩:=kO o.fh (o.acc y Q) S;let⟨G,C⟩:=vf (k:=k) f j (W.mono q);let⟨A4,Y⟩:=mt (iO ys k v) _ _ G C;have L:ys.length=ks.length:=by{rw[←f,abR]};exact{a,_,rfl,.inr {ys,k,b,l,rfl,O,by rw[L];exact c.1,rfl},E.nx _ _ _ _ _ ((B.trans z).trans q) Y p c.2};exact c.elim;exact c.elim;exact e.elim}
def zZ(c fk:FE):FE:=λρ Q=>c ρ λr b=>on1 b r λf=>(match f with|.dct _ _=>fk b λs a=>on2 a r s λd e=>(match d,nb e with|.dct ks ds,↑k=>Q (.ov (.fz ((gY ks ds k).getD .non))) a|_,_=>False)|_=>False)
def Gm{ys:↥(Key×V)}{ks:↥Key}{k:Key}{z:V}{g:D}(c:ys.map (·.1)=ks)(h:Dens K F (ys.map (·.2)) ds)(j:Den K F z g):Den K F ((ib ys k).getD z) ((gY ks ds k).getD g):=by cases e:gY ks ds k with|some d=>let⟨v,h1,h2⟩:=kP c h e;rw[h1];exact h2|none=>have:ib ys k=none:=by{have h1:=pb (k:=k) c;cases q:ib ys k with|none=>rfl|some v=>rw[q]at h1;have b:rp ks k=true:=h1.symm;unfold rp at b;rw[aaM]at b;let⟨x,l,a⟩:=b;rw[decide_eq_true_eq]at a;subst a;unfold gY at e;rw[Option.map_eq_none_iff,acs]at e;have m:ks.length=ds.length:=by{rw[←c,abR];simpa using h.length};let⟨i,hi⟩:=aci.mp l;have f:i<ds.length:=by{have:=(abT.mp hi).1;nofun};have:=e (x,ds[i]) (aci.mpr {i,by rw[List.getElem?_zip_eq_some];exact{hi,abU f}});simp at this};rw[this];exact j
def Gn{td:TE}{l:FE}(t:EF K μ td l)(u:EF K μ ty fk):EF K μ (sZ td ty) (zZ l fk):=-{by intro F Z H G σ ρ A Q P j R h q;refine t.h j R h λL n x F1 H1 W U h1 r i v1 f1=>?_;let⟨M,E,h1⟩:=ca h1;split at h1;let⟨a,o,rfl,g1,_⟩:=(i.acc v1 E).asD i.fh;refine{a,rfl,.inl {_,g1},?_};let⟨O,sz,g,I,back⟩:=i.hold v1.live v1.nt f1;refine u.h j g h1 λJ m y S H2 V T h2 c R2 p f2=>?_;let⟨b,w,s⟩:=back _ _ _ _ c R2;let⟨d,e,D,C,f⟩:=oV h2;split at f;rename_i ks ds k z;let⟨N,ys,B,g2,g3,v⟩:=(b.acc (v1.keep c s) D).asD b.fh;cases B;refine{ib ys k,by rw[fN (b.acc p C) z];exact DGet.kR g2,q _ _ _ _ _ _ _ f (r.trans c) b (.fz (Gm g3 v .non)) Fresh.nil};exact f.elim;exact h1.elim}
def fGet2(i fk g:FE):FE:=λρ Q=>i ρ λr c=>on1 c r λl=>(match l with|.dct _ _=>fk c λs b=>on1 b s λe=>(match nb e with|some k=>g b fun t f=>(match fzR t f with|some (j,a)=>on1 a r λd=>(match d with|.dct ks ds=>Q (.ov (.fz ((gY ks ds k).getD j))) a|_=>False)|none=>False)|none=>False)|_=>False)
def vg(fk e:FE):FE:=λρ Q=>fk ρ λr a=>on1 a r λd=>(match nb d with|some k=>e a λs c=>(match fzR s c with|some (f,b)=>Q (.ov (.fd [k] [f])) b|none=>False)|none=>False)
def Aa{j:FE}(v:EF K μ tk fk)(u:EF K μ tv j):EF K μ (DT [(tk,tv)]) (vg fk j):=-{by intro F Z H S σ ρ A Q P e R h q p a;have O:=R.step (Pure.new (o:=.dK []) R.fh a);have fp:Fresh F Z A [p]:=R.fresh (New.one a (R.fh.free a));let⟨X,sz,N,T,back⟩:=O.hold (B:=[p]) (λb w=>{.dK [],by rw[abY.mp w];exact ah}) (.one ah (λ_ z=>nomatch z) .nil) fp;refine v.h e N h λV r x F1 H1 A1 B1 h1 i R2 v1 f1=>?_;let⟨d,G,h2⟩:=ca h1;split at h2;rename_i k E;have D:=fN (R2.acc v1 G) E;refine u.h e R2 h2 λU n y F2 H2 A2 B2 c g M s f2=>?_;split at c;rename_i W m C;let⟨Y,A3,f,L,dn,_,_⟩:=M.frz s f2 C;let⟨J,l,t⟩:=back _ _ _ _ ((i.trans g).trans f) L;have fb:=l.fr p (aac ..);have I:=J.write (o:=.dK [(k,y)]) fb.2.2 fb.1 fb.2.1;exact{t p _ (aac ..) ah,[(k,y)],by rw[D];rfl,(by decide:(1:Nat)<=15),q _ _ _ _ _ _ _ c ((i.trans g).trans f) I (.fd ah rfl (.cons dn .nil)) l};exact c.elim;exact h2.elim}
end
section
variable{K:Frag}
def rg(h:i<n):(List.range n)[i]?=!i:=by simp[h]
def Go(hC:ClsF K c C)(h:i<n)(a:(cD c)[k]?=!f):EF K (List.range n) (xV K (da i) f) (ie c i k):=-K0 hC (rg h) a
def Ab(hC:ClsF K c C)(h:i<n)(a:(cD c)[k]?=!f):EF K (List.range n) (xV K (da i) f) (zK c i k):=-F7 hC (rg h) a
def Ac(hC:ClsF K c C)(h:i<n)(a:(cD c)[k]?=!f)(b:EF K (List.range n) te fe):EF K (List.range n) (tBM K "list" dB (xV K (da i) f) (cL te iJ)) (zJ c i k fe):=-FY hC (rg h) a b
def Ad(hC:ClsF K c C)(h:i<n)(a:(cD c).contains mn=false)(b:AF K (List.range n) t fa):EF K (List.range n) (qL C mn (spM K cc) [] E0 (da i) t) (eJ mn c i cc fa):=-FZ hC (rg h) a b
def Ae(h:i<n):EF K (List.range n) (tCB (HQ K) (cL (da i) iJ)) (zL i):=-F9 (rg h)
def vh(h:i<n):EF K (List.range n) (tOp (zc K) (da i) (tUn (rU λi=>.int (-i)) (tC (.int 1)))) (pr i):=-zM (rg h)
def Af(h:i<n)(a:EF K (List.range n) te fe):EF K (List.range n) (tBM K "list" dB (da i) (cL te iJ)) (zN i fe):=-Gc (rg h) a
def Ag(h:i<n)(a:EF K (List.range n) te fe):EF K (List.range n) (tBM K "list" dB (tOp (zc K) (da i) (tC (.int k))) (cL te iJ)) (zQ i k fe):=-Gf (rg h) a
end
structure DfM(K:Frag)(C:Addr)(x q:Str)(st:Stmt)(f:Addr)(fd:FuncData):Prop where
 me:Meth K C x f
 fn:Fun K x q st f fd
def dfm_mk{K:Frag}{f:Addr}{kV:Value}(a:PySem.W.findIn K (.ref C) x=!!(.ref f))(i:PySem.W.isFn K (.ref f)=true)(l:K.lookup f=!{oc,od,.func (PySem.W.fnOf x q (cW st) (bH st) (ax st) .none kV doc pm an cdv ct),osl})(c:PySem.W.codeIn K cdv q=true)(k:PySem.W.keepIn K (.ref f)=true):DfM K C x q st f (PySem.W.fnOf x q (cW st) (bH st) (ax st) .none kV doc pm an cdv ct):=-{{(a),i,k},BV l c k}
def Ld{K:Frag}(a:PySem.W.nsIn K mainGlobals (EK c)=!!(.ref C))(pg:PySem.W.plainGet K C Str.empty=true)(hd:PySem.W.hasDictIn K C=true)(po:PySem.W.plainOver K C=true)(sa:PySem.W.findIn K (.ref C) "__setattr__"=!!(.builtin "object.__setattr__"))(na:∀f∈cD c,NoAttr K C f):ClsF K c C:=-{a,{(pg),hd,po,sa},na}
abbrev nP(Z:Zz)(C:Addr)(x:Str)(k:Nat)(ps:↥Str)(c:Ct):Prop:=OwnM Z.P Z.w Z.K Z.mg Z.base C x k ps (spM Z.K c)
abbrev Le(Z:Zz)(C:Addr)(x:Str)(k:Nat)(ps:↥Str)(c:Ct):Prop:=OwnI Z.P Z.w Z.K Z.mg Z.base x C k ps (spM Z.K c)
section
variable{Z:Zz}{T:Prop}{y:Str}  {f:Addr}  {ps:↥Str} {c:Ct}  {h:Heap}
def gL(D:DfM Z.K C x q st f fd)(ok:FnOk Z.P Z.w Z.K Z.mg Z.base CX0 k f fd ps (spM Z.K c))(a:∀(kV doc pm:Value)(an:Option Addr)(cdv ct:Value)(us:↥Value),us.length=ps.length->bindArgs (PySem.W.fnOf x q (cW st) (bH st) (ax st) .none kV doc pm an cdv ct) {us,[]}=pure (ps.zip us)):nP Z C x k ps c:=-{f,fd,ok,D.me,D.fn.binds a}
def Gp(t:TopZ Z T)(D:DfM Z.K C "__init__" q st f fd)(a:PySem.W.nsIn Z.K mainGlobals y=!!(.ref C))(mk:PySem.W.makesIn Z.K C=true)(b:PySem.W.keepIn Z.K (.ref C)=true)(ok:FnOk Z.P Z.w Z.K Z.mg Z.base CX0 k f fd ps (spM Z.K c))(d:∀(kV doc pm:Value)(an:Option Addr)(cdv ct:Value)(us:↥Value),us.length=ps.length->bindArgs (PySem.W.fnOf "__init__" q (cW st) (bH st) (ax st) .none kV doc pm an cdv ct) {us,[]}=pure (ps.zip us)):Le Z C y k ps c:=-{f,fd,ok,{(mk),D.me.at_,D.me.fn,b},aaY t.X t.G a,D.fn.binds d}
end
section
variable  {P:↥α->Prop}
theorem us_1(h:∀a,P [a]):∀us:↥α,us.length=1->P us|[_],_=>h _
theorem us_2(h:∀a b,P [a,b]):∀us:↥α,us.length=2->P us|[_,_],_=>h _ _
theorem us_3(h:∀a b c,P [a,b,c]):∀us:↥α,us.length=3->P us|[_,_,_],_=>h _ _ _
theorem us_4(h:∀a b c d,P [a,b,c,d]):∀us:↥α,us.length=4->P us|[_,_,_,_],_=>h _ _ _ _
theorem us_5(h:∀a b c d e,P [a,b,c,d,e]):∀us:↥α,us.length=5->P us|[_,_,_,_,_],_=>h _ _ _ _ _
end
def rL(i j:Int):Prop:=i.natAbs<2 ^ 1000/\j.natAbs<2 ^ 1000
def Gq:OpR X (binaryOp .Mult) (rI rL λi j=>.int (i*j)):=-opI λi j _ _ _ _ _ a q=>mul_int q (.of_le (intBits_le a.1) (intBits_le a.2) (by decide))
def Ah:BOp X (binaryOp .Mult) (rI rL λi j=>.int (i*j)):=-{(Gq)}
def vi(i j:Int):Prop:=0<=j/\j<=8/\i.natAbs<2 ^ 1000
def Gr:OpR X (binaryOp .Pow) (rI vi λi j=>.int (i ^ j.toNat)):=-opI λi j _ _ _ _ _ a q=>by refine pow_int a.1 ?_ q;have b:Builtin.Int.intBits i<=1000:=intBits_le a.2.2;have h2:=a.2.1;have h1:(Builtin.Int.intBits i:Int)*j<=1000*j:=Int.mul_le_mul_of_nonneg_right () a.1;nofun
def Ai:BOp X (binaryOp .Pow) (rI vi λi j=>.int (i ^ j.toNat)):=-{(Gr)}
section
variable{K:Frag}
def Aj:OpF K (rI rL λi j=>.int (i*j)) (aIC rL λi j=>.int (i*j)):=-j4 λ_ _ _=>.int _
def Ak:OpF K (rI vi λi j=>.int (i ^ j.toNat)) (aIC vi λi j=>.int (i ^ j.toNat)):=-j4 λ_ _ _=>.int _
end
def nQ:V->↥V->Hp->VK->Prop:=λx vs H Q=>∃l b xs ys,x=.ref l/\vs=[.ref b]/\H l=!(.dK xs)/\Rd H b (.dK ys)/\l≠b/\xs.length+ys.length<=sizeLine/\Q .non (upd H l (.dK (gh xs ys)))
def vj:MtM X "dict.update" nQ:=by intro pins s σ H x vs v us Q I m n h;let⟨l,b,xs,ys,rfl,rfl,g,t,a,f,q⟩:=h;cases m;let⟨u,rfl,o⟩:=n.one;cases o;let⟨z,hd,v1,e,j⟩:=sS I.hok g;let⟨y,c,k,d,w⟩:=jH I.hok t;refine call_meetsIn PySem.F.slot_dict_update j.typeIs PySem.F.entry_dict_update (PySem.F.args_dict_update_2 _ _) (meets_dict_update (ay X.prog X.w) l b a c) {v1,k,j,w,by rw[←e.length,←d.length];exact f,λh' i _ hs=>?_};have r:∃q,h'.get? l=!q:=let ⟨q,_,_,p,_⟩:=i;{(q),p};exact{.non,_,gA I (by rw[g];exact True.intro) hs r (iP (aao (dQ ys xs) f) hd (d.merge e) i),rfl,q}
def vk:BMt X "dict.update" nQ:=-{(vj)}
section
variable{K:Frag}
def Gs:↥Key->↥D->↥Key->↥D->↥Key×↥D|ks,ds,k::es,d::fs=>Gs (jc ks ds k d).1 (jc ks ds k d).2 es fs|ks,ds,_,_=>(ks,ds)
def Al:∀{ys xs:↥(Key×V)}{ks es:↥Key}{ds fs:↥D},xs.map (·.1)=ks->Dens K F (xs.map (·.2)) ds->ys.map (·.1)=es->Dens K F (ys.map (·.2)) fs->(gh xs ys).map (·.1)=(Gs ks ds es fs).1/\Dens K F ((gh xs ys).map (·.2)) (Gs ks ds es fs).2:=by intro ys;induction ys with|nil=>intro xs ks es ds fs h1 h2 b a;subst b;cases a;exact{(h1),h2}|cons y ys e=>intro xs ks es ds fs h1 h2 b a;subst b;cases a with|cons g f=>let⟨d,c⟩:=o8 (k:=y.1) h1 h2 g;have r:=e (xs:=iO xs y.1 y.2) d c rfl f;exact r
def Rel.mutDF{ks:↥Key}(R:Rel K F Z H σ ρ A)(h:unD ρ i=!(ks,ds)):∀a,σ[i]?=!!(.ref a)->F a=none:=by let⟨v,B,A',h1,h2,R',d,pm⟩:=R.takeI (l0 h);intro a c;cases h2 with|@fd b ys ks os e f dn=>rw[h1]at c;cases c;exact(d.fr a (aac ..)).1
def Pk(i:Nat)(fe:FE):FE:=λρ Q=>(unD ρ i).isSome=true/\fe ρ λr b=>match fzR r b with|some (.dct es fs,a)=>(match unD a i with|some (ks,ds)=>ks.length+es.length<=sizeLine/\Q (.ov (.fz .non)) (a.set i !(.fd (Gs ks ds es fs).1 (Gs ks ds es fs).2))|none=>False)|_=>False
def Gu(h:j<n)(E:EF K (List.range n) te fe):EF K (List.range n) (tBM K "dict" nQ (da j) (cL te iJ)) (Pk j fe):=-{by intro F Z H U σ ρ A Q P p R h' q;let⟨G,h'⟩:=h';let⟨⟨D,N⟩,L⟩:=acn.mp G;let⟨a,f,h1,h2,_,_,_⟩:=R.mutD L;refine{.ref a,(p j j (rg h)).1.trans h1,.inr (.inr (.inl {rfl,.inl {(f),h2}})),?_};refine E.h p R h' λr w v F1 H1 A1 W d y T v1 f1=>?_;split at d;rename_i es fs u m;let⟨V,Y,x,R2,M,_,_⟩:=T.frz v1 f1 m;split at d;rename_i ks ds t;let⟨O,xs,c,l,e,k,mt⟩:=R2.mutD t;have s:=R2.mutDF t O c;rw[h1]at c;cases c;cases M with|@dct b ys _ _ g2 g3 I=>{have i:a≠b:=λz=>by{rw[←z]at g2;rcases g2 with g|⟨o,g⟩;rw[s]at g;cases g;rw[s]at g;cases g};let⟨C,B⟩:=Al e k g3 I;let⟨X,S⟩:=mt (gh xs ys) _ _ C B;refine{a,b,xs,ys,rfl,rfl,l,R2.fh.rd g2,i,?_,q _ _ _ _ _ _ _ d.2 (y.trans x) S (.fz .non) Fresh.nil};have J:xs.length=ks.length:=by{rw[←e,abR]};have m:ys.length=es.length:=by{rw[←g3,abR]};rw[J,m];exact d.1};exact d.elim;exact d.elim}
end
section
variable   {A:Around}   {it d:Addr} {ep:Nat}  {es:Array DictEntry} {e:DictEntry} {Q:Option Value->Shared->Prop}
def Am(k:s.1.IsKeyIter it d i es.size ep)(hd:s.1.get? d=!o)(a:o.data=.dict es ep)(p:es[i]?=!e)(q:∀h',h'.IsKeyIter it d (i+1) es.size ep->Heap.SameBut it s.1 h'->Q ↑e.key {s with heap:=h'}):wpAny (model prog w) A (pyNext (.ref it)) Q E s:=by
 have j:=k.typeIs;let⟨m,hi,f,c⟩:=k;let⟨B,dct,u,sl⟩:=m;simp only at f c;subst f c;let⟨z,y,t,l⟩:=o;simp only at a;subst a;let⟨v,g,x,tk,os⟩:=s;unfold pyNext;refine aaa (abO (wpAny_callSpecial?_slot j abl (aaF abl j F.entry_dict_keyiterator_next ?_ (F.args_dict_keyiterator_next_1 _))));unfold Builtin.«dict_keyiterator.__next__»
 repeat (any_goals (first|assumption|wp_step))
 have n:(if (i:Int)<0 then none else es[(i:Int).toNat]?)=!e:=by rw[if_neg ()];simpa using p
 rw[n]
 repeat (any_goals (first|assumption|(with_reducible refine wpAny_isOneOf_keyiter (by assumption) ?_)|wp_step))
 refine{_,rfl,aaf (q _ {_,acE _ hi rfl,rfl,?_} {?_,λb r=>acv _ _ (abC r)})}
 .kernel_rfl
 .exact Heap.size_update ..
def An(t:A.handled=none)(k:s.1.IsKeyIter it d i es.size ep)(hd:s.1.get? d=!o)(a:o.data=.dict es ep)(p:es[i]?=none)(q:∀h',Heap.ExtBut it s.1 h'->Q none {s with heap:=h'}):wpAny (model prog w) A (pyNext (.ref it)) Q E s:=by
 have j:=k.typeIs;let⟨m,hi,f,c⟩:=k;let⟨C,dct,v,sl⟩:=m;simp only at f c;subst f c;let⟨B,z,u,l⟩:=o;simp only at a;subst a;let⟨x,g,y,tk,os⟩:=s;unfold pyNext;refine aaa (abO (wpAny_callSpecial?_slot j abl (aaF abl j F.entry_dict_keyiterator_next ?_ (F.args_dict_keyiterator_next_1 _))));unfold Builtin.«dict_keyiterator.__next__»
 repeat (any_goals (first|assumption|wp_step))
 have n:(if (i:Int)<0 then none else es[(i:Int).toNat]?)=none:=by rw[if_neg ()];simpa using p
 rw[n]
 repeat (any_goals (first|assumption|wp_step))
 refine wpAny_raiseNew_none (by simp[t]) ?_;have f1:=isSubtype_stop
 repeat (any_goals (first|assumption|wp_step))
 exact q _ λb o r e=>abV _ (abV _ ((acv _ _ (abC r)).trans e))
def Ao{Q:Value->Shared->Prop}(hd:s.1.get? d=!o)(b:o.cls=.type "dict")(a:o.data=.dict es ep)(j:(d==sysModules)=false)(q:Q (.ref s.1.1.size) {s with heap:=s.1.push {cls:=.type "dict_keyiterator",data:=.fields #[.ref d,.int 0 0,.int es.size 0,.int ep 0]}}):wpAny (model prog w) A (pyIter (.ref d)) Q E s:=by
 have c:s.TypeIs (.ref d) "dict":={_,hd,b};let⟨m,l,f,e⟩:=o;simp only at a b;subst a b;let⟨i,g,k,tk,os⟩:=s;refine wpAny_pyIter_slot c F.slot_dict_iter (aaF F.slot_dict_iter c F.entry_dict_iter ?_ (F.args_dict_iter_1 _));unfold Builtin.«dict.__iter__» Builtin.Dict.dictSlotNone;refine aaa (aaa (wpAny_notOrdered_dict c ?_));unfold Builtin.Dict.showsAll
 repeat (any_goals (first|assumption|wp_step))
 refine{_,rfl,"dict_keyiterator",_,{_,ab0 _ rfl,rfl},F.slot_dict_keyiterator_next.lookup,q}
theorem Gv(hE:o.ExactDict)(hdat:o.data=.dict es ep)(hm:(d==sysModules)=false):PySem.W.KdlSrc prog w "dict" d d es.size (λi v=>∃e,es[i]?=!e/\v=e.key) (λh=>h.get? d=!o) where
 type:=λs h=>{_,h,hE.1}
 there:=λh e=>{aaj e,aaj e}
 keep:=λh h' e k=>k d (.inl rfl) o e
 notList:=by decide
 notTuple:=by decide
 hint:=λA E s Q h q=>PySem.W.kdl_hint_dict {_,h,hE.1} q
 iter:=λA s hA h=>by
  refine{_,λi h'=>h'.IsKeyIter s.1.1.size d i es.size ep/\h'.get? d=!o,λE Q q=>Ao h hE.1 hdat hm q,?_,{_,ab0 _ rfl,rfl,rfl},abV _ h};have hne:d≠s.1.1.size:=aap (aaj h);refine{λb hb=>by simp at hb;simp[hb],λi h1 h2 hs k=>{?_,k d (by simp) o hs.2},λi s1 Q E hi hs q=>?_,λs1 Q E hs q=>?_,λi s1 Q E hs q=>wpAny_pyIter_keyiter hs.1 q}
  .let⟨oi,e1,e2⟩:=hs.1;exact{oi,k _ (by simp) oi e1,e2}
  .refine Am hs.1 hs.2 hdat (ab9 hi) λh' g1 g2=>q _ h' _ {_,ab9 hi,rfl} {g1,(g2.2 d hne).trans hs.2} λb u hb e=>?_;rw[g2.2 b (by exists hb)];exact e
  .refine An hA hs.1 hs.2 hdat (acH (aab _)) λh' g=>q h' _ λb u hb e=>g b u (by exists hb) e
end
def Gw{β:Type}{F:α->β->Prop}{l:↥α}{m:↥β}(h:Paired F l m):∀{i:Nat}{a:α}{b:β},l[i]?=!a->m[i]?=!b->F a b:=by induction h with|nil=>intro i a b e;cases e|cons r t f=>intro i a b d c;cases i with|zero=>cases d;cases c;exact r|succ i=>exact f d c
def vm:↥V->Hp->VK->Prop:=λxs H Q=>∃(p:Addr)(kvs:↥(↥Key×V)),xs=[.ref p]/\Rd H p (.dT kvs)/\∀(l:Addr)(bs:↥Addr),H l=none->bs.length=kvs.length->(∀(i:Nat)(b:Addr)(a:↥Key×V),bs[i]?=!b->kvs[i]?=!a->H b=!(.tup (a.1.map kV)))->Q (.ref l) (upd H l (.lst (bs.map .ref)))
def rM(D:X.calm=true):CallR X (.type "list") vm:=by intro pins s σ H xs us Q I r h;let⟨p,kvs,rfl,B,q⟩:=h;let⟨u,rfl,y⟩:=eI r;cases y;let⟨n,E,xs,rel,o,es,ep,h1,h2,G,m,F⟩:=(show ObjOk X.prog X.w H s.1 p (.dT kvs)from B.ok I.hok);have k:kvs.length=xs.length:=aa9 rel;have f:es.size=xs.length:=by{rw[←acd,m,abR]};refine PySem.W.kdl_call (Gv h2 G E) (I.ok.hd D) h1 (by rw[f,←k];exact n) λh' tk a K C v c=>?_;have d:a.toList=xs.map λx=>Value.ref x.2.1:=by{apply acp;intro j;rw[abW];cases e:xs[j]? with|none=>rw[acy]at e;refine acu ?_;rw[acd,c.1,f];exact e|some x=>have t:j<a.size:=by{have:=(abT.mp e).1;rw[c.1,f];exact this};let⟨en,w,J⟩:=c.2 j a[j] (ab9 t);rw[←acf,m,abW,e]at w;cases w;rw[acf,ab9 t,J];rfl};have A:Vals ((xs.map λx=>x.2.1).map V.ref) a.toList:=by{rw[d,aar];clear c d v f k m F rel;induction xs with|nil=>exact .nil|cons x xs z=>exact .cons rfl z};refine{.ref s.1.1.size,_,I.laid (t':=tk) (o:=.lst ((xs.map λx=>x.2.1).map V.ref)) C (aab _) {by rw[abR,abR,←k];exact n,a.toList,K,A,by rw[abt];exact v},rfl,q _ _ (I.hok.fresh (aab _)) (by rw[abR,k]) λi b L g l=>?_};rw[abW]at g;cases e:xs[i]? with|none=>rw[e]at g;cases g|some x=>rw[e]at g;cases g;exact(Gw rel l e).2.1
def Ap(a:X.calm=true):BCall X (.type "list") vm:=-{rM a}
section
variable{K:Frag}
def Rel.tups{bs:↥Addr}(R:Rel K F Z H σ ρ A)(h:∀b∈bs,∃xs,H b=!(.tup xs)):∃F',Same F F'/\Rel K F' Z H σ ρ A/\∀b∈bs,F' b=H b:=by
 classical
 let⟨F',s,R',k,_⟩:=R.grow (B:=bs.filter λb=>decide (F b=none)) (λb a=>by
  let⟨xs,e⟩:=h b (acb.mp a).1;exact{_,e}) (λb a=>by
  let⟨xs,e⟩:=h b (acb.mp a).1;refine{of_decide_eq_true (acb.mp a).2,?_,λz=>R.sl.nt b z xs e}
  cases z:Z b with
  |none=>rfl
  |some o=>
   have:=R.zh.s b o z;rw[e]at this;cases this;exact absurd z (R.zh.n b xs))
 refine{F',s,R',λb a=>?_};let⟨xs,e⟩:=h b a
 cases z:F b with
 |none=>rw[e];exact k b _ (acb.mpr {a,decide_eq_true z}) e
 |some o=>rw[s b o z];exact(R.fh b o z).symm
def Pl(k:↥Key):D:=.tup (k.map zk)
theorem mm{F:Hp}:∀{ks:↥↥Key}{bs:↥Addr},bs.length=ks.length->(∀(i:Nat) b k,bs[i]?=!b->ks[i]?=!k->F b=!(.tup (k.map kV)))->Dens K F (bs.map .ref) (ks.map Pl)|[],[],_,_=>.nil|k::ks,b::bs,a,h=>.cons (.tup (h 0 b k rfl rfl) (gj k)) (mm (Nat.succ.inj a) λi b k d c=>h (i+1) b k d c)
def Cm(fe:FE):FE:=λρ Q=>fe ρ λr a=>on1 a r λd=>match d with|.dt ks _=>Q (.ov (.fl (ks.map Pl))) a|_=>False
def Aq(y:EF K μ te fe):EF K μ (tCB vm (cL te iJ)) (Cm fe):=-{by intro F Z H D σ ρ A Q P t R h q;refine y.h t R h λr s x F1 H1 I G h1 v p v1 f1=>?_;let⟨d,j,h2⟩:=ca h1;split at h2;rename_i ks ds;let⟨a,ys,rfl,g1,g2,g3⟩:=(p.acc v1 j).asDT p.fh;refine{a,ys,rfl,g1,λl bs m c n=>?_};have at_:∀(i:Nat) b,bs[i]?=!b->∃f,ys[i]?=!f/\H1 b=!(.tup (f.1.map kV)):=λi b e=>by{have hi:i<ys.length:=by{have:=(abT.mp e).1;nofun};exact{_,abU hi,n i b _ e (abU hi)}};let⟨E,u,R2,w⟩:=p.tups (bs:=bs) λb n=>by{let⟨i,e⟩:=aci.mp n;let⟨f,_,g⟩:=at_ i b e;exact{_,g}};have C:=R2.step (Pure.new (o:=.lst (bs.map .ref)) R2.fh m);refine q _ _ _ _ _ _ _ h2 (v.trans u) C (.fl ah (mm (by rw[c,←g2,abR]) λi b k j g=>?_)) (R2.fresh (New.one m (R2.fh.free m)));let⟨f,B,z⟩:=at_ i b j;rw[←g2,abW,B]at g;cases g;rw[w b (aci.mpr {(i),j})];exact z;exact h2.elim}
def ofF:FV->OV|.fz d=>.fz d|.fl _ ds=>.fl ds|.fd _ ks ds=>.fd ks ds|.ft _ ks ds=>.ft ks ds
def Fw.own{p:FV}(h:Fw K F H v p B):Ow K F H v (ofF p) B:=by cases h with|fz h=>exact .fz h|fl h t=>exact .fl h t|fd h q t=>exact .fd h q t|ft h q t=>exact .ft h q t
end
def Lf:R2:=λx y H Q=>∃b c:Bool,x=.bl b/\y=.bl c/\Q (.bl (⇑(b==c))) H
section
variable  {K:Frag}
def Ar:BOp X (compareOp .IsNot) Lf:=-{by intro pins s σ H x y v u Q I d a h;let⟨b,c,rfl,rfl,q⟩:=h;cases d;cases a;refine wpAny_isNot_plain rfl (aU I q ?_);cases b<;>cases c<;>rfl}
def aIsB(d e:D)(P:OV->Prop):Prop:=match d with|.bl b=>(match e with|.bl c=>P (.fz (.bl (b==c)))|_=>False)|_=>False
def Lg(d e:D)(P:OV->Prop):Prop:=match d with|.bl b=>(match e with|.bl c=>P (.fz (.bl (⇑(b==c))))|_=>False)|_=>False
def Au:OpF K Lf Lg:=-{by intro F H x y d e Q P s g a f n;cases d with|bl b=>{cases e with|bl c=>exact {b,c,g.bl_eq,a.bl_eq,az s n (.bl _) f}|_=>exact faa f}|_=>exact faa f}
end
section
variable{K:Frag}
def vn(i:Nat)(fk:FE)(ρ:FSt)(P:Addr->↥D->FSt->Prop):Prop:=match ρ[i]? with|some ↑(.ol _)=>fk ρ λs a=>on1 a s λc=>(match c with|.int k=>(match a[i]? with|some ↑(.ol ps)=>0<=k/\(match ps[k.toNat]? with|some (.fl b ds)=>P b ds (a.set i !(.olh ps k.toNat b))|_=>False)|_=>False)|_=>False)|_=>False
def Av{L:St}{Q:V->Hp->Prop}{P:Addr->↥D->FSt->Prop}(hj:μ[j]?=!i)(hk:EF K μ tk fk)(M:View μ L σ)(R:Rel K F Z H σ ρ A)(h:vn i fk ρ P)
  (q:∀b ds d F1 H1 J,P b ds d->Same F F1->Rel K F1 Z H1 σ d J->Ow K F1 H1 (.ref b) (.fl ds) [b]->Fresh F1 Z J [b]->Q (.ref b) H1):tOp (zc K) (da j) tk L H Q:=by
 unfold vn at h;split at h
 .rename_i ps0 e0;let⟨v0,B0,h1,h2,_⟩:=R.chg e0
  cases h2 with
  |@ol a X _ A0 hH0 hp0=>
  refine{.ref a,(M j i hj).1.trans h1,?_};refine hk.h M R h λr d v F1 H1 J B1 c s1 U v1 f1=>?_;let⟨dk,ek,c⟩:=ca c;split at c
  .rename_i k;split at c
   .rename_i ps S;let⟨p0,c⟩:=c;split at c
    .rename_i b ds ed;let⟨v',B',A',p,E,R',G,pm⟩:=U.takeI S;rw[h1]at p;cases p
     cases E with
     |@ol _ xs _ W O hp=>
     let⟨x,C,I,g1,g2,f,mk⟩:=hp.at_ ed
     cases g2 with
     |@fl _ ys _ hb dn=>
     let⟨B3,Y,e⟩:=mk F1 H1 .non (.fz .non) [] (Same.refl _) (λa u _ h=>h) (.fz .non);let⟨l,t⟩:=ab4.mp G.nd;have s:=f.nodup_iff.mp t;have g:=ab4.mp (show (b::I).Nodup from s);have N:∀y∈B3,y∈W:=λy m=>f.mem_iff.mpr (aad _ (e.mem_iff.mp m))
     let⟨A3,T,p3⟩:=R'.putI (o:=.olh ps k.toNat b) (dg S) h1 (.olh O g1 Y) {ab4.mpr {λz=>l (N _ z),e.nodup_iff.mpr g.2},λy m=>G.fr y (by
      rcases ab2.mp m with z|z
      .exact z ▸ aac ..
      .exact aad _ (N _ z))}
     rw[aa4]at T;have ey:v=.int k:=(U.acc v1 ek).int_eq;subst ey
     have B:atI xs k=!(.ref b):=by
      have:=iz g1
      rwa [Int.toNat_of_nonneg p0]at this
     have n:b∈W:=f.mem_iff.mpr (aac ..);refine .inl (.inl {a,xs,k,.ref b,rfl,rfl,SqL.of O,B,q _ _ _ _ _ _ c s1 T (.fl hb dn) {by simp,λy m=>?_}});have:y=b:=(by exists m);subst this;have fb:=G.fr y (aad _ n);refine{fb.1,fb.2.1,λz=>?_};rcases abS.mp (p3.mem_iff.mp z)with w|w
     .rcases ab2.mp w with w|w
      .exact l (w ▸ n)
      .exact g.1 (e.mem_iff.mp w)
     .exact fb.2.2 w
    .exact c.elim
   .exact c.elim
  .exact c.elim
 .exact h.elim
def mo(c:Ct)(i:Nat)(fk:FE)(fa:FA):FE:=λρ Q=>vn i fk ρ λb ds f=>fa f λg e=>match takeL g e with|some (os,d)=>c (.fl ds::os) λo j=>(match j with|.fl l::a=>(match (putL g a d)[i]? with|some ↑(.olh ps k m)=>m=b/\Q (.ov o) ((putL g a d).set i !(.ol (ps.set k (.fl b l))))|_=>False)|_=>False)|none=>False
def Aw{c:Ct}(hj:μ[j]?=!i)(hk:EF K μ tk fk)(g:AF K μ t fa):EF K μ (kz (spM K c) [] E0 (cL (tOp (zc K) (da j) tk) t)) (mo c i fk fa):=-{by
 intro F Z H τ σ ρ A Q P vw R h q;refine Av hj hk vw R h λb ds ρ0 F0 H0 A0 h0 s0 R0 w0 f0=>?_;let⟨Z',sz,R0',zl,back⟩:=R0.hold w0.live w0.nt f0;refine g.h vw R0' h0 λrs ρ1 vs F1 H1 A1 B1 h1 s1 R1 v1 f1=>?_;let⟨R1',f0',k1⟩:=back _ _ _ _ s1 R1;have w1:=w0.keep s1 k1
 have hbB:b∉B1:=λT=>by
  let⟨u,I⟩:=zl b (by simp);rw[(f1.fr b T).2.1]at I;cases I
 have f1':Fresh F1 Z A1 B1:={f1.nd,λy d=>{(f1.fr y d).1,sz.free (f1.fr y d).2.1,(f1.fr y d).2.2}};rw[aaw];split at h1
 .rename_i os Y e;let⟨C,r,R2,o2,f2,m2,c2⟩:=R1'.takeL v1 f1' e;have fb:=f0'.fr b (by simp);have hbC:b∉C:=λT=>(c2 b T).elim fb.2.2 hbB;have S:b∉r:=λT=>fb.2.2 (m2 b T);have w2:Ows K F1 H1 (.ref b::vs) (.fl ds::os) ([b]++C):=.cons w1 o2
  have W:Fresh F1 Z r ([b]++C):={ab4.mpr {(hbC),f2.nd},λy d=>by
   rcases abS.mp d with z|z
   .have:y=b:=(by exists z);subst this;exact{(fb.1),fb.2.1,S}
   .exact f2.fr y z}
  let⟨Z2,s,f⟩:=mix r H1 Z;have hz:∀a,a∈r->Z a=none:=λa g=>(R2.fr a g).2;have m:Same Z Z2:=λa o z=>by rw[f a λy=>by rw[hz a y]at z;cases z];exact z
  refine{F1,Z2,.fl ds::os,[b]++C,_,R2.fh,{λa o z=>?_,λa xs z=>?_},λa o z=>?_,w2,W.nd,λa g=>{(W.fr a g).1,by rw[f a (W.fr a g).2.2];exact(W.fr a g).2.1},h1,λo os' v J H3 C3 B p s3 fh zh dj w3 w4 nd fr=>?_}
  .by_cases y:a∈r
   .rw[s a y]at z;exact z
   .rw[f a y]at z;exact R2.zh.s a o z
  .by_cases y:a∈r
   .rw[s a y]at z;exact R2.sl.nt a y xs z
   .rw[f a y]at z;exact R2.zh.n a xs z
  .rw[f a λy=>by rw[(R2.fr a y).1]at z;cases z];exact R2.dj a o z
  .have nA:∀a∈r,∃u,Z2 a=!u:=λa g=>by
    let⟨u,I⟩:=R2.sl.live a g;exact{u,by rw[s a g];exact I}
   have R3:Rel K J Z H3 σ Y r:={R2.sl.keep s3 λa u g I=>zh a u (by rw[s a g];exact I),R2.nd,λa g=>{(by
    cases z:J a with
    |none=>rfl
    |some u=>
     have:=dj a u z;let⟨w,V⟩:=nA a g;rw[V]at this;exact nomatch this),(R2.fr a g).2},fh,{m.trans zh,R2.zh.n},λa o z=>m.free (dj a o z)}
   have nC:∀a∈C3++B,a∉r:=λa g y=>by
    let⟨w,V⟩:=nA a y;rw[(fr a g).2]at V;cases V
   split at p
   .rename_i U os'';split at p
    .rename_i ps k l e4;let⟨rfl,p⟩:=p
     cases w3 with
     |@cons _ _ _ _ Cb Cr wb wr=>
     cases wb with
     |@fl _ ys _ hb' dn'=>
     let⟨n1,n2,n3⟩:=aP (aaE (([l]++Cr)++B)) nd;let⟨n4,n5⟩:=ab4.mp (show (l::Cr).Nodup from n1)
     have fC:Fresh J Z r Cr:={n5,λy d=>by
      have:=fr y (abS.mpr (.inl (aad _ d)));exact{this.1,m.free this.2,nC y (abS.mpr (.inl (aad _ d)))}}
     let⟨A4,R4,m4⟩:=R3.putL v1 wr fC
     have n:J l=none/\Z l=none/\l∉A4:=by
      have:=fr l (abS.mpr (.inl (aac ..)));exact{this.1,m.free this.2,λz=>(m4 l z).elim (nC l (abS.mpr (.inl (aac ..)))) n4}
     let⟨v5,B5,A5,h5,o5,R5,f5,G⟩:=R4.takeI e4
     cases o5 with
     |@olh a _ _ xs _ A6 hH hx hp=>
     have hk':k<xs.length:=(abT.mp hx).1;have N:k<(ps.set k (.fz .non)).length:=by rw[←hp.length,aaG];exact hk'
     have M:(ps.set k (.fz .non))[k]?=!(.fz .non):=by
      rw[aaG]at N;exact acj N
     let⟨x,C7,B7,g1,g2,E,mk⟩:=hp.at_ M;cases g2;let⟨X,w8,L⟩:=mk J H3 (.ref l) (.fl l U) [l] (Same.refl _) (λa u _ h=>h) (.fl hb' dn');rw[aa4,aa4,iy hx]at w8;have D:∀y∈a::A6,y∈A4:=λy d=>G.mem_iff.mpr (abS.mpr (.inl d));let⟨nd5,nd6⟩:=ab4.mp f5.nd
     have m8:∀y∈X,y=l∨y∈A6:=λy d=>by
      rcases abS.mp (L.mem_iff.mp d)with z|z
      .exact .inl (by exists z)
      .exact .inr (E.mem_iff.mpr (abS.mpr (.inr z)))
     have haB:a∉X:=λz=>(m8 a z).elim (λw=>n.2.2 (w ▸ D a (aac ..))) nd5;have O:l∉B7:=λz=>n.2.2 (D l (aad _ (E.mem_iff.mpr (abS.mpr (.inr z)))));have nd8:X.Nodup:=L.nodup_iff.mpr (ab4.mpr {O,(ace.mp (E.nodup_iff.mp nd6)).2.1})
     have f9:Fresh J Z A5 (a::X):={ab4.mpr {(haB),nd8},λy d=>by
      rcases ab2.mp d with w|w
      .exact w ▸ f5.fr a (aac ..)
      .rcases m8 y w with w|w
       .exact w ▸ {n.1,n.2.1,λz=>n.2.2 (G.mem_iff.mpr (abS.mpr (.inr z)))}
       .exact f5.fr y (aad _ w)}
     let⟨A9,R9,p9⟩:=R5.putI (o:=.ol (ps.set k (.fl l U))) (dg e4) h5 (.ol hH w8) f9;rw[aa4]at R9;refine q _ _ _ _ _ _ _ p ((s0.trans s1).trans s3) R9 w4 {n2,λy d=>?_};have:=fr y (abS.mpr (.inr d));refine{this.1,m.free this.2,λz=>?_};have hn:y∉A4:=λz=>(m4 y z).elim (nC y (abS.mpr (.inr d))) λw=>n3 y (aad _ w) d;rcases abS.mp (p9.mem_iff.mp z)with w|w
     .rcases ab2.mp w with w|w
      .exact hn (w ▸ D a (aac ..))
      .rcases m8 y w with w|w
       .exact n3 y (w ▸ aac ..) d
       .exact hn (D y (aad _ w))
     .exact hn (G.mem_iff.mpr (abS.mpr (.inr w)))
    .exact p.elim
   .exact p.elim
 .exact h1.elim}
def jk(fg:FG)(fe:FE)(P:↥FV->FSt->Prop):↥D->↥FV->FSt->Prop|[],ps,ρ=>P ps ρ|d::ds,ps,ρ=>fg d ρ λc=>fe c λr a=>match r with|.ov (.fl es)=>ps.length<sizeLine/\∀b,jk fg fe P ds (ps++[.fl b es]) a|_=>False
@[irreducible] def pD(fg:FG)(fe:FE)(P:↥FV->FSt->Prop)(ds:↥D)(ps:↥FV)(ρ:FSt):Prop:=jk fg fe P ds ps ρ
def mq(fg:FG)(fe:FE)(P:↥FV->FSt->Prop)(ds:↥D):pD fg fe P ds=jk fg fe P ds:=by funext as ρ;unfold pD;rfl
def vo{P:↥FV->FSt->Prop}{f:↥FV}(I:Nat->↥FV->FSt->Prop)(n:I 0 f ρ)
  (hs:∀(i:Nat)(d:D)(ps:↥FV)(ρ:FSt)(R:↥FV->FSt->Prop),ds[i]?=!d->I i ps ρ->(∀c a,I (i+1) c a->R c a) ->
   fg d ρ λl=>fe l λr j=>match r with
    |.ov (.fl es)=>ps.length<sizeLine/\∀b,R (ps++[.fl b es]) j
    |_=>False)
  (hd:∀ps ρ,I ds.length ps ρ->P ps ρ):pD fg fe P ds f ρ:=by
 rw[mq]
 have g:∀(k i:Nat)(ps:↥FV)(ρ:FSt),i+k=ds.length->I i ps ρ->jk fg fe P (ds.drop i) ps ρ:=by
  intro k
  induction k with
  |zero=>
   intro i ps ρ e h;have:i=ds.length:=()
   subst this;rw[aaP];exact hd ps ρ h
  |succ k m=>
   intro i ps ρ e h;have hi:i<ds.length:=()
   rw[aav hi];exact hs i ds[i] ps ρ _ (abU hi) h λc a h'=>m (i+1) c a () h'
 have:=g ds.length 0 f ρ () n
 rwa [aaS]at this
def Cn(_:↥Nat)(no:Nat)(fi:FI)(fg:FG)(fe:FE):FE:=λρ Q=>fi ρ λds ρ1=>i7 (List.replicate no none++ρ1) (pD fg fe (λps a=>Q (.ov (.ol ps)) (a.drop no)) ds [])
abbrev Li(K:Frag)(fg:FG)(fe:FE)(P:RV->FSt->Prop)(no:Nat)(m:↥Nat)(F1 Z:Hp)(σ:St)(a:Addr)(rest:↥D)(acc:↥V)(d:St)(H':Hp):Prop:=∃F' b A' c ps B,Same F1 F'/\Rel K F' Z H' c b A'/\View m d c/\(∀i,no<=i->c[i]?=(List.replicate no none++σ)[i]?)/\H' a=!(.lst acc)/\Fws K F' H' acc ps B/\Fresh F' Z A' (a::B)/\ jk fg fe (λps b=>P (.ov (.ol ps)) (b.drop no)) rest ps b
def Ax{tc:TT}(hi:ITF K μ wi fi)(hg:GF K (muC no ixs μ) T g fg)(hT:∀i∈T,i<no)(hix:∀j∈ixs,j<μ.length)
  (hc:TF K (muC no ixs μ) tc i3) (he:EF K (muC no ixs μ) te fe):EF K μ (eP no ixs wi g tc te) (Cn ixs no fi fg fe):=-{by
 intro F Z H τ σ ρ A Q P vw R h q;refine hi.h vw R h λds ρ1 J F1 H1 A1 h1 s1 X wk=>?_;rw[dh,mq]at h1;intro a ha;have N:F1 a=none:=X.fh.free ha;have t:Z a=none:=X.zh.free ha
 have O:a∉A1:=λz=>by
  let⟨u,s⟩:=X.sl.live a z;rw[ha]at s;cases s
 have R1':Rel K F1 Z (upd H1 a (.lst [])) (List.replicate no none++σ) (List.replicate no none++ρ1) A1:=by
  have:=X.write (o:=.lst []) O N t;exact{this.sl.none_app no,this.nd,this.fr,this.fh,this.zh,this.dj}
 refine{λi k acc l H'=>k=ds.length - i/\i<=ds.length/\Li K fg fe P no (muC no ixs μ) F1 Z σ a (ds.drop i) acc l H',
  {_,rfl,aan _,F1,_,A1,_,[],[],Same.refl _,R1',gi vw hix,λ_ _=>rfl,ah,.nil,{by simp,λb c=>by
   have:b=a:=(by exists c);subst this;exact{(N),t,O}},by rw[aaS];exact h1},?_}
 rintro i k acc l H' ⟨rfl,hle,F',ρ',A',σ',ps,B,s',R',vw',kp,W,M,fr,h'⟩;by_cases f:i<ds.length
 .rw[aav f]at h';refine .inr {wk.go H' i (s'.trans R'.fh) f,λacc l H'=>Li K fg fe P no (muC no ixs μ) F1 Z σ a (ds.drop (i+1)) acc l H',λacc' m H2 z=>{_,(),rfl,f,z},λx H2 y=>?_};let⟨rfl,d,hd,dx⟩:=wk.yld H' i x H2 (s'.trans R'.fh) f y;rw[abU f]at hd;cases hd;refine hg.h vw' R' (dx.mono s') h' fun τ2 m D Y p2 n R2 k2 kl2 _ U=>?_
  have kp2:∀i,no<=i->m[i]?=(List.replicate no none++σ)[i]?:=λi hi=>by
   rw[k2 i λz=>by have:=hT i z;nofun];exact kp i hi
  have fD:Fresh F' Z Y (a::B):={fr.nd,λb c=>{(fr.fr b c).1,(fr.fr b c).2.1,λz=>(fr.fr b c).2.2 (U _ z)}}
  let⟨Z',sz,R2',zl,back⟩:=R2.hold (B:=a::B) (λb c=>by
   rcases ab2.mp c with z|z
   .exact z ▸ {_,W}
   .exact M.live b z) (.one W (λ_ z=>nomatch z) M.nt) fD
  refine hc.h n R2' (show i3 D (λb C=>b=true/\C=D)from {(rfl),rfl}) λb C F3 H3 A3 p3 s3 R3=>?_;let⟨rfl,rfl⟩:=p3;rw[if_pos rfl];refine he.h n R3 p2 λr ρ4 v F4 H4 A4 B4 S s4 R4 v4 f4=>?_;split at S
  .rename_i es
   cases v4 with
   |@fl b ys _ c dn=>
   let⟨R5,f5,k5⟩:=back _ _ _ _ (s3.trans s4) R4;have fa:=f5.fr a (aac ..);let⟨na,nB⟩:=ab4.mp f5.nd;have fb:=f4.fr b (by simp)
   have I:b∉a::B:=λz=>by
    let⟨u,s⟩:=zl b z;rw[fb.2.1]at s;cases s
   have L:b≠a:=λz=>I (z ▸ aac ..);have G:=M.length
   have W4:Fws K F4 (upd H4 a (.lst (acc++[.ref b]))) acc ps B:=M.keep (s3.trans s4) λy u V s=>by
    rw[aj (show y≠a from λz=>na (z ▸ V))];exact k5 y u (aad _ V) s
   have wb:Fw K F4 (upd H4 a (.lst (acc++[.ref b]))) (.ref b) (.fl b es) [b]:=.fl (by rw[aj L];exact c) dn;let⟨B6,W6,p⟩:=W4.snoc wb;refine{k5 a _ (aac ..) W,by rw[G];exact S.1,F4,ρ4,A4,m,_,B6,(s'.trans s3).trans s4,R5.write fa.2.2 fa.1 t,n,kp2,ah,W6,{ab4.mpr {λz=>?_,p.nodup_iff.mpr (ab4.mpr {λz=>I (aad _ z),nB})},λy V=>?_},S.2 b}
   .rcases abS.mp (p.mem_iff.mp z)with w|w
    .exact L (abY.mp w).symm
    .exact na w
   .rcases ab2.mp V with w|w
    .exact w ▸ fa
    .rcases abS.mp (p.mem_iff.mp w)with w|w
     .have:y=b:=(by exists w);subst this;exact{fb.1,sz.free fb.2.1,fb.2.2}
     .exact f5.fr y (aad _ w)
  .exact S.elim
 .have e:i=ds.length:=()
  subst e;rw[aaP]at h';refine .inl {wk.stop H' (s'.trans R'.fh),?_};let⟨Y,B2,e2,E⟩:=R'.sl.dropN no
  have es:σ'.drop no=σ:=by
   apply acp;intro i;rw[acF,kp (no+i) (),ab7 (by simp),aaJ,aa3]
  rw[es]at E;have U:∀b∈Y,b∈A':=λb c=>by rw[e2];exact abS.mpr (.inr c)
  have R2:Rel K F' Z H' σ (ρ'.drop no) Y:={E,by have:=R'.nd;rw[e2,abI]at this;exact this.2.1,λb c=>R'.fr b (U b c),R'.fh,R'.zh,R'.dj};exact q _ _ _ _ _ _ _ h' (s1.trans s') R2 (.ol W M) {fr.nd,λb c=>{(fr.fr b c).1,(fr.fr b c).2.1,λz=>(fr.fr b c).2.2 (U _ z)}}}
def vp{c:Ct}(h:i<n)(a:EF K (List.range n) tk fk)(b:AF K (List.range n) t fa):EF K (List.range n) (kz (spM K c) [] E0 (cL (tOp (zc K) (da i) tk) t)) (mo c i fk fa):=-Aw (rg h) a b
end
def Itb(hi:Int)(n:Nat):It:={λi _=>i<n,λi H x H'=>H'=H/\x=.int (hi - 1 - i),λi _=>n<=i}
theorem nR{P:Program}{K:Frag}{tg:Expr}(it:Addr)(hi:Int)(n:Nat):Turn P w K tg (Itb hi n) [it] it (λi h=>IsRangeIter h it (hi - 1+(i:Nat)*(-1)) ((n:Int) - (i:Nat)) (-1)) where
 mem:=by simp
 obj:=λi h st b hb=>by
  have e:b=it:=(by exists hb);subst e
  exact{_,st,λv z=>by
   have z':Data.fields _=Data.cell v:=z;cases z'}
 keep:=λi h h' st k=>k it (by simp) _ st
 item:=by
  intro X hP hw hK hc i pins s σ H E I hf st hg;subst hP hw hK;let⟨f0,f1,f2,f3,f4,f5⟩:=hf it (by simp);have W:=Walks.range (prog:=X.prog) (w:=X.w) (I.ok.hd hc) it (hi - 1) (-1) n;refine W.item i s _ _ hg st λv h' tk hv st' kk=>?_;let⟨t,rfl⟩:=hv;have I1:Inv X pins σ H {s with heap:=h',toks:=tk}:=I.turned (λb o hb e=>kk b o (by exists hb) e) f0 f1 f3 f4 f5;refine{_,rfl,iE (s:={s with heap:=h',toks:=tk}) (n:="range_iterator") st' rfl rfl (by decide) {.int (hi - 1 - i),H,I1,{t,?_},{(rfl),rfl},st',λb hb=>(hf b hb).1}};rw[Int.mul_neg,Int.mul_one];rfl
 done:=by
  intro X hP hw hK hc i pins s σ H E I hf st hg;subst hP hw hK;let⟨f0,f1,f2,f3,f4,f5⟩:=hf it (by simp);exact wpAny_pyNext_range_end (I.ok.hd hc) st (by have:n<=i:=hg;nofun) λh' eb=>{rfl,I.turned (t':=s.toks) (λb o hb e=>eb b o hb e) f0 f1 f3 f4 f5}
 self:=λ_ _ _ _ _ st h=>wpAny_pyIter_rangeiter st h
def jl:isSubtype (.type "range_iterator") (.type "reversed")=pure false:=by rw[isSubtype_type];kernel_rfl
section
variable   {A:Around}
def fP{n:Int}{t v:Tok}(hr:IsRange s.1 r 0 n 1 t u v)(h1:-(2 ^ 62)<=n)(h2:n<2 ^ 62)(h:Q (.ref s.1.1.size) {s with heap:=s.1.push {cls:=.type "range_iterator",data:=.fields #[rawInt (0+(Builtin.Range.rangeSize 0 n 1 - 1)*1),rawInt (Builtin.Range.rangeSize 0 n 1),rawInt (-1)]}}):wpAny (model prog w) A (call (.builtin "range.__reversed__") [.ref r]) Q E s:=by have c:s.TypeIs (.ref r) "range":={_,hr,rfl};refine aaF F.slot_range_reversed c F.entry_range_reversed ?_ (F.args_range_reversed_1 _);unfold Builtin.«range.__reversed__»;refine aaa (abe (a:=Value.ref r) rfl ?_);refine aaa ?_;unfold Builtin.Range.rangeFields;refine aaa (wpAny_field hr rfl (x:=.int 0 t) rfl ?_);refine aaa (abe (a:=!0) rfl ?_);refine aaa (wpAny_field hr rfl (x:=.int n u) rfl ?_);refine aaa (abe (a:=!n) rfl ?_);refine aaa (wpAny_field hr rfl (x:=.int 1 v) rfl ?_);refine aaa (abe (a:=!1) rfl ?_);refine aaf ?_;have hs:(Builtin.Range.rangeFitsLong 0&&Builtin.Range.rangeFitsLong n&&Builtin.Range.rangeFitsLong 1&&Builtin.Range.rangeFitsLong (-1)&&Builtin.Range.rangeFitsLong (0 - 1)&&Builtin.Range.rangeFitsLong (Builtin.Range.rangeSize 0 n 1))=true:=by{have e:=rangeSize_one 0 n;have f:∀i:Int,-(2 ^ 62)<=i->i<2 ^ 62->Builtin.Range.rangeFitsLong i=true:=λi a b=>by{unfold Builtin.Range.rangeFitsLong;simp only[Bool.and_eq_true,decide_eq_true_eq];nofun};rw[f 0 (by decide) (by decide),f n h1 h2,f 1 (by decide) (by decide),f (-1) (by decide) (by decide),f (0 - 1) (by decide) (by decide),f _ (by rw[e];split<;>nofun) (by rw[e];split<;>nofun)];rfl};dsimp only;rw[hs];refine aaa (aaO (aaf {_,rfl,h}))
def fQ{n:Int}{t v:Tok}{Q₁:Value->Shared->Prop}(hr:IsRange s.1 r 0 n 1 t u v)(h1:-(2 ^ 62)<=n)(h2:n<2 ^ 62)
  (h:Q₁ (.ref s.1.1.size) {s with heap:=s.1.push {cls:=.type "range_iterator",data:=.fields #[rawInt (0+(Builtin.Range.rangeSize 0 n 1 - 1)*1),rawInt (Builtin.Range.rangeSize 0 n 1),rawInt (-1)]}}):
  codeAny (model prog w) A (.call (.builtin "reversed.__new__") {[.type "reversed",.ref r],[]}) (wants Q₁ E) s:=by
 have b:s.TypeIs (.ref r) "range":={_,hr,rfl};refine codeAny_of_tree ?_;show wpAny _ A.in1 (do checkBuiltinCall "reversed.__new__" {[.type "reversed",.ref r],[]};again (.builtin "reversed.__new__" {[.type "reversed",.ref r],[]})) _ _ s;refine aaa (abe (PySem.F.newCall_reversed_1 _) (aaf {plainId_quiet PySem.F.plain_reversed_new _,codeAny_builtin PySem.F.entry_reversed_new ?_}));rw[aaI PySem.F.plain_reversed_new _];unfold Builtin.«reversed.__new__»;refine aaa (abe (newClass_reversed _) ?_)
 try dsimp only
 refine aaa (abe (a:=PUnit.unit) (by first|rfl|kernel_rfl) ?_);refine aaa (abe (a:=PUnit.unit) (by first|rfl|kernel_rfl) ?_)
 try dsimp only
 refine aaa (wpAny_specialOf b PySem.F.slot_range_reversed.lookup ?_)
 try dsimp only
 refine aaa (abe (PySem.F.slot_range_reversed.bind _) ?_)
 try dsimp only
 first
 |rw[if_neg (show ¬((Value.builtin "range.__reversed__"==Value.none)=true)from ab3)]
 |(show wpAny _ _ (if (Value.builtin "range.__reversed__"==Value.none)=true then _ else _) _ _ _;rw[if_neg (show ¬((Value.builtin "range.__reversed__"==Value.none)=true)from ab3)])
 refine aaa (abG ?_);refine aaa (m:=runValue (.call (.builtin "range.__reversed__") {[.ref r],[]})) (show wpAny _ _ (call (.builtin "range.__reversed__") [.ref r]) _ _ _ from fP hr h1 h2 ?_)
 first
 |exact aaf h
 |exact aaa (aaf (aaf h))
def fR{n:Int}{t v:Tok}(hr:IsRange s.1 r 0 n 1 t u v)(h1:-(2 ^ 62)<=n)(h2:n<2 ^ 62)(h:Q (.ref s.1.1.size) {s with heap:=s.1.push {cls:=.type "range_iterator",data:=.fields #[rawInt (0+(Builtin.Range.rangeSize 0 n 1 - 1)*1),rawInt (Builtin.Range.rangeSize 0 n 1),rawInt (-1)]}}):wpAny (model prog w) A (call (.type "reversed") [.ref r]) Q E s:=by refine callType_other (U:="range_iterator") (Q₁:=λobj a=>obj=.ref s.1.1.size/\a={s with heap:=s.1.push {cls:=.type "range_iterator",data:=.fields #[rawInt (0+(Builtin.Range.rangeSize 0 n 1 - 1)*1),rawInt (Builtin.Range.rangeSize 0 n 1),rawInt (-1)]}}) ∅ PySem.F.create_reversed {_,_,PySem.F.mro_reversed} PySem.F.made_reversed jl (PySem.F.typeCall_reversed_1 _) (fQ hr h1 h2 {(rfl),rfl}) ?_;rintro obj a ⟨rfl,rfl⟩;exact{{_,ab0 _ rfl,rfl},h}
end
section
variable  {tg:Expr}
def Gx(ta:TA):TI:=λσ H R=>ta σ H λvs H1=>∃j:Int,vs=[.int j]/\-(2 ^ 62)<=j/\j<2 ^ 62/\R (Itb (j.toNat:Int) j.toNat) H1
def vq{a:Expr}{ta:TA}{q:Pos}(w:Gl X "range")(v:X.mg "range"=none)(i:Gl X "reversed")(g:X.mg "reversed"=none)(y:PA X [a] ta)(u:bh a=true):PI X tg (.Call (.Name "reversed" q) [.Call (.Name "range" p) [a] [] pos] [] pos2) (Gx ta):=by intro pins s σ H R I h;have d:bh (.Call (.Name "range" p) [a] [] pos)=true:=rfl;refine Call_ (iD I i g boot_reversed (aa7 ?_ (aS d) rfl));rw[aS d];show wpAny _ _ (spliced ((false,eval (.Call (.Name "range" p) [a] [] pos) X.env)::backTo pos2 (starEach [] X.env))) _ _ s;refine Calls.spliced_cons ?_;refine Call_ (iD I w v boot_range (aa7 (thn (y pos pins s σ H _ I h) λus c B=>?_) (aS u) rfl));let⟨vs,H1,A,m,f⟩:=B;let⟨j,e,f,n,q⟩:=f;subst e;cases m with|cons r l=>cases l;let⟨t,rfl⟩:=r;refine call_range_1 ?_;refine Calls.spliced_nil ?_;refine fR (IsRange.new ..) f n ?_;have hs:Builtin.Range.rangeSize 0 j 1=(j.toNat:Int):=by{rw[rangeSize_one];split<;>nofun};rw[hs];have z:(0:Int)+((j.toNat:Int) - 1)*1=(j.toNat:Int) - 1+((0:Nat):Int)*(-1):=();rw[z];have k:Inv X pins σ H1 {c with heap:=c.1.push {cls:=.type "range",data:=.fields #[.int 0 c.toks,.int j t,.int 1 (c.toks+1)]},toks:=c.toks+1+1}:=A.kept λb o e=>abV _ e;have st:IsRangeIter ((c.1.push {cls:=.type "range",data:=.fields #[.int 0 c.toks,.int j t,.int 1 (c.toks+1)]}).push {cls:=.type "range_iterator",data:=.fields #[rawInt ((j.toNat:Int) - 1+((0:Nat):Int)*(-1)),rawInt (j.toNat:Int),rawInt (-1)]}) (c.1.push {cls:=.type "range",data:=.fields #[.int 0 c.toks,.int j t,.int 1 (c.toks+1)]}).1.size ((j.toNat:Int) - 1+((0:Nat):Int)*(-1)) ((j.toNat:Int) - ((0:Nat):Int)) (-1):=by{rw[Int.natCast_zero,Int.sub_zero];exact ab0 _ rfl};refine wpAny_pyIter_rangeiter st ?_;refine{_,[_],_,_,H1,rfl,k.kept (t':=c.toks+1+1) λb o e=>abV _ e,nR _ (j.toNat:Int) j.toNat,st,λb x=>?_,q};have e:b=(c.1.push {cls:=.type "range",data:=.fields #[.int 0 c.toks,.int j t,.int 1 (c.toks+1)]}).1.size:=(by exists x);subst e;exact k.fpOk (aab _) (k.hok.fresh (aab _))
def vt{a:Expr}{ta:TA}{q:Pos}(f:X.env.kindOf "range"=!.globalImplicit)(e:X.mg "range"=none)(c:X.env.kindOf "reversed"=!.globalImplicit)(b:X.mg "reversed"=none)(g:BA X [a] ta)(d:bh a=true):BI X tg (.Call (.Name "reversed" q) [.Call (.Name "range" p) [a] [] pos] [] pos2) (Gx ta):=-{vq f e c b g.h d}
end
section
variable{K:Frag}
def eD(n:Nat):↥D:=(List.range n).map λ(k:Nat)=>.int ((n:Int) - 1 - (k:Int))
def vv(fa:FA):FI:=λρ Q=>fa ρ λb a=>onL a b λds=>match ds with|[.int j]=>(-(2 ^ 62)<=j/\j<2 ^ 62)/\Q (eD j.toNat) a|_=>False
def vx:Walk K F (Itb n n) (eD n):=-
 {λH i s hi=>by (have hi:i<n:=by simpa [eD]using hi);exact hi,λH i x H' s hi y=>by
  let⟨rfl,rfl⟩:=y;have hi:i<n:=by simpa [eD]using hi
  exact{rfl,.int ((n:Int) - 1 - i),by simp[eD,hi],.int _},λH s=>by
  show n<=(eD n).length;simp[eD]}
def Ay(g:AF K μ t fa):ITF K μ (Gx t) (vv fa):=-{by
 intro F Z H k σ ρ A Q P e R h q;refine g.h e R h λl c xs F1 H1 n m h1 f b v1 f1=>?_;let⟨ds,i,h2⟩:=oW h1;obtain _|⟨d,r⟩:=ds
 .exact faa h2
 cases d
 case int j=>
  cases r with
  |cons=>exact faa h2
  |nil=>
   let⟨x,rfl,a⟩:=bZ (b.accs v1 i);exact{j,by rw[a.int_eq],h2.1.1,h2.1.2,q _ _ _ _ _ _ h2.2 f b vx}
 all_goals exact faa h2}
def mr(h:(eD n)[i]?=!d):i<n/\d=.int ((n:Int) - 1 - (i:Int)):=by have hi:i<n:=by{have:=(abT.mp h).1;simpa [eD]using this};refine{hi,?_};simp[eD,hi]at h;exact h.symm
def ke:(eD n).length=n:=by simp[eD]
end
def On(K:Frag)(neg:Bool):R2:=λx y H Q=>∃p ys dx ds,y=.ref p/\SqL K H p ys/\Deep K H x dx/\Deeps K H ys ds/\deps ds<=30/\Q (.bl (if neg then ⇑(ds.any λd=>deq d dx) else ds.any λd=>deq d dx)) H
theorem vy:∀{ds:↥DV}{i:Nat}{d:DV},ds[i]?=!d->dep d<=deps ds|d::ds,0,_,e=>by cases e;exact Nat.le_max_left _ _|d::ds,i+1,_,e=>aao (vy (ds:=ds) e) (Nat.le_max_right _ _)
def Deeps.at_{K:Frag}:∀{ys:↥V}{ds:↥DV},Deeps K H ys ds->∀{i:Nat}{y:V},ys[i]?=!y->∃d,ds[i]?=!d/\Deep K H y d:=by intro ys;induction ys with|nil=>intro ds _ i y e;cases e|cons a ys b=>intro ds h i y e;cases h with|cons h t=>cases i with|zero=>cases e;exact{_,rfl,h}|succ i=>exact b t e
def Gy{x:V}{u:Value}{ys:↥V}{its:↥Value}{dx:DV}{ds:↥DV}(n:X.A.units+64<cLine)(I:Inv X pins σ H s)(l:RelV x u)(hx:Deep X.K H x dx)(g:Vals ys its)(hs:Deeps X.K H ys ds)(hd:deps ds<=30):
  ∃e:Value->Bool,(∀w∈its.toArray,SeqAt.EqAt X.A.in1 s w u (e w))/\its.toArray.any e=ds.any λd=>deq d dx:=by
 classical
 have one:∀(i:Nat)(w:Value),its[i]?=!w->∃d,ds[i]?=!d/\SeqAt.EqAt X.A.in1 s w u (deq d dx):=λi w e=>by
  have hi:i<ys.length:=by have:=(abT.mp e).1;rw[g.length];exact this
  let⟨m,k,r⟩:=g.get (abU hi);rw[e]at k;cases k;let⟨d,a,h2⟩:=hs.at_ (abU hi);refine{d,a,(iS I 40 d dx _ x w u X.A.in1 ?_ ?_ h2 hx r l).2.2}
  .have:=vy a;nofun
  .simp only[Around.in1_units];nofun
 refine{λw=>decide (∃(i:Nat)(d:DV),its[i]?=!w/\ds[i]?=!d/\deq d dx=true),λw j=>?_,?_}
 .show SeqAt.EqAt X.A.in1 s w u (decide _);by_cases h:∃(i:Nat)(d:DV),its[i]?=!w/\ds[i]?=!d/\deq d dx=true
  .rw[decide_eq_true h];let⟨i,d,f,a,b⟩:=h;let⟨p,c,q⟩:=one i w f;rw[a]at c;cases c;rw[b]at q;exact q
  .rw[decide_eq_false h];let⟨i,f⟩:=aci.mp (show w∈its from (by exists j));let⟨d,a,q⟩:=one i w f
   cases b:deq d dx with
   |true=>exact absurd {(i),d,f,a,b} h
   |false=>rw[b]at q;exact q
 .rw[abo,Array.any_eq_true',aaM];constructor
  .rintro⟨w,j,h⟩;let⟨i,d,_,a,b⟩:=of_decide_eq_true h;exact{d,abX a,b}
  .rintro⟨d,hd,h⟩;let⟨i,a⟩:=aci.mp hd
   have hi:i<its.length:=by
    have h1:=(abT.mp a).1;have h2:=g.length;have o:=hs.length;nofun
   exact{its[i],by simp,decide_eq_true {i,d,abU hi,a,h}}
def vz(d:X.A.units+64<cLine):OpR X (compareOp .NotIn) (On X.K true):=by intro pins s σ H x y v u Q I b a h;let⟨p,ys,dx,ds,rfl,f,c,hs,hd,q⟩:=h;cases a;let⟨its,r,pl,g⟩:=I.list f;let⟨e,h1,h2⟩:=Gy d I b c r hs hd;refine SeqAt.notIn_listAt e pl.isList h1 {.bl _,H,I,rfl,?_};rw[h2];exact q
def rN(K:Frag)(a:X.A.units+64<cLine)(h:X.K=K):BOp X (compareOp .NotIn) (On K true):=by subst h;exact{vz a}
section
variable{K:Frag}
def Pm(d e:D)(R:Bool->Prop):Prop:=match e with|.lst ds=>(okD d=true/\okDs ds=true/\deps (toDVs ds)<=30)/\R (ds.any λx=>dEq x d)|_=>False
def nS(d e:D)(P:OV->Prop):Prop:=Pm d e λb=>P (.fz (.bl (⇑b)))
theorem mv(d:D):∀ds:↥D,((toDVs ds).any λx=>deq x (m9 d))=ds.any λx=>dEq x d|[]=>rfl|x::ds=>by show (deq (m9 x) (m9 d)||(toDVs ds).any λx=>deq x (m9 d))=_;rw[mv d ds];rfl
def rO:OpF K (On K true) nS:=-{fun {F H x y d e Q P} s b a f n=>by unfold nS Pm at f;split at f;rename_i ds;let⟨p,ys,rfl,h1,h2⟩:=a.asL s;refine{p,ys,_,_,rfl,h1,(b.den s).deep f.1.1,(h2.mono s).deep f.1.2.1,f.1.2.2,?_};rw[mv];exact az s n (.bl _) f.2;exact f.elim}
end
def Lj:↥V->Hp->VK->Prop:=λxs H Q=>(∃i,xs=[.int i]/\Q (.int i) H)∨∃k,xs=[.bl k]/\Q (.int (if k then 1 else 0)) H
def Ll:BCall X (.type "int") Lj:=-{(sI)}
def Oq:↥D->(OV->Prop)->Prop|[.int i],P=>P (.fz (.int i))|[.bl b],P=>P (.fz (.int (if b then 1 else 0)))|_,_=>False
def Lm{K:Frag}:CallF K Lj Oq:=-{by
 intro F H xs ds Q P s c f n
 cases ds with
 |nil=>exact faa f
 |cons d ds=>
  cases d with
  |int i=>cases ds with
   |nil=>
    let⟨x,rfl,a⟩:=bZ c;rw[a.int_eq];exact .inl {_,rfl,az s n (.int _) f}
   |cons _ _=>exact faa f
  |bl b=>cases ds with
   |nil=>
    let⟨x,rfl,a⟩:=bZ c;rw[a.bl_eq];exact .inr {_,rfl,az s n (.int _) f}
   |cons _ _=>exact faa f
  |_=>exact faa f}
section
variable{K:Frag}
def Ln(i j k:Nat)(fe:FE):FS:=λD ρ=>fe ρ λr a=>match r with|.ov (.ot [p,q,s])=>D.nx (((a.set i !(ofF p)).set j !(ofF q)).set k !(ofF s))|_=>False
def Gz(U:EF K (List.range n) te fe)(hi:i∉m)(T:j∉m)(S:k∉m):SF K n m (qE te (Im K 3 (qD (fG i) (qD (fG j) (qD (fG k) MD))))) (Ln i j k fe):=-{by
 intro F Z H σ0 σ ρ A D fD R p E h;refine U.h (View.id p.1) R h λr G v F1 H1 A1 B1 h1 J C v1 f1=>?_
 cases r with
 |br _=>exact faa h1
 |ov o=>cases o with
  |ot ps=>cases ps with
   |nil=>exact faa h1
   |cons x ps=>cases ps with
    |nil=>exact faa h1
    |cons y ps=>cases ps with
     |nil=>exact faa h1
     |cons z ps=>cases ps with
      |cons _ _=>exact faa h1
      |nil=>
       cases (show Ow K F1 H1 v (.ot [x,y,z]) B1 from v1)with
       |@ot a xs _ _ V Q=>
        cases Q with
        |@cons u _ us _ B2 B3 g1 t=>
         cases t with
         |@cons w _ ws _ l B5 g2 t=>
          cases t with
          |@cons w' _ I _ d B7 g3 t=>
           cases t;let⟨O,N,s⟩:=aP (aaE (B2++(l++(d++[])))) f1.nd;let⟨M,q,L⟩:=aP (aaE (l++(d++[]))) N;let⟨A2,R2,B⟩:=C.assign (i:=i) g1.own {O,λb g=>f1.fr b (aax _ g)}
           have f2:Fresh F1 Z A2 l:={M,λb g=>by
            have c:b∈l++(d++[]):=aax _ g;have f:=f1.fr b (aal _ c);refine{f.1,f.2.1,λz=>?_};rcases B b z with y|y
            .exact f.2.2 y
            .exact s b y c}
           let⟨A3,Y,P⟩:=R2.assign (i:=j) g2.own f2
           have W:Fresh F1 Z A3 d:={by rw[aaw]at q;exact q,λb g=>by
            have e:b∈d++[]:=by rw[aaw];exact g
            have c:b∈l++(d++[]):=aal _ e;have f:=f1.fr b (aal _ c);refine{f.1,f.2.1,λz=>?_};rcases P b z with y|y
            .rcases B b y with y|y
             .exact f.2.2 y
             .exact s b y c
            .exact L b y e}
           let⟨A4,X,_⟩:=Y.assign (i:=k) g3.own W;exact{_,_,rfl,SqT.of (C.fh _ _ V),rfl,_,_,rfl,_,_,rfl,_,_,rfl,rfl,E.nx _ _ _ _ _ J X (((p.set hi).set T).set S) h1}
  |_=>exact faa h1}
end
end _L
local macro_rules|`(tactic|delta $c:ident) => `(tactic|(intro os P h;first|(induction h;exact _L.lo_of rfl rfl)|(unfold $c at h;first|exact _L.ex1 h fun _ e => _L.lq e (_L.lo_of rfl rfl)|exact _L.ex2 h fun _ _ e => _L.lq e (_L.lo_of rfl rfl)|exact _L.ex3 h fun _ _ _ e => _L.lq e (_L.lo_of rfl rfl)|exact _L.ex4 h fun _ _ _ _ e => _L.lq e (_L.lo_of rfl rfl)|exact _L.ex5 h fun _ _ _ _ _ e => _L.lq e (_L.lo_of rfl rfl)|exact _L.ex6 h fun _ _ _ _ _ _ e => _L.lq e (_L.lo_of rfl rfl)|exact _L.ex7 h fun _ _ _ _ _ _ _ e => _L.lq e (_L.lo_of rfl rfl)|exact _L.ex8 h fun _ _ _ _ _ _ _ _ e => _L.lq e (_L.lo_of rfl rfl)|exact _L.ex9 h fun _ _ _ _ _ _ _ _ _ e => _L.lq e (_L.lo_of rfl rfl)|exact _L.ex10 h fun _ _ _ _ _ _ _ _ _ _ e => _L.lq e (_L.lo_of rfl rfl)|exact L2.ex11 h fun _ _ _ _ _ _ _ _ _ _ _ e => _L.lq e (_L.lo_of rfl rfl)|exact L2.ex12 h fun _ _ _ _ _ _ _ _ _ _ _ _ e => _L.lq e (_L.lo_of rfl rfl)|exact L2.ex13 h fun _ _ _ _ _ _ _ _ _ _ _ _ _ e => _L.lq e (_L.lo_of rfl rfl)|((repeat (obtain ⟨x,h⟩ := h));all_goals (subst_vars;exact _L.lo_of rfl rfl)))))
namespace _K
open PySem _L
variable{z w t n x word y:Str}{k c f far g m i G g' N j:Nat}{a b:Option Nat}{P:OV->↥OV->Prop}{d:D}{zs ls p zs0 ps E ns pool later every nn:↥Str}{ks:↥Key}{ds:↥D}{Q:D->Prop}{α β:Type}{mg:Str->Option Value}{base:Heap}{b1 b2 b0:Int}{sol:Str->Prop}
def top(i:Nat):Stmt:=PySem.Challenge.pw_keptreading_k19_papers_told.main.body.getD i (.Pass {(0),0,0,0})
def GA:Stmt->↥Stmt|.ClassDef _ _ _ b _ _ _ _ _ _ _=>b|_=>[]
def mth(i j:Nat):Stmt:=(GA (top i)).getD j (.Pass {(0),0,0,0})
structure Txt(K:Frag)(mg:Str->Option Value):Prop where
 n_len:mg "len"=none
 n_max:mg "max"=none
 n_min:mg "min"=none
 n_isinstance:mg "isinstance"=none
 n_all:mg "all"=none
 n_any:mg "any"=none
 n_sorted:mg "sorted"=none
 n_range:mg "range"=none
 n_str:mg "str"=none
 n_bool:mg "bool"=none
 n_int:mg "int"=none
 n_list:mg "list"=none
 n_tuple:mg "tuple"=none
 n_dict:mg "dict"=none
 n_set:mg "set"=none
 n_ord:mg "ord"=none
 n_ValueError:mg "ValueError"=none
 n_reversed:mg "reversed"=none
 g_LETTERS:Glo mg "LETTERS" (.str "abcdefghijklmnopqrstuvwxyz")
 g_MOST_LETTERS:Glo mg "MOST_LETTERS" (.int 8)
 g_MOST_SIGNS:Glo mg "MOST_SIGNS" (.int 40)
 g_MOST_PARTS:Glo mg "MOST_PARTS" (.int 8)
 g_BARRED_SIGN:Glo mg "BARRED_SIGN" (.int 37)
 g_WORDS_ALONE:JN K mg "WORDS_ALONE" [.str "none",.str "any"]
 g_WORDS_WITH_ONE:JN K mg "WORDS_WITH_ONE" [.str "again",.str "ahead",.str "not"]
 g_WORDS_WITH_SOME:JN K mg "WORDS_WITH_SOME" [.str "row",.str "first"]
 g_WORDS_EVER_EMPTY:JN K mg "WORDS_EVER_EMPTY" [.str "none",.str "again",.str "ahead",.str "not"]
abbrev Os(a b:Addr)(c name:D)(place:Int):OV:=.ob {a,0,[.fz c,.fz name,.fz (.int place),.fz (.int place),.fz (.int 0),.fl b [],.fz (.bl false),.fz .non]}
@[irreducible] def aQ:Ct:=λos P=>∃(a:Addr)(c name:D)(place:Int),os=[.ob {a,0,[]},.fz c,.fz name,.fz (.int place)]/\∀b:Addr,P (.fz .non) [Os a b c name place,.fz c,.fz name,.fz (.int place)]
@[irreducible] def aJ:Ct:=λos P=>∃(a:Addr)(g f p2 e c b j i:FV)(d:D),os=[.ob {a,0,[g,f,p2,e,c,b,j,i]},.fz d]/\P (.fz .non) [.ob {a,0,[g,f,p2,e,c,b,.fz (.bl true),.fz d]},.fz d]
abbrev vA:Stmt:=mth 37 0
abbrev GB:FS:=(am (jM 0 0 0 (ab 1)) (am (jM 0 0 1 (ab 2)) (am (jM 0 0 2 (ab 3)) (am (jM 0 0 3 (ab 3)) (am (jM 0 0 4 (fC (.int 0))) (am (Ck 0 0 5 (i4 af)) (am (jM 0 0 6 (fC (.bl false))) (jM 0 0 7 (fC .non)))))))))
abbrev Co:Stmt:=mth 37 1
abbrev Lo:FS:=(am (jM 0 0 6 (fC (.bl true))) (jM 0 0 7 (ab 1)))
def GC:Hh aQ GB [0] 4:=by intro os P h;unfold aQ at h;refine ex4 h ?_;clear h;rintro a c name place ⟨rfl,q⟩;revert{aan _,?_};ext;intro b;revert(q b)
def Lp:Hh aJ Lo [0] 2:=by intro os P h;unfold aJ at h;refine ex10 h ?_;clear h;rintro a j i p2 g f e c b d ⟨rfl,q⟩;revert(q)
def Cp(l:↥Nat):Prop:=∀c∈l,97<=c/\c<=122
def dc(z:Str):Prop:=1<=z.cps.toList.length/\z.cps.toList.length<=8/\Cp z.cps.toList
def k9{a b:↥Nat}(e:Cp a)(d:Cp b):Cp (a++b):=-λc h=>(abS.mp h).elim (e c) (d c)
abbrev abc:Str:="abcdefghijklmnopqrstuvwxyz"
def GD:Cp abc.cps.toList:=by have h:(abc.cps.toList.all λc=>decide (97<=c/\c<=122))=true:=∅;intro c a;exact of_decide_eq_true (List.all_eq_true.mp h c a)
def nT:abc.cps.toList.length=26:=-∅
def la(z:Str)(lo hi:Option Int):(gZ z lo hi).cps.toList=gc z.cps.toList lo hi:=by simp[gZ]
def dZ:sizeLine=16777216:=-sizeLine_eq
def du(z:Str):Prop:=1<=z.cps.toList.length/\z.cps.toList.length<=40/\z.cps.toList.Pairwise (·<·)/\∀c∈z.cps.toList,32<=c/\c<=126/\c≠37
abbrev vB:Str:=" !\"#$&'()*+,-./0123456789:;<=>?\x40ABCDEFGHIJKLMNOPQRSTUVWXYZ[\\]^_`abcdefghijklmnopqrstuvwxyz{|}~"
def vC:vB.cps.toList.length=94:=-∅
def pE:∀c∈vB.cps.toList,32<=c/\c<=126/\c≠37:=by have h:(vB.cps.toList.all λc=>decide (32<=c/\c<=126/\c≠37))=true:=∅;intro c a;exact of_decide_eq_true (List.all_eq_true.mp h c a)
def Az(h:z.cps.toList.length=1):∃c,z={#[c]}:=by let⟨c,a⟩:=List.length_eq_one_iff.mp h;exact{c,gB (by rw[a])}
theorem pF:∀{ss:↥Str},(∀z∈ss,z.cps.toList.length=1)->∃cs:↥Nat,ss=cs.map λc=>({#[c]}:Str)|[],_=>{[],rfl}|s::ss,h=>by let⟨c,rfl⟩:=Az (h s (aac ..));let⟨cs,rfl⟩:=pF (ss:=ss) λz a=>h z (aad _ a);exact{c::cs,rfl}
theorem kg:∀cs:↥Nat,((cs.map λc=>({#[c]}:Str)).map λz=>z.cps.toList).flatten=cs|[]=>rfl|c::cs=>by simp only[List.map_cons,List.flatten_cons,kg cs];rfl
def rP{cs:↥Nat}(h:(cs.map λc=>({#[c]}:Str)).Pairwise λa b=>db a b=true)(e:(cs.map λc=>({#[c]}:Str)).Nodup):cs.Pairwise (·<·):=by rw[List.Nodup]at e;have h2:=h.and e;rw[List.pairwise_map]at h2;refine h2.imp fun {a b} d=>?_;have f:¬([b]<[a]):=eU.mp d.1;have i:¬(b<a):=λz=>f (List.Lex.rel z);have g:a≠b:=λz=>d.2 (by rw[z]);nofun
def vD(zs:↥Str)(word:Str)(rest:↥Str):Prop:=((word="none"∨word="any")/\rest=[])∨(word="signs" /\ ∃z,rest=[z]/\du z)∨((word="again"∨word="ahead"∨word="not")/\rest.length=1/\∀z∈rest,z∈zs)∨((word="row"∨word="first")/\1<=rest.length/\rest.length<=8/\∀z∈rest,z∈zs)
abbrev aE(word:Str)(rest:↥Str):D:=.tup (.str word::rest.map .str)
abbrev Rw:=Str×Str×↥Str
variable{rows rows':↥Rw}
abbrev gy(r:Rw):D:=.tup [.str r.1,aE r.2.1 r.2.2]
def GE(zs:↥Str)(word:Str)(rest:↥Str):Prop:=(∀z∈zs,dc z)/\vD zs word rest
def gM(word:Str)(rest:↥Str):Prop:=∃zs:↥Str,GE zs word rest
structure BookL(rows:↥Rw):Prop where
 nd:(rows.map (·.1)).Nodup
 ok:∀r∈rows,dc r.1/\gM r.2.1 r.2.2
 few:rows.length<=30
 pool:∃zs:↥Str,zs.length<=45/\∀r∈rows,GE zs r.2.1 r.2.2
def bX(word:Str)(rest:↥Str):↥Str:=if word="signs" then [] else rest
inductive bT:Ct
 |mk {word:Str} {rest:↥Str} {P:OV->↥OV->Prop} (h:P (.fl ((bX word rest).map .str)) [.fz (aE word rest)]):bT [.fz (aE word rest)] P
abbrev vE:Stmt:=top 22
abbrev GG:FS:=(am (fIf (av (fOp aEq (fOp aIx (ab 0) (fC (.int 0))) (fC (.str "signs")))) (bc (i4 af)) aB) (bc (fCB Fm (aa (fSl aSl (ab 0) (fM (fC (.int 1))) cY) af))))
def GH:Hh bT GG [] 1:=by intro os P h;obtain@⟨word,rest,_,q⟩:=h;unfold bX at q;have nw:dq (D.str word::rest.map D.str).length ↑1 none:=λz=>by{have c:HT.sIx (D.str word::rest.map D.str).length 0 ↑(1:Int)=1:=by{rw[show (1:Int)=((1:Nat):Int)from rfl,HT.sIx_nat,ab6];nofun};rw[c]at z;nofun};have a:gc (D.str word::rest.map D.str) ↑1 none=rest.map D.str:=cX _ 1;revert aA b8{ai,?_}(ao (word="signs") au (λb=>?_) (λb=>?_));revert{aan _,?_};ext;rw[if_pos b]at q;exact q;revert{nw,?_};rw[if_neg b]at q;rw[a];revert(q)
inductive Leaf where
 |lack|none|any|signs (s:Str)
variable{l:Leaf}
def vF:Leaf->D|.lack=>.non|.none=>aE "none" []|.any=>aE "any" []|.signs s=>aE "signs" [s]
def Ot:Option Int->D|none=>.non|some i=>.int i
def jO(l:Leaf)(z:Str)(k:Nat):Option Int:=match l with|.lack=>none|.none=>!0|.any=>if k<z.length then ↑1 else none|.signs s=>match z.cps.toList[k]? with|some c=>if c∈s.cps.toList then ↑1 else none|none=>none
def lb{s:Str}(h:z.cps.toList[k]?=none):jO (.signs s) z k=none:=by unfold jO;simp only[h]
def nU{s:Str}(h:z.cps.toList[k]?=!c):jO (.signs s) z k=if c∈s.cps.toList then ↑1 else none:=by unfold jO;simp only[h]
inductive b4:Ct
 |mk {l:Leaf} {z:Str} {k:Nat} {P:OV->↥OV->Prop} (hk:k<=z.length) (hz:z.length<=sizeLine) (h:P (.fz (Ot (jO l z k))) [.fz (vF l),.fz (.str z),.fz (.int k)]):b4 [.fz (vF l),.fz (.str z),.fz (.int k)] P
abbrev pG:Stmt:=top 38
abbrev AA:FS:=(am (fIf (av (fOp uJ (ab 0) (fC .non))) (bc (fC .non)) aB) (am (fIf (av (fOp aEq (fOp aIx (ab 0) (fC (.int 0))) (fC (.str "none")))) (bc (fC (.int 0))) aB) (am (fIf (av (fOp aEq (ab 2) (fCB eO (aa (ab 1) af)))) (bc (fC .non)) aB) (bc (JQ (fOr (av (fOp aEq (fOp aIx (ab 0) (fC (.int 0))) (fC (.str "any")))) (av (fOp aIn (fOp aIx (ab 1) (ab 2)) (fOp aIx (ab 0) (fC (.int 1)))))) (fC (.int 1)) (fC .non))))))
def AB:Hh b4 AA [] 3:=by intro os P h;obtain@⟨l,z,k,_,j,e,q⟩:=h;have sz:=dZ;cases l with|lack=>revert aA ci(q)|none=>revert aA cm aA{ai,?_}(ao _ au (λ_=>?_) (λa=>absurd rfl a))(q)|any=>revert aA cm aA{ai,?_}(ao _ au (λa=>absurd a ∅) (λ_=>?_)) aA{e,?_}{aM,?_}(ao _ bu (λg=>?_) (λg=>?_));ext;have d:¬k<z.length:=();have:jO .any z k=none:=if_neg d;rw[this]at q;exact q;ext;have b:k<z.length:=();refine{ai,?_};revert(ao _ au (λ_=>?_) (λa=>absurd rfl a)) ci;ext;have:jO .any z k=!1:=if_pos b;rw[this]at q;exact q|signs s=>revert aA cm aA{ai,?_}(ao _ au (λa=>absurd a ∅) (λ_=>?_)) aA{e,?_}{aM,?_}(ao _ bu (λg=>?_) (λg=>?_));ext;have d:¬k<z.length:=();have:jO (.signs s) z k=none:=lb (acy.mpr (by rw[←iw];nofun));rw[this]at q;exact q;ext;have b:k<z.length:=();refine{ai,?_};revert(ao _ au (λa=>absurd a ∅) (λ_=>?_));ext;have i:z.cps.toList[k]?=!(z.cps.toList[k]'(by rw[←iw];exact b)):=abU _;generalize z.cps.toList[k]'(by rw[←iw];exact b)=c at i;rw[nU i]at q;refine{e,?_};rw[iz i];revert(ao _ decide_eq_true_iff (λf=>?_) (λf=>?_));ext;rw[if_pos f]at q;exact q;ext;rw[if_neg f]at q;exact q
def pH{a:Addr}{c name:D}{place:Int}(h:∀b:Addr,P (.fz .non) [Os a b c name place,.fz c,.fz name,.fz (.int place)]):aQ [.ob {a,0,[]},.fz c,.fz name,.fz (.int place)] P:=by unfold aQ;exact{(a),c,name,place,rfl,h}
def cr{a:Addr}{g f p2 e c b j i:FV}(h:P (.fz .non) [.ob {a,0,[g,f,p2,e,c,b,.fz (.bl true),.fz d]},.fz d]):aJ [.ob {a,0,[g,f,p2,e,c,b,j,i]},.fz d] P:=by unfold aJ;exact{(a),g,f,p2,e,c,b,j,i,d,rfl,h}
abbrev ask1(a b:Addr)(c name:D)(place:Int)(len:D):OV:=.ob {a,0,[.fz c,.fz name,.fz (.int place),.fz (.int place),.fz (.int 0),.fl b [],.fz (.bl true),.fz len]}
@[irreducible] def ef:Ct:=λos P=>∃(ks:↥Key)(ds:↥D)(z n:Str)(k:Nat),os=[.fz (.dct ks ds),.fz (.str z),.fz (.str n),.fz (.int k)]/\k<=z.length/\z.length<=sizeLine/\ ((∃l,(gY ks ds (.inr n)).getD .non=vF l/\∀a b,P (ask1 a b (vF l) (.str n) k (Ot (jO l z k))) os)∨∃word rest,(gY ks ds (.inr n)).getD .non=aE word rest/\word≠ "signs" /\ rest≠[]/\rest.length<=8/\∀a b,P (Os a b (aE word rest) (.str n) k) os)
abbrev vG:Stmt:=top 39
abbrev GI:FS:=(am (bS (zZ (ab 0) (ab 2)) (ac 4)) (am (cn 5 (K1 0 aQ (aa (fFz (ab 4)) (aa (fFz (ab 2)) (aa (fFz (ab 3)) af))))) (am (fIf (fOr (av (fOp uJ (ab 4) (fC .non))) (av (fOp aEq (fCB eO (aa (al bT (aa (fFz (ab 4)) af)) af)) (fC (.int 0))))) (bR (eJ "end" 0 5 aJ (aa (fFz (al b4 (aa (fFz (ab 4)) (aa (fFz (ab 1)) (aa (fFz (ab 3)) af))))) af))) aB) (bc (ab 5)))))
def GJ:Hh ef GI [] 6:=by intro os P h;unfold ef at h;refine ex5 h ?_;clear h;rintro ks ds z n k ⟨rfl,f,d,h⟩;ext;rcases h with ⟨l,e,q⟩|⟨word,rest,e,i,g,m,q⟩;rw[e];ext;intro a;refine pH λb=>?_;revert aA;cases l with|lack=>revert ci ci(.mk (l:=.lack) f d ?_) cr(q a b)|none=>revert cm(.mk ?_){aM,?_}(ao _ bu (λ_=>?_) (λc=>absurd ∅ c))(.mk (l:=.none) f d ?_) cr(q a b)|any=>revert cm(.mk ?_){aM,?_}(ao _ bu (λ_=>?_) (λc=>absurd ∅ c))(.mk (l:=.any) f d ?_) cr(q a b)|signs s=>{revert cm(.mk ?_){aM,?_}(ao _ bu (λ_=>?_) (λc=>absurd (by rw[show bX "signs" [s]=[]from if_pos rfl];rfl) c))(.mk (l:=.signs s) f d ?_) cr(q a b)};rw[e];ext;intro a;refine pH λb=>?_;revert aA cm(.mk ?_){aM,?_};ext;have j:bX word rest=rest:=if_neg i;refine ao _ bu (λc=>?_) (λ_=>?_);rw[j,abR]at c;exact absurd (List.length_eq_zero_iff.mp ()) g;revert(q a b)
inductive Rl where
 |leaf (l:Leaf)|comp (w:Str) (r:↥Str)
def rlD:Rl->D|.leaf l=>vF l|.comp w r=>aE w r
def cH(o:Option Nat):D:=match o with|none=>.non|some k=>.int k
def jm(l:Leaf)(z:Str)(k:Nat):Option Nat:=match jO l z k with|none=>none|some i=>!i.toNat
def GK(l:Leaf)(z:Str)(k:Nat):Ot (jO l z k)=cH (jm l z k):=by unfold jm;cases e:jO l z k with|none=>rfl|some i=>have:0<=i:=by{unfold jO at e;split at e;cases e;cases e;decide;split at e;cases e;decide;cases e;split at e;split at e;cases e;decide;cases e;cases e};show D.int i=D.int ((i.toNat:Nat):Int);rw[Int.toNat_of_nonneg this]
abbrev Sp2:=Str×Nat
variable{root q:Sp2}
def aG(s:Sp2):D:=.tup [.str s.1,.int s.2]
structure As where
 fm:Rl
 n:Str
 k:Nat
 t:Nat
 tn:Nat
 st:↥Sp2
 dn:Bool
 ln:Option Nat
variable{s:As}
abbrev asA(a b:Addr)(s:As):Oo:={a,0,[.fz (rlD s.fm),.fz (.str s.n),.fz (.int s.k),.fz (.int s.t),.fz (.int s.tn),.fl b (s.st.map aG),.fz (.bl s.dn),.fz (cH s.ln)]}
def fJ(s:As)(x:Option Nat):As:={s with dn:=true,ln:=x}
def lz(r:↥Str)(s:As)(x:Option Nat):As:=match x with|none=>fJ s none|some l=>if s.tn+1=r.length then fJ {s with t:=s.t+l,tn:=s.tn+1} ↑(s.t+l - s.k) else {s with t:=s.t+l,tn:=s.tn+1}
def ce(r:↥Str)(s:As)(x:Option Nat):As:=if x≠none∨s.tn+1=r.length then fJ {s with tn:=s.tn+1} x else {s with tn:=s.tn+1}
def cI(s:As)(x:Option Nat):As:=if x=none∨x=↑0 then fJ s ↑(s.t - s.k) else {s with t:=s.t+x.getD 0}
def ae(r:↥Str)(s:As):Sp2:=(r.getD s.tn "",s.t)
def bg(w:Str)(r:↥Str)(a:As)(x:Option Nat):As:=
 let s:={a with st:=a.st++[ae r a]}
 if w="row" then lz r s x else if w="first" then ce r s x else if w="again" then cI s x else if w="ahead" then fJ s (if x=none then none else !0) else fJ s (if x=none then ↑0 else none)
inductive a7:Ct
 |mk {a b:Addr} {s:As} {w:Str} {r:↥Str} {P:OV->↥OV->Prop} (hf:s.fm=.comp w r) (ht:s.tn<r.length) (hr:r.length<=8) (h:P (.fz (aG (ae r s))) [.ob (asA a b s)]):a7 [.ob (asA a b s)] P
inductive aX:Ct
 |mk {a b:Addr} {s:As} {w:Str} {r:↥Str} {x:Option Nat} {P:OV->↥OV->Prop} (hf:s.fm=.comp w r) (hr:r.length<=8) (hk:s.k<=s.t) (h:P (.fz .non) [.ob (asA a b (lz r s x)),.fz (cH x)]):aX [.ob (asA a b s),.fz (cH x)] P
inductive aN:Ct
 |mk {a b:Addr} {s:As} {w:Str} {r:↥Str} {x:Option Nat} {P:OV->↥OV->Prop} (hf:s.fm=.comp w r) (hr:r.length<=8) (h:P (.fz .non) [.ob (asA a b (ce r s x)),.fz (cH x)]):aN [.ob (asA a b s),.fz (cH x)] P
inductive aO:Ct
 |mk {a b:Addr} {s:As} {x:Option Nat} {P:OV->↥OV->Prop} (hk:s.k<=s.t) (h:P (.fz .non) [.ob (asA a b (cI s x)),.fz (cH x)]):aO [.ob (asA a b s),.fz (cH x)] P
inductive bU:Ct
 |mk {a b:Addr} {s:As} {w:Str} {r:↥Str} {x:Option Nat} {P:OV->↥OV->Prop} (hf:s.fm=.comp w r) (ht:s.tn<r.length) (hr:r.length<=8) (hk:s.k<=s.t) (hs:s.st.length<sizeLine) (h:P (.fz .non) [.ob (asA a b (bg w r s x)),.fz (cH x)]):bU [.ob (asA a b s),.fz (cH x)] P
abbrev my:Stmt:=mth 37 2
abbrev vH:FS:=(bc (fL (aa (fOp aIx (ie 0 0 0) (fOp dW (fC (.int 1)) (ie 0 0 4))) (aa (ie 0 0 3) af))))
abbrev Cq:Stmt:=mth 37 4
abbrev Lq:FS:=(am (fIf (av (fOp uJ (ab 1) (fC .non))) (am (bR (eJ "end" 0 0 aJ (aa (fC .non) af))) Kc) aB) (am (rG 0 0 3 (ab 1)) (am (rG 0 0 4 (fC (.int 1))) (fIf (av (fOp aEq (ie 0 0 4) (fOp (aI0 λi j=>.int (i - j)) (fCB eO (aa (ie 0 0 0) af)) (fC (.int 1))))) (bR (eJ "end" 0 0 aJ (aa (fFz (fOp (aI0 λi j=>.int (i - j)) (ie 0 0 3) (ie 0 0 2))) af))) aB))))
abbrev pJ:Stmt:=mth 37 5
abbrev AC:FS:=(am (rG 0 0 4 (fC (.int 1))) (fIf (fOr (av (fOp kY (ab 1) (fC .non))) (av (fOp aEq (ie 0 0 4) (fOp (aI0 λi j=>.int (i - j)) (fCB eO (aa (ie 0 0 0) af)) (fC (.int 1)))))) (bR (eJ "end" 0 0 aJ (aa (fFz (ab 1)) af))) aB))
abbrev pK:Stmt:=mth 37 6
abbrev AD:FS:=(fIf (fOr (av (fOp uJ (ab 1) (fC .non))) (av (fOp aEq (ab 1) (fC (.int 0))))) (bR (eJ "end" 0 0 aJ (aa (fFz (fOp (aI0 λi j=>.int (i - j)) (ie 0 0 3) (ie 0 0 2))) af))) (rG 0 0 3 (ab 1)))
abbrev vI:Stmt:=mth 37 3
abbrev GL:FS:=(am (bR (zJ 0 0 5 (eJ "wanted" 0 0 a7 af))) (am (bS (fOp aIx (ie 0 0 0) (fC (.int 0))) (ac 2)) (fIf (av (fOp aEq (ab 2) (fC (.str "row")))) (bR (eJ "take_in_row" 0 0 aX (aa (fFz (ab 1)) af))) (fIf (av (fOp aEq (ab 2) (fC (.str "first")))) (bR (eJ "take_in_first" 0 0 aN (aa (fFz (ab 1)) af))) (fIf (av (fOp aEq (ab 2) (fC (.str "again")))) (bR (eJ "take_in_again" 0 0 aO (aa (fFz (ab 1)) af))) (fIf (av (fOp aEq (ab 2) (fC (.str "ahead")))) (bR (eJ "end" 0 0 aJ (aa (fFz (JQ (av (fOp uJ (ab 1) (fC .non))) (fC .non) (fC (.int 0)))) af))) (bR (eJ "end" 0 0 aJ (aa (fFz (JQ (av (fOp uJ (ab 1) (fC .non))) (fC (.int 0)) (fC .non))) af)))))))))
def vJ:Hh a7 vH [0] 1:=by intro os P h;obtain@⟨a,b,s,w,r,_,d,c,hr,q⟩:=h;let⟨fm,n,k,t,tn,st,dn,ln⟩:=s;simp only at d c;subst d;have f:atI (D.str w::List.map D.str r) (1+(tn:Int))=!(.str (r.getD tn "")):=by{rw[show (1+(tn:Int))=((tn+1:Nat):Int)from ()];refine iz ?_;rw[List.getElem?_cons_succ,abW,ab5,abU c];rfl};have e:2<=sizeLine:=by{rw[sizeLine_eq];decide};ext;rw[f];revert{e,?_}(q)
def Lr:Hh aX Lq [0] 2:=by intro os P h;obtain@⟨a,b,s,w,r,x,_,c,hr,f,q⟩:=h;let⟨fm,n,k,t,tn,st,dn,ln⟩:=s;simp only at c f;subst c;have sz:=dZ;cases x with|none=>revert aA ci cr(q)|some l=>revert aA cm aA{aM,?_}(ao (tn+1=r.length) (bu.trans (by simp only[List.length_cons,List.length_map];nofun)) (λh=>?_) (λh=>?_));revert cr;ext;rw[show lz r {.comp w r,n,k,t,tn,st,dn,ln} ↑l=fJ {.comp w r,n,k,t+l,tn+1,st,dn,ln} ↑(t+l - k)from if_pos h]at q;have e:((t:Int)+(l:Int)) - (k:Int)=((t+l - k:Nat):Int):=();have d:P (.fz .non) [.ob {a,0,[.fz (aE w r),.fz (.str n),.fz (.int k),.fz (.int ((t:Int)+l)),.fz (.int ((tn:Int)+1)),.fl b (st.map aG),.fz (.bl true),.fz (.int ((t:Int)+l - k))]},.fz (.int l)]:=by{rw[e];exact q};exact d;ext;rw[show lz r {.comp w r,n,k,t,tn,st,dn,ln} ↑l={.comp w r,n,k,t+l,tn+1,st,dn,ln}from if_neg h]at q;exact q
def AE:Hh aN AC [0] 2:=by intro os P h;obtain@⟨a,b,s,w,r,x,_,c,hr,q⟩:=h;let⟨fm,n,k,t,tn,st,dn,ln⟩:=s;simp only at c;subst c;have sz:=dZ;cases x with|none=>revert aA cm{aM,?_}(ao (tn+1=r.length) (bu.trans (by simp only[List.length_cons,List.length_map];nofun)) (λh=>?_) (λh=>?_));revert cr;ext;rw[show ce r {.comp w r,n,k,t,tn,st,dn,ln} none=fJ {.comp w r,n,k,t,tn+1,st,dn,ln} none from if_pos (.inr h)]at q;exact q;ext;rw[show ce r {.comp w r,n,k,t,tn,st,dn,ln} none={.comp w r,n,k,t,tn+1,st,dn,ln}from if_neg (λz=>z.elim (λy=>y rfl) h)]at q;exact q|some l=>revert aA ci ci cr;ext;rw[show ce r {.comp w r,n,k,t,tn,st,dn,ln} ↑l=fJ {.comp w r,n,k,t,tn+1,st,dn,ln} ↑l from if_pos (.inl (λz=>nomatch z))]at q;exact q
def AG:Hh aO AD [0] 2:=by intro os P h;obtain@⟨a,b,s,x,_,c,q⟩:=h;let⟨fm,n,k,t,tn,st,dn,ln⟩:=s;simp only at c;have e:(t:Int) - (k:Int)=((t - k:Nat):Int):=();have fi:∀y:D,P (.fz .non) [.ob (asA a b (fJ {(fm),n,k,t,tn,st,dn,ln} !(t - k))),.fz y]->P (.fz .non) [.ob {a,0,[.fz (rlD fm),.fz (.str n),.fz (.int k),.fz (.int t),.fz (.int tn),.fl b (st.map aG),.fz (.bl true),.fz (.int ((t:Int) - k))]},.fz y]:=λy q=>by{rw[e];exact q};cases x with|none=>revert aA ci ci cr;ext;rw[show cI {(fm),n,k,t,tn,st,dn,ln} none=fJ {(fm),n,k,t,tn,st,dn,ln} ↑(t - k)from if_pos (.inl rfl)]at q;exact fi _ q|some l=>revert aA cm{aM,?_}(ao (l=0) (bu.trans ()) (λh=>?_) (λh=>?_));revert cr;ext;rw[show cI {(fm),n,k,t,tn,st,dn,ln} ↑l=fJ {(fm),n,k,t,tn,st,dn,ln} ↑(t - k)from if_pos (.inr (by rw[h]))]at q;exact fi _ q;ext;rw[show cI {(fm),n,k,t,tn,st,dn,ln} ↑l={fm,n,k,t+l,tn,st,dn,ln}from if_neg (λz=>z.elim (λy=>nomatch y) λy=>h (aak y))]at q;exact q
def GM:Hh bU GL [0] 3:=by intro os P h;obtain@⟨a,b,s,w,r,x,_,g,f,hr,e,hs,q⟩:=h;let⟨fm,n,k,t,tn,st,dn,ln⟩:=s;simp only at g f e hs;subst g;have i:((st++[ae r {.comp w r,n,k,t,tn,st,dn,ln}]).map aG)=st.map aG++[aG (ae r {.comp w r,n,k,t,tn,st,dn,ln})]:=by{rw[aae];rfl};revert(.mk (s:={.comp w r,n,k,t,tn,st,dn,ln}) rfl f hr ?_){rfl,by rw[abR];exact hs,?_};rw[←i];revert b8 aA{ai,?_}(ao (w="row") au (λh=>?_) (λh=>?_));revert(.mk (s:={.comp w r,n,k,t,tn,st++[ae r {.comp w r,n,k,t,tn,st,dn,ln}],dn,ln}) rfl hr e ?_);ext;rw[show bg w r {.comp w r,n,k,t,tn,st,dn,ln} x=lz r {.comp w r,n,k,t,tn,st++[ae r {.comp w r,n,k,t,tn,st,dn,ln}],dn,ln} x from if_pos h]at q;exact q;revert aA{ai,?_}(ao (w="first") au (λh2=>?_) (λh2=>?_));revert(.mk (s:={.comp w r,n,k,t,tn,st++[ae r {.comp w r,n,k,t,tn,st,dn,ln}],dn,ln}) rfl hr ?_);ext;rw[show bg w r {.comp w r,n,k,t,tn,st,dn,ln} x=ce r {.comp w r,n,k,t,tn,st++[ae r {.comp w r,n,k,t,tn,st,dn,ln}],dn,ln} x from (if_neg h).trans (if_pos h2)]at q;exact q;revert aA{ai,?_}(ao (w="again") au (λc=>?_) (λc=>?_));revert(.mk (s:={.comp w r,n,k,t,tn,st++[ae r {.comp w r,n,k,t,tn,st,dn,ln}],dn,ln}) e ?_);ext;rw[show bg w r {.comp w r,n,k,t,tn,st,dn,ln} x=cI {.comp w r,n,k,t,tn,st++[ae r {.comp w r,n,k,t,tn,st,dn,ln}],dn,ln} x from (if_neg h).trans ((if_neg h2).trans (if_pos c))]at q;exact q;revert aA{ai,?_}(ao (w="ahead") au (λd=>?_) (λd=>?_));cases x with|none=>revert ci cr;ext;rw[show bg w r {.comp w r,n,k,t,tn,st,dn,ln} none=fJ {.comp w r,n,k,t,tn,st++[ae r {.comp w r,n,k,t,tn,st,dn,ln}],dn,ln} none from (if_neg h).trans ((if_neg h2).trans ((if_neg c).trans (if_pos d)))]at q;exact q|some l=>{revert cm cr;ext;rw[show bg w r {.comp w r,n,k,t,tn,st,dn,ln} ↑l=fJ {.comp w r,n,k,t,tn,st++[ae r {.comp w r,n,k,t,tn,st,dn,ln}],dn,ln} ↑0 from (if_neg h).trans ((if_neg h2).trans ((if_neg c).trans (if_pos d)))]at q;exact q};cases x with|none=>revert ci cr;ext;rw[show bg w r {.comp w r,n,k,t,tn,st,dn,ln} none=fJ {.comp w r,n,k,t,tn,st++[ae r {.comp w r,n,k,t,tn,st,dn,ln}],dn,ln} ↑0 from (if_neg h).trans ((if_neg h2).trans ((if_neg c).trans (if_neg d)))]at q;exact q|some l=>revert cm cr;ext;rw[show bg w r {.comp w r,n,k,t,tn,st,dn,ln} ↑l=fJ {.comp w r,n,k,t,tn,st++[ae r {.comp w r,n,k,t,tn,st,dn,ln}],dn,ln} none from (if_neg h).trans ((if_neg h2).trans ((if_neg c).trans (if_neg d)))]at q;exact q
def ng:↥Str->↥Str->↥Str|ls,[]=>ls|ls,m::a=>ng (if m∈ls then ls else ls++[m]) a
structure Res where
 ln:Option Nat
 far:Nat
 ls:↥Str
variable{r r':Res}{e:Sp2×Res}
abbrev Rls:=Str->Rl
variable{R:Rls}
def bC(R:Rls)(z:Str)(n:Str)(k:Nat):As:=match R n with|.leaf l=>{.leaf l,n,k,k,0,[],true,jm l z k}|.comp w r=>{.comp w r,n,k,k,0,[],false,none}
def goF(R:Rls)(z:Str):Nat->As->Nat->↥Str->Option Res|0,_,_,_=>none|f+1,s,far,ls=>if s.dn=true then ↑{(s.ln),far,ls} else match s.fm with|.leaf _=>none|.comp w r=>match goF R z f (bC R z (ae r s).1 (ae r s).2) (ae r s).2 [(ae r s).1]with|none=>none|some t=>goF R z f (bg w r s t.ln) (max far t.far) (ng ls t.ls)
abbrev rdF(R:Rls)(z:Str)(f:Nat)(n:Str)(k:Nat):Option Res:=goF R z f (bC R z n k) k [n]
def fS(h:s.dn=true):goF R z (f+1) s far ls=!{(s.ln),far,ls}:=-if_pos h
def ig(h:s.dn=false)(e:goF R z (f+1) s far ls=!r):∃w p t,s.fm=.comp w p/\rdF R z f (ae p s).1 (ae p s).2=!t/\goF R z f (bg w p s t.ln) (max far t.far) (ng ls t.ls)=!r:=by unfold goF at e;rw[if_neg (by rw[h];decide)]at e;cases b:s.fm with|leaf l=>rw[b]at e;cases e|comp w p=>rw[b]at e;simp only at e;cases a:rdF R z f (ae p s).1 (ae p s).2 with|none=>rw [show goF R z f (bC R z (ae p s).1 (ae p s).2) (ae p s).2 [(ae p s).1]=none from a]at e;cases e|some t=>rw[show goF R z f (bC R z (ae p s).1 (ae p s).2) (ae p s).2 [(ae p s).1]=↑t from a]at e;exact{(w),p,t,rfl,a,e}
def iE{t:Res}(h:s.dn=false)(b:s.fm=.comp w p)(a:rdF R z f (ae p s).1 (ae p s).2=!t):goF R z (f+1) s far ls=goF R z f (bg w p s t.ln) (max far t.far) (ng ls t.ls):=by rw[goF,if_neg (by rw[h];decide),b];simp only;rw[show goF R z f (bC R z (ae p s).1 (ae p s).2) (ae p s).2 [(ae p s).1]=↑t from a]
theorem lf:∀{f:Nat}{s:As}{far:Nat}{ls:↥Str}{r:Res},goF R z f s far ls=!r->goF R z (f+1) s far ls=!r|0,_,_,_,_,e=>nomatch e|f+1,s,far,ls,r,e=>by cases h:s.dn with|true=>rw [fS h]at e ⊢;exact e|false=>let⟨w,p,t,b,a,c⟩:=ig h e;rw[iE h b (lf a)];exact lf c
def nV(h:f<=g)(e:goF R z f s far ls=!r):goF R z g s far ls=!r:=by induction h with|refl=>exact e|step _ a=>exact lf a
def hU{t:Res}(b:goF R z f s far ls=!r)(a:goF R z g s far ls=!t):r=t:=- aak ((nV (Nat.le_max_left f g) b).symm.trans (nV (Nat.le_max_right f g) a))
def ii(R:Rls)(zs:↥Str):Prop:=∀n w p,R n=.comp w p->w≠ "signs" /\ 1<=p.length/\p.length<=8/\∀x∈p,x∈zs
structure AsOk(R:Rls)(z:Str)(zs:↥Str)(s:As):Prop where
 fm:s.fm=R s.n
 nz:s.n∈zs
 kt:s.k<=s.t
 tz:s.t<=z.length
 tn:s.dn=false->∃w p,s.fm=.comp w p/\s.tn<p.length
 t8:s.tn<=8
 st:s.st.length+s.k<=s.t+s.tn+(if s.dn=true then 1 else 0)
 ln:∀l,s.dn=true->s.ln=!l->s.k+l<=z.length
def GN(a:k<=z.length)(e:jm l z k=!m):k+m<=z.length:=by unfold jm at e;cases h:jO l z k with|none=>rw[h]at e;cases e|some i=>rw[h]at e;cases e;unfold jO at h;split at h;cases h;cases h;exact a;split at h;cases h;show k+1<=_;nofun;cases h;split at h;rename_i c b;have:k<z.length:=by{rw[iw];exact(abT.mp b).1};split at h;cases h;show k+1<=_;nofun;cases h;cases h
def jn(h:ii R zs)(b:n∈zs)(a:k<=z.length):AsOk R z zs (bC R z n k):=by unfold bC;cases e:R n with|leaf l=>exact{e.symm,b,aab _,a,(λz=>nomatch z),aan _,(by show 0+k<=k+0+_;nofun),λm _ q=>GN a q}|comp w p=>exact{e.symm,b,aab _,a,λ_=>{w,p,rfl,(h n w p e).2.1},aan _,(by show 0+k<=k+0+_;nofun),λm z=>nomatch z}
def cu:(bC R z n k).n=n/\(bC R z n k).k=k/\(bC R z n k).st=[]:=by unfold bC;cases R n<;>exact{(rfl),rfl,rfl}
def dE(w:Str)(p:↥Str)(s:As)(x:Option Nat):∃t tn dn ln,bg w p s x={s.fm,s.n,s.k,t,tn,s.st++[ae p s],dn,ln}/\ ((dn=true/\(t=s.t∨∃l,x=!l/\t=s.t+l)/\(tn=s.tn∨tn=s.tn+1)/\(∀m,ln=!m->m=0∨m<=t - s.k∨x=!m))∨(dn=s.dn/\((∃l,x=!l/\t=s.t+l/\tn=s.tn+1/\tn≠p.length)∨(t=s.t/\tn=s.tn+1/\tn≠p.length)∨∃l,x=!l/\0<l/\t=s.t+l/\tn=s.tn))):=by by_cases h1:w="row";rw[show bg w p s x=lz p {s with st:=s.st++[ae p s]} x from if_pos h1];cases x with|none=>exact{_,_,_,_,rfl,.inl {rfl,.inl rfl,.inl rfl,λm z=>nomatch z}}|some l=>{by_cases h:s.tn+1=p.length;rw[show lz p {s with st:=s.st++[ae p s]} ↑l={s.fm,s.n,s.k,s.t+l,s.tn+1,s.st++[ae p s],true,!(s.t+l - s.k)}from if_pos h];exact{_,_,_,_,rfl,.inl {rfl,.inr {(l),rfl,rfl},.inr rfl,λm z=>.inr (.inl (by cases z;exact aab _))}};rw[show lz p {s with st:=s.st++[ae p s]} ↑l={s.fm,s.n,s.k,s.t+l,s.tn+1,s.st++[ae p s],s.dn,s.ln}from if_neg h];exact{_,_,_,_,rfl,.inr {rfl,.inl {(l),rfl,rfl,rfl,h}}}};by_cases h2:w="first";rw[show bg w p s x=ce p {s with st:=s.st++[ae p s]} x from (if_neg h1).trans (if_pos h2)];by_cases h:x≠none∨s.tn+1=p.length;rw[show ce p {s with st:=s.st++[ae p s]} x={s.fm,s.n,s.k,s.t,s.tn+1,s.st++[ae p s],true,x}from if_pos h];exact{_,_,_,_,rfl,.inl {rfl,.inl rfl,.inr rfl,λm z=>.inr (.inr z)}};rw[show ce p {s with st:=s.st++[ae p s]} x={s.fm,s.n,s.k,s.t,s.tn+1,s.st++[ae p s],s.dn,s.ln}from if_neg h];exact{_,_,_,_,rfl,.inr {rfl,.inr (.inl {rfl,rfl,λz=>h (.inr z)})}};by_cases a:w="again";rw[show bg w p s x=cI {s with st:=s.st++[ae p s]} x from (if_neg h1).trans ((if_neg h2).trans (if_pos a))];by_cases h:x=none∨x=!0;rw[show cI {s with st:=s.st++[ae p s]} x={s.fm,s.n,s.k,s.t,s.tn,s.st++[ae p s],true,!(s.t - s.k)}from if_pos h];exact{_,_,_,_,rfl,.inl {rfl,.inl rfl,.inl rfl,λm z=>.inr (.inl (by cases z;exact aab _))}};rw[show cI {s with st:=s.st++[ae p s]} x={s.fm,s.n,s.k,s.t+x.getD 0,s.tn,s.st++[ae p s],s.dn,s.ln}from if_neg h];cases x with|none=>exact absurd (.inl rfl) h|some l=>{exact{_,_,_,_,rfl,.inr {rfl,.inr (.inr {l,rfl,Nat.pos_of_ne_zero λz=>h (.inr (by rw[z])),rfl,rfl})}}};suffices fin:∃y:Option Nat,(∀m,y=!m->m=0)/\bg w p s x=fJ {s with st:=s.st++[ae p s]} y by{let⟨y,c,e⟩:=fin;rw[e];exact{_,_,_,_,rfl,.inl {rfl,.inl rfl,.inl rfl,λm z=>.inl (c m z)}}};by_cases b:w="ahead";refine{if x=none then none else !0,λm z=>?_,(if_neg h1).trans ((if_neg h2).trans ((if_neg a).trans (if_pos b)))};split at z;cases z;cases z;rfl;refine{if x=none then ↑0 else none,λm z=>?_,(if_neg h1).trans ((if_neg h2).trans ((if_neg a).trans (if_neg b)))};split at z;cases z;rfl;cases z
def lg{x:Option Nat}(m:ii R zs)(O:AsOk R z zs s)(hd:s.dn=false)(j:s.fm=.comp w p)(hx:∀l,x=!l->s.t+l<=z.length):AsOk R z zs (bg w p s x):=by have A:=(m s.n w p (O.fm.symm.trans j)).2.2.1;let⟨u,v,f,i⟩:=O.tn hd;rw[j]at f;cases f;have h1:=O.kt;have h2:=O.tz;have n:=O.st;rw[hd,if_neg (by decide)]at n;let⟨t,tn,dn,ln,e,c⟩:=dE w p s x;rw[e];have k:(s.st++[ae p s]).length=s.st.length+1:=by{rw[aag];rfl};rcases c with ⟨rfl,a,g,b⟩|⟨rfl,c⟩;have g1:s.t<=t/\t<=z.length:=by{rcases a with a|⟨l,a,d⟩;nofun;have:=hx l a;nofun};clear a;refine{O.fm,O.nz,by show s.k<=t;nofun,g1.2,(λz=>nomatch z),by show tn<=8;nofun,?_,λl _ q=>?_};show (s.st++[ae p s]).length+s.k<=t+tn+(if true=true then 1 else 0);rw[k,if_pos rfl];nofun;show s.k+l<=z.length;rcases b l q with y|y|y;nofun;nofun;have:=hx l y;nofun;have mk:s.t<=t->t<=z.length->tn<p.length->s.st.length+1+s.k<=t+tn->AsOk R z zs {s.fm,s.n,s.k,t,tn,s.st++[ae p s],s.dn,ln}:=λC r o B=>by{refine{O.fm,O.nz,by show s.k<=t;nofun,r,λ_=>{(w),p,j,o},by show tn<=8;nofun,?_,λl q=>?_};show (s.st++[ae p s]).length+s.k<=t+tn+(if s.dn=true then 1 else 0);rw[k,hd,if_neg (by decide)];nofun;exact absurd (hd.symm.trans q) (by decide)};rcases c with ⟨l,a,g,b,d⟩|⟨g,b,d⟩|⟨l,a,g,b,d⟩;subst g b;exact mk (Nat.le_add_right ..) (hx l a) (Nat.lt_of_le_of_ne i d) ();subst g b;exact mk (aab _) h2 (Nat.lt_of_le_of_ne i d) ();subst b d;exact mk (Nat.le_add_right ..) (hx l a) i ()
theorem nW:∀{ms ls:↥Str},ls.Nodup->(ng ls ms).Nodup|[],_,h=>h|m::ms,ls,h=>by refine nW (ms:=ms) ?_;split;exact h;rename_i c;exact ace.mpr {h,by simp,λa e b d z=>c (by rw[←List.mem_singleton.mp d,←z];exact e)}
theorem fB:∀{ms ls:↥Str}{x:Str},x∈ng ls ms↔x∈ls∨x∈ms|[],ls,x=>by show x∈ls↔_;simp|m::ms,ls,x=>by show x∈ng (if m∈ls then ls else ls++[m]) ms↔_;rw[fB (ms:=ms)];split;rename_i a;simp only[List.mem_cons];constructor;rintro (h|h);exact .inl h;exact .inr (.inr h);rintro (h|h|h);exact .inl h;exact .inl (h ▸ a);exact .inr h;simp only[List.mem_append,List.mem_cons,List.not_mem_nil,or_false,or_assoc]
structure ResOk(z:Str)(zs:↥Str)(k:Nat)(r:Res):Prop where
 ln:∀l,r.ln=!l->k+l<=z.length
 kf:k<=r.far
 fz:r.far<=z.length
 nd:r.ls.Nodup
 sub:∀x∈r.ls,x∈zs
theorem GO(c:ii R zs):∀{f:Nat}{s:As}{far:Nat}{ls:↥Str}{r:Res},AsOk R z zs s->s.k<=far->far<=z.length->ls.Nodup->(∀x∈ls,x∈zs)->goF R z f s far ls=!r->ResOk z zs s.k r|0,_,_,_,_,_,_,_,_,_,e=>nomatch e|f+1,s,far,ls,r,O,h1,h2,j,i,e=>by cases h:s.dn with|true=>rw[fS h]at e;cases e;exact{λl q=>O.ln l h q,h1,h2,j,i}|false=>let⟨w,p,t,d,n,o⟩:=ig h e;let⟨u,v,b,a⟩:=O.tn h;rw[d]at b;cases b;have g:(ae p s).1∈zs:=by{refine(c s.n w p (O.fm.symm.trans d)).2.2.2 _ ?_;show p.getD s.tn "" ∈p;rw[ab5,abU a];exact aaL a};have T:=GO c (jn c g O.tz) (by rw[cu.2.1];exact aab _) O.tz (by simp) (by exists g) n;rw[cu.2.1]at T;have q:=dE w p s t.ln;have k:(bg w p s t.ln).k=s.k:=by{let⟨_,_,_,_,q,_⟩:=q;rw[q]};have:=GO c (lg c O h d λl q=>T.ln l q) (by rw[k];nofun) (by have:=T.fz;nofun) (nW j) (λx m=>(fB.mp m).elim (i x) (T.sub x)) o;rw[k]at this;exact this
def nX(c:ii R zs)(a:n∈zs)(b:k<=z.length)(e:rdF R z f n k=!r):ResOk z zs k r:=by have:=GO c (jn c a b) (by rw[cu.2.1];exact aab _) b (by simp) (by exists a) e;rwa [cu.2.1]at this
def cJ(R:Rls)(z:Str):Nat->As->As|0,s=>s|f+1,s=>if s.dn=true then s else match s.fm with|.leaf _=>s|.comp w p=>match rdF R z f (ae p s).1 (ae p s).2 with|none=>s|some t=>cJ R z f (bg w p s t.ln)
def eY(h:s.dn=true):cJ R z f s=s:=by cases f with|zero=>rfl|succ f=>exact if_pos h
def gm{t:Res}(h:s.dn=false)(b:s.fm=.comp w p)(a:rdF R z f (ae p s).1 (ae p s).2=!t):cJ R z (f+1) s=cJ R z f (bg w p s t.ln):=by rw[cJ,if_neg (by rw[h];decide),b];simp only;rw[a]
theorem pL:∀{f:Nat}{s:As}{far:Nat}{ls:↥Str}{r:Res},goF R z f s far ls=!r->cJ R z (f+1) s=cJ R z f s|0,_,_,_,_,e=>nomatch e|f+1,s,far,ls,r,e=>by cases h:s.dn with|true=>rw [eY h,eY h]|false=>let⟨w,p,t,b,a,c⟩:=ig h e;rw[gm h b (lf a),gm h b a];exact pL c
def Cs(h:f<=g)(e:goF R z f s far ls=!r):cJ R z g s=cJ R z f s:=by induction h with|refl=>rfl|step h a=>rw[pL (nV h e),a]
def Ls{a:Nat}{b:↥Str}{t:Res}(d:goF R z f s far ls=!r)(c:goF R z g s a b=!t):cJ R z f s=cJ R z g s:=by rw[←Cs (Nat.le_max_left f g) d,←Cs (Nat.le_max_right f g) c]
theorem vK:∀{f:Nat}{s:As}{q:Sp2},q∈s.st->q∈(cJ R z f s).st|0,_,_,h=>h|f+1,s,q,h=>by unfold cJ;split;exact h;split;exact h;rename_i w p _;split;exact h;rename_i t _;refine vK ?_;let⟨_,_,_,_,e,_⟩:=dE w p s t.ln;rw[e];exact aax _ h
def GP(c:ii R zs)(O:AsOk R z zs s)(b:s.fm=.comp w p)(a:s.tn<p.length):(ae p s).1∈zs:=by refine(c s.n w p (O.fm.symm.trans b)).2.2.2 _ ?_;show p.getD s.tn "" ∈p;rw[ab5,abU a];exact aaL a
theorem vL(c:ii R zs):∀{f:Nat}{s:As},AsOk R z zs s->AsOk R z zs (cJ R z f s)|0,_,h=>h|f+1,s,O=>by unfold cJ;split;exact O;rename_i hd;have b:s.dn=false:=acB.mpr hd;split;exact O;rename_i w p e;split;exact O;rename_i t g;let⟨i,j,a,d⟩:=O.tn b;rw[e]at a;cases a;exact vL c (lg c O b e λl q=>(nX c (GP c O e d) O.tz g).ln l q)
def eM(R:Rls)(z:Str)(f:Nat)(q:Sp2):↥Sp2:=(cJ R z f (bC R z q.1 q.2)).st
abbrev Kp:=↥(Sp2×Res)
variable{K es:Kp}
def hV(s:Sp2):↥Key:=[.inr s.1,.inl s.2]
def lsD(ls:↥Str):D:=.dct (ls.map .inr) (ls.map λ_=>.bl true)
def xF(k:Nat)(t:Res):D:=.tup [cH t.ln,.int ((t.far:Int) - (k:Int)+1),lsD t.ls]
abbrev lh(K:Kp):↥↥Key:=K.map λe=>hV e.1
abbrev lA(K:Kp):↥D:=K.map λe=>xF e.1.2 e.2
def iB{s t:Sp2}(h:hV s=hV t):s=t:=by let⟨a,b⟩:=s;let⟨c,d⟩:=t;have h1:=List.cons.inj h;have h2:=List.cons.inj h1.2;have f:a=c:=abg h1.1;have e:(b:Int)=(d:Int):=Sum.inl.inj h2.1;rw[f,Int.ofNat.inj e]
def li{s:Sp2}:rA (lh K) (hV s)=true↔s∈K.map (·.1):=by unfold rA;rw[aaM];constructor;rintro⟨x,b,h⟩;let⟨e,a,rfl⟩:=abZ.mp b;exact abZ.mpr {e,a,iB (of_decide_eq_true h)};intro h;let⟨e,a,rfl⟩:=abZ.mp h;exact{_,abZ.mpr {(e),a,rfl},decide_eq_true rfl}
theorem gN:∀{K:Kp}{e:Sp2×Res},(K.map (·.1)).Nodup->e∈K->cF (lh K) (lA K) (hV e.1)=!(xF e.1.2 e.2)|[],_,_,h=>nomatch h|x::K,e,nd,h=>by have a:=ab4.mp nd;unfold cF lh lA;rw[ab1,ab1,acC,acA];rcases ab2.mp h with q|q;rw[q];simp;have:decide (hV x.1=hV e.1)=false:=decide_eq_false λz=>a.1 (abZ.mpr {e,q,(iB z).symm});simp only[this];exact gN a.2 q
def cv(k:Nat)(es:Kp):Nat:=es.foldl (λm e=>max m e.2.far) k
def mD(ls:↥Str)(es:Kp):↥Str:=es.foldl (λl e=>ng l e.2.ls) ls
theorem c5{ks:↥↥Key}{k:↥Key}(h:cF ks ds k=!d)(q:Q d):match cF ks ds k with|some d=>Q d|none=>False:=by rw [h];exact q
def kh(h:es[i]?=!e):cv k (es.take (i+1))=max (cv k (es.take i)) e.2.far:=by unfold cv;rw[aaq,h,abq];rfl
def vM(h:es[i]?=!e):mD ls (es.take (i+1))=ng (mD ls (es.take i)) e.2.ls:=by unfold mD;rw[aaq,h,abq];rfl
theorem vN:∀{ms ls:↥Str},Gs (ls.map Sum.inr) (ls.map λ_=>D.bl true) (ms.map Sum.inr) (ms.map λ_=>D.bl true)=((ng ls ms).map Sum.inr,(ng ls ms).map λ_=>D.bl true)|[],ls=>rfl|m::ms,ls=>by have e:jc (ls.map Sum.inr) (ls.map λ_=>D.bl true) (Sum.inr m) (.bl true)=((if m∈ls then ls else ls++[m]).map Sum.inr,(if m∈ls then ls else ls++[m]).map λ_=>D.bl true):=by{have b:((ls.map Sum.inr:↥Key).any λx=>decide (x=Sum.inr m))=true↔m∈ls:=by{rw[aaM];constructor;rintro⟨x,f,h⟩;let⟨y,d,rfl⟩:=abZ.mp f;exact abg (of_decide_eq_true h) ▸ d;intro h;exact{_,abZ.mpr {(m),h,rfl},decide_eq_true rfl}};unfold jc;by_cases h:m∈ls;rw[if_pos (b.mpr h),if_pos h];congr 1;clear b h;induction ls with|nil=>rfl|cons a ls c=>{simp only[List.map_cons,List.zip_cons_cons];rw[c];congr 1;split<;>rfl};rw[if_neg (λz=>h (b.mp z)),if_neg h,aae,aae];rfl};show Gs (jc (ls.map Sum.inr) (ls.map λ_=>D.bl true) (Sum.inr m) (.bl true)).1 (jc (ls.map Sum.inr) (ls.map λ_=>D.bl true) (Sum.inr m) (.bl true)).2 (ms.map Sum.inr) (ms.map λ_=>D.bl true)=_;rw[e];exact vN
@[irreducible] def fT:Ct:=λos P=>∃(a b:Addr)(s:As)(K es:Kp)(m:Nat),os=[.ob (asA a b s),.ft (lh K) (lA K)]/\(K.map (·.1)).Nodup/\s.st=es.map (·.1)/\(∀e∈es,e∈K/\e.1.2<=e.2.far)/\(∀i,(mD [s.n] (es.take i)).length<=m)/\(∀e∈es,e.2.ls.length<=m)/\m+m<=sizeLine/\ P (.fz (xF s.k {s.ln,cv s.k es,mD [s.n] es})) [.ob {a,0,[.fz (rlD s.fm),.fz (.str s.n),.fz (.int s.k),.fz (.int s.t),.fz (.int s.tn),.fz (.lst (s.st.map aG)),.fz (.bl s.dn),.fz (cH s.ln)]},.ft (lh K) (lA K)]
abbrev vO:Stmt:=top 40
abbrev GQ:FS:=(am (bS (ie 0 0 2) (ac 2)) (am (cn 3 (vg (ie 0 0 1) (fC (.bl true)))) (am (kJ (bW (zK 0 0 5)) (ac 4) (am (bS (fOp aIx (ab 1) (ab 4)) (i6 3 (aV (ac 5) (aV (ac 6) (aV (ac 7) i5))))) (am (bS (fCB MT (aa (ab 2) (aa (fOp (aI0 λi j=>.int (i - j)) (fOp dW (fOp aIx (ab 4) (fC (.int 1))) (ab 6)) (fC (.int 1))) af))) (ac 2)) (bR (Pk 3 (ab 7)))))) (bc (fL (aa (ie 0 0 7) (aa (fOp dW (fOp (aI0 λi j=>.int (i - j)) (ab 2) (ie 0 0 2)) (fC (.int 1))) (aa (ab 3) af))))))))
def GR:Hh fT GQ [0,1] 8:=by intro os P h;unfold fT at h;refine ex6 h ?_;clear h;rintro a b s K es m ⟨rfl,nd,f,u,g,r,z,q⟩;let⟨fm,n,k,t,tn,st,dn,ln⟩:=s;simp only at f g;subst f;have sz:=dZ;ext;rw[aar];refine bf (λi ρ=>∃p o l j:Option OV,ρ=[!(.ob {a,0,[.fz (rlD fm),.fz (.str n),.fz (.int k),.fz (.int t),.fz (.int tn),.fz (.lst (es.map (aG ∘ λx=>x.1))),.fz (.bl dn),.fz (cH ln)]}),!(.ft (lh K) (lA K)),!(.fz (.int (cv k (es.take i)))),!(.fd ((mD [n] (es.take i)).map Sum.inr) ((mD [n] (es.take i)).map λ_=>.bl true)),p,o,l,j]) {none,none,none,none,?_} ?_ ?_;rfl;rintro i d ρ R hd ⟨p,o,l,j,rfl⟩ v;rw[abW]at hd;cases c:es[i]? with|none=>rw [c]at hd;cases hd|some e=>{rw[c]at hd;cases hd;have w:=u e (abX c);have h1:=g i;have h2:=r e (abX c);revert(c5 (gN nd w.1) ?_){rfl,?_}{rfl,?_};ext;rw[abR,abR];refine{(),?_};rw[vN,←vM c];have y:(if ((e.1.2:Int)+((e.2.far:Int) - (e.1.2:Int)+1) - 1)>(cv k (es.take i):Int) then ((e.1.2:Int)+((e.2.far:Int) - (e.1.2:Int)+1) - 1) else (cv k (es.take i):Int))=((cv k (es.take (i+1)):Nat):Int):=by{rw[kh c];split<;>nofun};refine v _ {!(.fz (aG e.1)),!(.fz (cH e.2.ln)),!(.fz (.int ((e.2.far:Int) - (e.1.2:Int)+1))),!(.fz (lsD e.2.ls)),?_};rw[←y];rfl};rintro ρ ⟨p,o,l,j,rfl⟩;rw[abR,aah (aab _)];revert{(by rw[sizeLine_eq];exact(by decide:(3:Nat)<=16777216)),?_};ext;rw[aar]at q;exact q
def AH{a b:Addr}(nd:(K.map (·.1)).Nodup)(h1:s.st=es.map (·.1))(h2:∀e∈es,e∈K/\e.1.2<=e.2.far)(f:∀i,(mD [s.n] (es.take i)).length<=m)(d:∀e∈es,e.2.ls.length<=m)(c:m+m<=sizeLine)(h:P (.fz (xF s.k {s.ln,cv s.k es,mD [s.n] es})) [.ob {a,0,[.fz (rlD s.fm),.fz (.str s.n),.fz (.int s.k),.fz (.int s.t),.fz (.int s.tn),.fz (.lst (s.st.map aG)),.fz (.bl s.dn),.fz (cH s.ln)]},.ft (lh K) (lA K)]):fT [.ob (asA a b s),.ft (lh K) (lA K)] P:=by unfold fT;exact{(a),b,s,K,es,m,rfl,nd,h1,h2,f,d,c,h}
def Tf:Nat->Nat|0=>0|f+1=>2*Tf f+3
def GS(h:f<=g):Tf f<=Tf g:=by induction h with|refl=>exact aab _|@step m _ a=>show Tf f<=2*Tf m+3;nofun
structure Lst(R:Rls)(z:Str)(q:Sp2)(g:Nat)(r:Res):Prop where
 rd:rdF R z g q.1 q.2=!r
 lo:∀f t,rdF R z f q.1 q.2=!t->g<=f
def Cu:∀{f:Nat}{q:Sp2}{r:Res},rdF R z f q.1 q.2=!r->∃g,g<=f/\Lst R z q g r:=by intro f;induction f with|zero=>intro q r e;cases e|succ f a=>intro q r e;cases h:rdF R z f q.1 q.2 with|some t=>let⟨g,c,L⟩:=a h;have:t=r:=hU h e;exact{g,(),this ▸ L}|none=>refine{f+1,aab _,e,λb t h'=>?_};cases Nat.lt_or_ge f b with|inl y=>exact y|inr y=>rw[show rdF R z f q.1 q.2=↑t from nV y h']at h;cases h
def Lu(L:Lst R z q g r)(a:Lst R z q g' r'):g=g':=by have:=L.lo _ _ a.rd;have:=a.lo _ _ L.rd;nofun
structure KpOk(R:Rls)(z:Str)(zs:↥Str)(K:Kp):Prop where
 nd:(K.map (·.1)).Nodup
 ok:∀e∈K,e.1.1∈zs/\e.1.2<=z.length/\∃f,rdF R z f e.1.1 e.1.2=!e.2
 cl:∀e∈K,∀f,rdF R z f e.1.1 e.1.2=!e.2->∀q∈eM R z f e.1,q∈K.map (·.1)
def KpOk.res(O:KpOk R z zs K)(a:ii R zs)(h:e∈K):ResOk z zs e.1.2 e.2:=by let⟨h1,h2,f,b⟩:=O.ok e h;exact nX a h1 h2 b
theorem pM(m:Nat):∀zs:↥Str,(zs.flatMap λn=>(List.range m).map λk=>(n,k)).length=zs.length*m|[]=>by simp|n::zs=>by rw[List.flatMap_cons,aag,pM m zs,abR,acz,ab6,Nat.succ_mul,Nat.add_comm]
def KpOk.len(O:KpOk R z zs K):K.length<=zs.length*(z.length+1):=by have h:(K.map (·.1)).length<=(zs.flatMap λn=>(List.range (z.length+1)).map λk=>(n,k)).length:=by{refine aas O.nd λq a=>?_;let⟨e,b,rfl⟩:=abZ.mp a;let⟨h1,h2,_⟩:=O.ok e b;exact List.mem_flatMap.mpr {e.1.1,h1,abZ.mpr {e.1.2,acw.mpr (),rfl}}};rw[abR]at h;rw[pM]at h;exact h
structure Frm(R:Rls)(z:Str)(zs:↥Str)(K:Kp)(s:As)(f g far:Nat)(ls:↥Str)(r:Res):Prop where
 go:goF R z f s far ls=!r
 ok:AsOk R z zs s
 acc:∃es:Kp,s.st=es.map (·.1)/\(∀e∈es,e∈K)/\far=cv s.k es/\ls=mD [s.n] es
 lst:Lst R z (s.n,s.k) g r
 fg:f<=g
 nw:(s.n,s.k)∉K.map (·.1)
 en:cJ R z f s=cJ R z g (bC R z s.n s.k)
inductive Wait(R:Rls)(z:Str)(zs:↥Str)(K:Kp)(root:Sp2)(G:Nat):Sp2->Nat->↥As->Nat->Prop where
 |nil {g:Nat}:g<=G->Wait R z zs K root G root g [] 0
 |cons {s:As} {f g gs far m:Nat} {ls:↥Str} {r:Res} {w:Str} {p:↥Str} {rest:↥As}:Frm R z zs K s (f+1) gs far ls r->s.dn=false->s.fm=.comp w p->g<=f->Wait R z zs K root G (s.n,s.k) gs rest m->Wait R z zs K root G (ae p s) g (s::rest) (Tf f+2+m)
def Wait.len{l:↥As}(h:Wait R z zs K root G q g l m):l.length+g<=G:=by induction h with|nil h=>rw[abQ];nofun|cons F _ _ b _ a=>have:=F.fg;rw[ab6];nofun
def Frm.more(F:Frm R z zs K s f g far ls r)(h:e.1≠(s.n,s.k)):Frm R z zs (K++[e]) s f g far ls r:=by let⟨es,h1,h2,b⟩:=F.acc;refine{F.go,F.ok,{es,h1,λx a=>aax _ (h2 x a),b},F.lst,F.fg,λy=>?_,F.en};rw[aae]at y;rcases abS.mp y with y|y;exact F.nw y;exact h (abY.mp y).symm
def Wait.more{l:↥As}(L:Lst R z e.1 g' r')(h:Wait R z zs K root G q g l m):g'<=g->Wait R z zs (K++[e]) root G q g l m:=by induction h with|nil h=>exact λ_=>.nil h|cons F hd d c _ a=>intro b;have:=F.fg;refine .cons (F.more λy=>?_) hd d c (a ());have:=Lu (y ▸ L) F.lst;nofun
theorem vP{zs:↥Str}:∀{es:Kp}{ls:↥Str},ls.Nodup->(∀x∈ls,x∈zs)->(∀e∈es,∀x∈e.2.ls,x∈zs)->(mD ls es).Nodup/\∀x∈mD ls es,x∈zs|[],_,h1,h2,_=>{(h1),h2}|e::es,ls,h1,h2,a=>vP (es:=es) (ls:=ng ls e.2.ls) (nW h1) (λx b=>(fB.mp b).elim (h2 x) (a e (aac ..) x)) λd c=>a d (aad _ c)
def vQ:cv k (es++[e])=max (cv k es) e.2.far:=by unfold cv;rw[abq];rfl
def AI:mD ls (es++[e])=ng (mD ls es) e.2.ls:=by unfold mD;rw[abq];rfl
def Frm.take(m:ii R zs)(n:KpOk R z zs K)(F:Frm R z zs K s (f+1) g far ls r)(hd:s.dn=false)(d:s.fm=.comp w p)(i:e∈K)(j:e.1=ae p s):Frm R z zs K (bg w p s e.2.ln) f g (max far e.2.far) (ng ls e.2.ls) r/\(bg w p s e.2.ln).n=s.n/\(bg w p s e.2.ln).k=s.k:=by let⟨D,E,t,b,k,a⟩:=ig hd F.go;rw[d]at b;cases b;let⟨_,_,G,c⟩:=n.ok e i;rw[j]at c;have B:t=e.2:=hU k c;subst B;have T:=n.res m i;have ok:=lg (x:=e.2.ln) m F.ok hd d λl q=>by{have:=T.ln l q;rw[j]at this;exact this};let⟨es,h1,h2,c,A⟩:=F.acc;let⟨t',o,C,u,q,_⟩:=dE w p s e.2.ln;have en:=F.en;rw[gm hd d k]at en;rw[q]at ok a en ⊢;exact{{a,ok,{es++[e],by rw[aae,h1,←j];rfl,λx v=>(abS.mp v).elim (h2 x) λy=>by rw[abY.mp y];exact i,by rw[vQ,c],by rw[AI,A]},F.lst,by have:=F.fg;nofun,F.nw,en},rfl,rfl}
def Ou(R:Rls)(z:Str)(zs:↥Str)(K:Kp)(root:Sp2)(G:Nat)(ss:↥(Addr×Addr×As))(m:Nat):Prop:=(ss=[]/\root∈K.map (·.1))∨∃a b s rest f g far ls r c mw,ss=(a,b,s)::rest/\Frm R z zs K s f g far ls r/\Wait R z zs K root G (s.n,s.k) g (rest.map (·.2.2)) mw/\(Tf f<=c∨∃d w p,f=d+1/\s.dn=false/\s.fm=.comp w p/\ae p s∈K.map (·.1)/\Tf d+1<=c)/\c+mw<=m
def Wait.stk{ss:↥(Addr×Addr×As)}(h:Wait R z zs K root G q g (ss.map (·.2.2)) m)(c:q∈K.map (·.1)):Ou R z zs K root G ss m:=by cases ss with|nil=>cases h;exact .inl {(rfl),c}|cons t ss=>let⟨a,b,s⟩:=t;cases h with|@cons _ f g gs far m ls r w p rest F hd d e W=>exact .inr {a,b,s,ss,f+1,gs,far,ls,r,Tf f+2,m,rfl,F,W,.inr {f,w,p,rfl,hd,d,c,()},aab _}
def AJ(h:e.1∉K.map (·.1)):ml (lh K) (lA K) (hV e.1) (xF e.1.2 e.2)=(lh (K++[e]),lA (K++[e])):=by unfold ml;rw[if_neg (λy=>h (li.mp y))];unfold lh lA;rw[aae,aae];rfl
def gn(ks:↥Key)(ds:↥D)(R:Rls):Prop:=∀n,(gY ks ds (.inr n)).getD .non=rlD (R n)
structure MkOk(R:Rls)(z:Str)(zs:↥Str)(n:Str)(k f:Nat):Prop where
 r:ii R zs
 n:n∈zs
 k:k<=z.length
 l:z.length+20<=sizeLine
 s:zs.length*(z.length+1)<sizeLine
 m:zs.length+zs.length<=sizeLine
 f:f<sizeLine
abbrev cw(ks:↥Key)(ds:↥D):OV:=.fz (.dct ks ds)
abbrev nY(K:Kp):OV:=.ft (lh K) (lA K)
@[irreducible] def jo:Ct:=λos P=>∃(ks:↥Key)(ds:↥D)(R:Rls)(z n:Str)(zs:↥Str)(k f:Nat)(K:Kp)(r:Res),os=[cw ks ds,.fz (.str z),nY K,.fz (.str n),.fz (.int k)]/\gn ks ds R/\MkOk R z zs n k f/\KpOk R z zs K/\rdF R z f n k=↑r/\ ∀K':Kp,KpOk R z zs (K++K')->((n,k),r)∈K++K'->P (.fl (K'.map λe=>aG e.1)) [cw ks ds,.fz (.str z),nY (K++K'),.fz (.str n),.fz (.int k)]
def jp(g:gn ks ds R)(f:ii R zs)(d:k<=z.length)(c:z.length<=sizeLine)(h:∀a b,P (.ob (asA a b (bC R z n k))) [.fz (.dct ks ds),.fz (.str z),.fz (.str n),.fz (.int k)]):ef [.fz (.dct ks ds),.fz (.str z),.fz (.str n),.fz (.int k)] P:=by have e:=g n;unfold ef;refine{ks,ds,z,n,k,rfl,d,c,?_};unfold bC at h;cases hr:R n with|leaf l=>rw[hr]at e h;exact .inl {l,e,λa b=>by rw[GK];exact h a b}|comp w p=>rw[hr]at e h;let⟨h1,h2,i,_⟩:=f n w p hr;exact .inr {w,p,e,h1,λy=>by rw[y]at h2;simp at h2,i,h}
abbrev Cv:Stmt:=top 41
abbrev Lv:FS:=(am (cn 5 (i4 af)) (am (fIf (av (fOp aIn (fL (aa (ab 3) (aa (ab 4) af))) (ab 2))) (bc (ab 5)) aB) (am (cn 6 (K3 (al ef (aa (fFz (ab 0)) (aa (fFz (ab 1)) (aa (fFz (ab 3)) (aa (fFz (ab 4)) af))))))) (am (i9 (av (fOp (ir (λi j=>decide (j<i)) λi j=>aY j i) (zL 6) (fC (.int 0)))) (K4 6 7 (am (va 6 7 (cn 7 (pr 6))) (am (fIf (Ce (ie 0 7 6)) (am (pB 2 (al fT (aa (ab 7) (aa (ab 2) af))) (fL (aa (ie 0 7 1) (aa (ie 0 7 2) af)))) (am (bR (sh 5 (fL (aa (ie 0 7 1) (aa (ie 0 7 2) af))))) (am (bR (Ga 6)) Kb))) aB) (am (bS (eJ "wanted" 0 7 a7 af) (ac 8)) (fIf (av (fOp aIn (ab 8) (ab 2))) (bR (eJ "take" 0 7 bU (aa (fFz (fOp aIx (fOp aIx (ab 2) (ab 8)) (fC (.int 0)))) af))) (va 6 7 (bR (zN 6 (al ef (aa (fFz (ab 0)) (aa (fFz (ab 1)) (aa (fFz (fOp aIx (ab 8) (fC (.int 0)))) (aa (fFz (fOp aIx (ab 8) (fC (.int 1)))) af)))))))))))))) (bc (ab 5))))))
def Lw:Hh jo Lv [2] 9:=by
 intro os P h;unfold jo at h;refine ex10 h ?_;clear h;rintro ks ds R z n zs k f K r ⟨rfl,hD,M,hK,hr,q⟩;have s2:2<=sizeLine:=by rw[sizeLine_eq];decide
 have hzz:=M.l;let⟨G,hG,L⟩:=Cu (q:=(n,k)) hr;revert{aan _,?_} aA{s2,?_}(ao ((n,k)∈K.map (·.1)) (li (s:=(n,k))) (λv=>?_) (λU=>?_))
 .ext;let⟨e,j,O⟩:=abZ.mp v
  have hq:=q [] (by rw[aaw];exact hK) (by
   rw[aaw];let⟨_,_,o,h'⟩:=hK.ok e j;rw[O]at h';have:e.2=r:=hU h' hr;have N:e=((n,k),r):=by rw[←O,←this]
   exact N ▸ j)
  rw[aaw]at hq;exact hq
 revert(jp hD M.r M.k () λa b=>?_)(dG (λm ρ=>∃(K':Kp)(ss:↥(Addr×Addr×As))(Q H:Option OV),ρ=[!(cw ks ds),!(.fz (.str z)),!(nY (K++K')),!(.fz (.str n)),!(.fz (.int k)),!(.fl (K'.map λe=>aG e.1)),!(.obs (ss.map λt=>asA t.1 t.2.1 t.2.2)),Q,H]/\KpOk R z zs (K++K')/\Ou R z zs (K++K') (n,k) G ss m) (Tf G) ?_ ?_)
 .refine{[],[(a,b,bC R z n k)],none,none,?_,?_,.inr {a,b,bC R z n k,[],G,G,k,[n],r,Tf G,0,rfl,?_,?_,.inl (aab _),aab _}}
  .rw[aaw];rfl
  .rw[aaw];exact hK
  .rw[aaw];exact{L.rd,jn M.r M.n M.k,{[],cu.2.2,(λ_ y=>nomatch y),cu.2.1.symm,by rw[cu.1];rfl},by rw[cu.1,cu.2.1];exact L,aab _,by rw[cu.1,cu.2.1];exact U,by rw[cu.1,cu.2.1]}
  .rw[cu.1,cu.2.1];exact .nil (aab _)
 rintro m ρ Rr ⟨K',ss,Q,H,rfl,d,S⟩ kk;have on:∀(K2:Kp)(ss:↥(Addr×Addr×As))(Q H:Option OV)(m':Nat),m'<m->KpOk R z zs (K++K2)->Ou R z zs (K++K2) (n,k) G ss m'->Rr [!(cw ks ds),!(.fz (.str z)),!(nY (K++K2)),!(.fz (.str n)),!(.fz (.int k)),!(.fl (K2.map λe=>aG e.1)),!(.obs (ss.map λt=>asA t.1 t.2.1 t.2.2)),Q,H]:=λK2 ss Q H m' h1 h2 h3=>kk m' _ h1 {(K2),ss,Q,H,rfl,h2,h3};have hKl:=d.len;have hms:=M.s;have hmm:=M.m;rcases S with ⟨rfl,v⟩|⟨a,b,s,rest,o,g,far,ls,B,c,mw,rfl,F,W,hc,hm⟩
 .revert(ao _ decide_eq_true_iff (λh=>absurd h (show ¬(0:Int)<((0:Nat):Int) by decide)) (λ_=>?_));ext;let⟨e,j,O⟩:=abZ.mp v;refine q K' d ?_;let⟨_,_,o,h'⟩:=d.ok e j;rw[O]at h';have:e.2=r:=hU h' hr;have N:e=((n,k),r):=by rw[←O,←this]
  exact N ▸ j
 .revert(ao _ decide_eq_true_iff (λ_=>?_) (λh=>absurd (show (0:Int)<((_+1:Nat):Int)from ()) h)) aA(ao (s.dn=true) Iff.rfl (λhd=>?_) (λhd=>?_))
  .let⟨es,h1,h2,h3,h4⟩:=F.acc
   have hrr:B={(s.ln),far,ls}:=by
    have g:=F.go
    cases o with
    |zero=>cases g
    |succ o=>rw[fS hd]at g;exact(aak g).symm
   have D:∀e∈es,ResOk z zs e.1.2 e.2:=λe j=>d.res M.r (h2 e j);have sm:∀l:↥Str,l.Nodup->(∀x∈l,x∈zs)->l.length<=zs.length:=λl a b=>aas a b
   have Z:KpOk R z zs (K++K'++[((s.n,s.k),B)]):={by
    rw[aae];exact ace.mpr {d.nd,by simp,λx I y hy e=>F.nw (by have N:x=(s.n,s.k):=e.trans (abY.mp hy);rw[←N];exact I)},λe j=>by
    rcases abS.mp j with y|y
    .exact d.ok e y
    .rw[abY.mp y];exact{F.ok.nz,aao F.ok.kt F.ok.tz,g,F.lst.rd},λe j f3 J x I=>by
    rw[aae];refine aax _ ?_;rcases abS.mp j with y|y
    .exact d.cl e y f3 J x I
    .rw[abY.mp y]at J I;have en:=F.en;rw[eY hd]at en;unfold eM at I;rw[Ls J F.lst.rd,←en,h1]at I;let⟨e',he',rfl⟩:=abZ.mp I;exact abZ.mpr {e',h2 e' he',rfl}}
   have ep:ml (lh (K++K')) (lA (K++K')) [.inr s.n,.inl (s.k:Int)] (xF s.k {s.ln,cv s.k es,mD [s.n] es})=(lh (K++K'++[((s.n,s.k),B)]),lA (K++K'++[((s.n,s.k),B)])):=by
    rw[hrr,h3,h4];exact AJ (e:=((s.n,s.k),{s.ln,cv s.k es,mD [s.n] es})) F.nw
   have W2:=W.more (e:=((s.n,s.k),B)) F.lst (aab _);revert(AH (s:=s) (K:=K++K') (es:=es) (m:=zs.length) d.nd h1 (λe j=>{h2 e j,(D e j).kf}) (λi=>?_) (λe j=>sm _ (D e j).nd (D e j).sub) hmm ?_)
   .have:=vP (zs:=zs) (es:=es.take i) (ls:=[s.n]) (by simp) (by simpa using F.ok.nz) λe j=>(D e (abb j)).sub;exact sm _ this.1 this.2
   revert{rfl,?_}{s2,?_};ext;rw[abR];refine{(),?_};rw[ep];revert{rfl,?_}{s2,?_};ext;rw[abR];refine{by rw[aag]at hKl;nofun,?_};ext;have eK:K++K'++[((s.n,s.k),B)]=K++(K'++[((s.n,s.k),B)]):=aay ..;rw[eK]at Z W2
   have u:mw<m:=by
    rcases hc with y|⟨_,_,_,_,y,_⟩
    .have g:=F.go
     cases o with
     |zero=>cases g
     |succ o=>have:Tf (o+1)=2*Tf o+3:=rfl;nofun
    .rw[hd]at y;cases y
   have fin:=on (K'++[((s.n,s.k),B)]) rest ↑(.ob {a,0,[.fz (rlD s.fm),.fz (.str s.n),.fz (.int s.k),.fz (.int s.t),.fz (.int s.tn),.fz (.lst (s.st.map aG)),.fz (.bl s.dn),.fz (cH s.ln)]}) H mw u Z (W2.stk (by
    rw[←eK,aae];exact aal _ (aac ..)))
   rw[←eK,aae]at fin;exact fin
  .have A:s.dn=false:=acB.mpr hd;let⟨w,p,E,C⟩:=F.ok.tn A;have T:=(M.r s.n w p (F.ok.fm.symm.trans E)).2.2.1;let⟨es,h1,h2,h3,h4⟩:=F.acc
   have hst:s.st.length<sizeLine:=by
    have h5:=F.ok.st;have h6:=F.ok.t8;have h7:=F.ok.tz;rw[A,if_neg (by decide)]at h5;nofun
   obtain⟨f2,N⟩:∃f2,o=f2+1:=by
    have g:=F.go
    cases o with
    |zero=>cases g
    |succ o=>exact{(o),rfl}
   subst N;let⟨w',p',t,Y,ht,hgo⟩:=ig A F.go;rw[E]at Y;cases Y;revert(.mk (s:=s) E C T ?_) aA(ao (ae p s∈(K++K').map (·.1)) (li (s:=ae p s)) (λv=>?_) (λV=>?_))
   .let⟨e,j,O⟩:=abZ.mp v;have e1':e.1=ae p s:=O;let⟨F2,n2,k2⟩:=F.take M.r d A E j e1'
    have u:Tf f2+mw<m:=by
     have:Tf (f2+1)=2*Tf f2+3:=rfl;rcases hc with y|⟨f3,_,_,y,_,_,_,y2⟩
     .nofun
     .cases y;nofun
    revert(c5 (show cF (lh (K++K')) (lA (K++K')) [.inr (ae p s).1,.inl ((ae p s).2:Int)]=↑(xF e.1.2 e.2)from e1' ▸ gN d.nd j) ?_)(.mk (s:=s) E C T F.ok.kt hst ?_){rfl,?_};exact on K' ((a,b,bg w p s e.2.ln)::rest) none ↑(.fz (aG (ae p s))) (Tf f2+mw) u d (.inr {a,b,_,rest,f2,g,_,_,B,Tf f2,mw,rfl,F2,by rw[n2,k2];exact W,.inl (aab _),aab _})
   .let⟨g2,X,L2⟩:=Cu (q:=ae p s) ht
    have hw:(ae p s).1∈zs:=by
     refine(M.r s.n w p (F.ok.fm.symm.trans E)).2.2.2 _ ?_;show p.getD s.tn "" ∈p;rw[ab5,abU C];exact aaL C
    have u:Tf g2+(Tf f2+2+mw)<m:=by
     have:Tf (f2+1)=2*Tf f2+3:=rfl;have:=GS X;rcases hc with y|⟨f3,w',p',_,_,y,y2,_⟩
     .nofun
     .rw[E]at y;cases y;exact absurd y2 V
    have hl:=W.len;have hfg:=F.fg;have hff:=M.f;revert{rfl,?_}(jp hD M.r F.ok.tz () λa2 b2=>?_);ext;rw[abR]at hl;refine{by rw[ab6,abR];nofun,?_};revert(on K' ((a2,b2,bC R z (ae p s).1 (ae p s).2)::(a,b,s)::rest) none ↑(.fz (aG (ae p s))) _ u d (.inr {a2,b2,_,(a,b,s)::rest,g2,g2,_,_,t,Tf g2,Tf f2+2+mw,rfl,{L2.rd,jn M.r hw F.ok.tz,{[],cu.2.2,(λ_ y=>nomatch y),cu.2.1.symm,by rw[cu.1];rfl},by rw[cu.1,cu.2.1];exact L2,aab _,by rw[cu.1,cu.2.1];exact V,by rw[cu.1,cu.2.1]},by rw[cu.1,cu.2.1];exact .cons F A E X W,.inl (aab _),aab _}))
def GT(b:gn ks ds R)(M:MkOk R z zs n k f)(a:KpOk R z zs K)(hr:rdF R z f n k=!r)(h:∀K':Kp,KpOk R z zs (K++K')->((n,k),r)∈K++K'->P (.fl (K'.map λe=>aG e.1)) [cw ks ds,.fz (.str z),nY (K++K'),.fz (.str n),.fz (.int k)]):jo [cw ks ds,.fz (.str z),nY K,.fz (.str n),.fz (.int k)] P:=by unfold jo;exact{(ks),ds,R,z,n,zs,k,f,K,r,rfl,b,M,a,hr,h}
abbrev ij(K:Kp):OV:=.fz (.dt (lh K) (lA K))
@[irreducible] def bJ:Ct:=λos P=>∃(ks:↥Key)(ds:↥D)(R:Rls)(z n:Str)(zs:↥Str)(k f:Nat)(K:Kp)(r:Res),os=[cw ks ds,.fz (.str z),ij K,.fz (.str n),.fz (.int k)]/\gn ks ds R/\MkOk R z zs n k f/\KpOk R z zs K/\rdF R z f n k=!r/\((n,k),r)∈K/\ ∀a b,P (.ob (asA a b (cJ R z f (bC R z n k)))) os
abbrev Cw:Stmt:=top 42
abbrev Lx:FS:=(am (cn 5 (al ef (aa (fFz (ab 0)) (aa (fFz (ab 1)) (aa (fFz (ab 3)) (aa (fFz (ab 4)) af)))))) (am (i9 (iq (Ce (ie 0 5 6))) (bR (eJ "take" 0 5 bU (aa (fFz (fOp aIx (fOp aIx (ab 2) (eJ "wanted" 0 5 a7 af)) (fC (.int 0)))) af)))) (bc (ab 5))))
def Ly:Hh bJ Lx [] 6:=by intro os P h;unfold bJ at h;refine ex10 h ?_;clear h;rintro ks ds R z n zs k f K r ⟨rfl,N,M,A,hr,C,q⟩;have J:=M.l;have F:=A.cl _ C f hr;revert(jp N M.r M.k () λa b=>?_)(dG (λm ρ=>∃(s:As)(far:Nat)(ls:↥Str),ρ=[!(cw ks ds),!(.fz (.str z)),!(ij K),!(.fz (.str n)),!(.fz (.int k)),!(.ob (asA a b s))]/\AsOk R z zs s/\goF R z m s far ls=!r/\cJ R z m s=cJ R z f (bC R z n k)) f {bC R z n k,k,[n],rfl,jn M.r M.n M.k,hr,rfl} ?_);rintro m ρ Z ⟨s,far,ls,rfl,O,u,en⟩ I;revert(ao (s.dn=false) (by cases s.dn<;>decide) (λhd=>?_) (λhd=>?_));obtain⟨g,rfl⟩:∃g,m=g+1:=by{cases m with|zero=>cases u|succ g=>exact{(g),rfl}};let⟨w,p,t,d,G,o⟩:=ig hd u;let⟨U,V,v,i⟩:=O.tn hd;rw[d]at v;cases v;have j:=(M.r s.n w p (O.fm.symm.trans d)).2.2.1;have B:s.st.length<sizeLine:=by{have Q:=O.st;have X:=O.t8;have W:=O.tz;rw[hd,if_neg (by decide)]at Q;nofun};rw[gm hd d G]at en;have L:ae p s∈K.map (·.1):=by{refine F _ ?_;unfold eM;show ae p s∈(cJ R z f (bC R z n k)).st;rw[←en];refine vK ?_;let⟨_,_,_,_,e,_⟩:=dE w p s t.ln;rw[e];exact aal _ (aac ..)};let⟨e,D,S⟩:=abZ.mp L;have c:e.1=ae p s:=S;let⟨_,_,Y,x⟩:=A.ok e D;rw[c]at x;have H:e.2=t:=hU x G;have T:=A.res M.r D;revert(.mk (s:=s) d i j ?_)(c5 (show cF (lh K) (lA K) [.inr (ae p s).1,.inl ((ae p s).2:Int)]=↑(xF e.1.2 e.2)from c ▸ gN A.nd D) ?_)(.mk (s:=s) d i j O.kt B ?_);ext;rw[H];refine I g _ (aaz _) {bg w p s t.ln,_,_,rfl,lg M.r O hd d λl y=>?_,o,en};have:=T.ln l (H ▸ y);rw[c]at this;exact this;have E:s.dn=true:=by{cases h:s.dn with|true=>rfl|false=>exact absurd h hd};ext;rw[eY E]at en;rw[en];exact q a b
def GU(e:gn ks ds R)(M:MkOk R z zs n k f)(d:KpOk R z zs K)(hr:rdF R z f n k=!r)(c:((n,k),r)∈K)(h:∀a b,P (.ob (asA a b (cJ R z f (bC R z n k)))) [cw ks ds,.fz (.str z),ij K,.fz (.str n),.fz (.int k)]):bJ [cw ks ds,.fz (.str z),ij K,.fz (.str n),.fz (.int k)] P:=by unfold bJ;exact{(ks),ds,R,z,n,zs,k,f,K,r,rfl,e,M,d,hr,c,h}
def bG:↥Sp2->↥Sp2->↥Sp2|ls,[]=>ls|ls,m::a=>bG (if m∈ls then ls else ls++[m]) a
def ki{ls st:↥Sp2}(h:st[i]?=!q):bG ls (st.take (i+1))=if q∈bG ls (st.take i) then bG ls (st.take i) else bG ls (st.take i)++[q]:=by induction st generalizing ls i with|nil=>cases h|cons m st a=>cases i with|zero=>cases h;rfl|succ i=>exact a h
theorem jq:∀{ms ls:↥Sp2}{x:Sp2},x∈bG ls ms↔x∈ls∨x∈ms|[],ls,x=>by show x∈ls↔_;simp|m::ms,ls,x=>by show x∈bG (if m∈ls then ls else ls++[m]) ms↔_;rw[jq (ms:=ms)];split;rename_i a;simp only[List.mem_cons];constructor;rintro (h|h);exact .inl h;exact .inr (.inr h);rintro (h|h|h);exact .inl h;exact .inl (h ▸ a);exact .inr h;simp only[List.mem_append,List.mem_cons,List.not_mem_nil,or_false,or_assoc]
theorem jr:∀{ms ls:↥Sp2},(bG ls ms).length<=ls.length+ms.length|[],ls=>by show ls.length<=_;simp|m::ms,ls=>by have h:=jr (ms:=ms) (ls:=if m∈ls then ls else ls++[m]);show (bG (if m∈ls then ls else ls++[m]) ms).length<=_;rw[ab6];split at h;rename_i a;rw[if_pos a];nofun;rename_i a;rw[if_neg a];rw[aag,aaR]at h;nofun
@[irreducible] def cx:Ct:=λos P=>∃(ks:↥Key)(ds:↥D)(R:Rls)(z n:Str)(zs:↥Str)(k f:Nat)(K:Kp)(r:Res),os=[cw ks ds,.fz (.str z),ij K,.fz (.str n),.fz (.int k)]/\gn ks ds R/\MkOk R z zs n k f/\KpOk R z zs K/\rdF R z f n k=!r/\((n,k),r)∈K/\ P (.fl ((bG [] (eM R z f (n,k))).map aG)) os
abbrev mE:Stmt:=top 43
abbrev vR:FS:=(am (cn 5 pA) (am (kJ (bW (K5 0 5 (al bJ (aa (fFz (ab 0)) (aa (fFz (ab 1)) (aa (fFz (ab 2)) (aa (fFz (ab 3)) (aa (fFz (ab 4)) af)))))))) (ac 6) (pB 5 (fC (.bl true)) (ab 6))) (bc (Cm (ab 5)))))
def vS{ls:↥Sp2}:ml (ls.map hV) (ls.map λ_=>D.bl true) (hV q) (.bl true)=((if q∈ls then ls else ls++[q]).map hV,(if q∈ls then ls else ls++[q]).map λ_=>D.bl true):=by have b:rA (ls.map hV) (hV q)=true↔q∈ls:=by{unfold rA;rw[aaM];constructor;rintro⟨x,e,h⟩;let⟨y,d,rfl⟩:=abZ.mp e;exact iB (of_decide_eq_true h) ▸ d;intro h;exact{_,abZ.mpr {(q),h,rfl},decide_eq_true rfl}};unfold ml;by_cases h:q∈ls;rw[if_pos (b.mpr h),if_pos h];congr 1;clear b h;induction ls with|nil=>rfl|cons a ls c=>{simp only[List.map_cons,List.zip_cons_cons];rw[c];congr 1;split<;>rfl};rw[if_neg (λy=>h (b.mp y)),if_neg h,aae,aae];rfl
def vT:Hh cx vR [] 7:=by intro os P h;unfold cx at h;refine ex10 h ?_;clear h;rintro ks ds R z n zs k f K r ⟨rfl,t,M,s,hr,j,q⟩;have o:=M.l;revert(GU t M s hr j λa b=>?_);have O:=vL (f:=f) M.r (jn (z:=z) M.r M.n M.k);have g:(cJ R z f (bC R z n k)).st.length<sizeLine:=by{have w:=O.st;have v:=O.t8;have u:=O.tz;have:(if (cJ R z f (bC R z n k)).dn=true then 1 else 0)<=1:=by{split<;>nofun};nofun};have l:P (.fl ((bG [] (cJ R z f (bC R z n k)).st).map aG)) [cw ks ds,.fz (.str z),ij K,.fz (.str n),.fz (.int k)]:=q;ext;generalize (cJ R z f (bC R z n k)).st=st at g l ⊢;refine bf (λi ρ=>∃x:Option OV,ρ=[!(cw ks ds),!(.fz (.str z)),!(ij K),!(.fz (.str n)),!(.fz (.int k)),!(.ft ((bG [] (st.take i)).map hV) ((bG [] (st.take i)).map λ_=>.bl true)),x]) {(none),rfl} ?_ ?_;rintro i d ρ R' hd ⟨x,rfl⟩ m;rw[abW]at hd;cases c:st[i]? with|none=>rw [c]at hd;cases hd|some e=>{rw[c]at hd;cases hd;have hi:=(abT.mp c).1;have p:=jr (ms:=st.take i) (ls:=[]);rw[aam,abQ]at p;revert{rfl,?_};ext;rw[abR];refine{(),?_};rw[show ml ((bG [] (st.take i)).map hV) ((bG [] (st.take i)).map λ_=>D.bl true) [.inr e.1,.inl (e.2:Int)] (.bl true)=_ from vS (q:=e),←ki c];exact m _ {_,rfl}};rintro ρ ⟨x,rfl⟩;rw[abR,aah (aab _)];ext;rw[aar];exact l
def rQ(c:gn ks ds R)(M:MkOk R z zs n k f)(b:KpOk R z zs K)(hr:rdF R z f n k=!r)(a:((n,k),r)∈K)(h:P (.fl ((bG [] (eM R z f (n,k))).map aG)) [cw ks ds,.fz (.str z),ij K,.fz (.str n),.fz (.int k)]):cx [cw ks ds,.fz (.str z),ij K,.fz (.str n),.fz (.int k)] P:=by unfold cx;exact{(ks),ds,R,z,n,zs,k,f,K,r,rfl,c,M,b,hr,a,h}
inductive cy:Ct
 |mk {i:Int} {P:OV->↥OV->Prop} (h:P (.fz (.bl true)) [.fz (.int i)]):cy [.fz (.int i)] P
abbrev mF:Stmt:=top 44
abbrev vU:FS:=(bc (dD (fCB cIs (aa (ab 0) (aa (fC (.ty "int")) af))) (yT (fCB cIs (aa (ab 0) (aa (fC (.ty "bool")) af))))))
def vV:Hh cy vU [] 1:=by intro os P h;obtain@⟨i,_,q⟩:=h;revert{{(rfl),rfl},?_} ci{{(rfl),rfl},?_}(q)
inductive dH:Ct
 |mk {z:Str} {k:Nat} {P:OV->↥OV->Prop} (hk:k<=z.length) (hz:z.length<=sizeLine) (h:P (.fz (.bl true)) [.fz (.str z),.fz (.int k)]):dH [.fz (.str z),.fz (.int k)] P
abbrev mG:Stmt:=top 45
abbrev vW:FS:=(bc (dD (al cy (aa (fFz (ab 1)) af)) (j2 (ir (λi j=>decide (i<=j)) λi j=>⇑(aY j i)) (ir (λi j=>decide (i<=j)) λi j=>⇑(aY j i)) (fC (.int 0)) (ab 1) (fCB eO (aa (ab 0) af)))))
def vX:Hh dH vW [] 2:=by intro os P h;obtain@⟨z,k,_,b,a,q⟩:=h;revert(.mk ?_) ci(ao (0<=(k:Int)) decide_eq_true_iff (λ_=>?_) (λh=>absurd (Int.natCast_nonneg k) h)){a,?_};ext;show P (.fz (.bl (decide ((k:Int)<=(z.length:Int))))) _;rw[decide_eq_true (Int.ofNat_le.mpr b)];exact q
def vY(h:(gW z)[i]?=!d):∃c,z.cps.toList[i]?=!c/\d=.str {#[c]}:=by unfold gW at h;rw[abW,aai]at h;let⟨r,h1,h2⟩:=h;exact{(r),h1,h2.symm}
def vZ(z:Str):z.length=z.cps.toList.length:=by rw[acd];rfl
abbrev lj:Str:="abcdefghijklmnopqrstuvwxyz"
def nZ:c∈lj.cps.toList↔97<=c/\c<=122:=by have e:lj.cps.toList=List.range' 97 26:=∅;rw[e,List.mem_range'_1];nofun
def tru(i:Nat):↥D:=(List.replicate i true).map .bl
def eh:tru i++[.bl true]=tru (i+1):=by unfold tru;rw[List.replicate_succ',aae];rfl
def fU:(tru i).length=i:=by unfold tru;simp
theorem js{Q:↥Bool->Prop}(q:Q (List.replicate i true)):match ic (tru i)with|some zs=>Q zs|none=>False:=j9 q
def fV:((List.replicate i true).all id)=true:=by simp
inductive b5:Ct
 |mk {z:Str} {P:OV->↥OV->Prop} (hz:dc z) (h:P (.fz (.bl true)) [.fz (.str z)]):b5 [.fz (.str z)] P
abbrev pN:Stmt:=top 17
abbrev AK:FS:=(am (fIf (iq (cO (fCB cIs (aa (ab 0) (aa (fC (.ty "str")) af))))) (bc (fC (.bl false))) aB) (am (fIf (iq (av (j2 (ir (λi j=>decide (i<=j)) λi j=>⇑(aY j i)) (ir (λi j=>decide (i<=j)) λi j=>⇑(aY j i)) (fC (.int 1)) (fCB eO (aa (ab 0) af)) (fC (.int 8))))) (bc (fC (.bl false))) aB) (bc (fCB uG (aa (bI [] 1 (EW (ab 0)) (ac 0) i3 (fOp aIn (ab 0) (fC (.str "abcdefghijklmnopqrstuvwxyz")))) af)))))
def AL:Hh b5 AK [] 1:=by intro os P h;obtain@⟨z,_,⟨l,j,e⟩,q⟩:=h;have sz:=dZ;have g:=vZ z;revert aA{{(rfl),rfl},?_} cm aA{(),?_}(ao ((1:Int)<=z.length) decide_eq_true_iff (λh1=>?_) (λh1=>absurd () h1))(ao (¬(z.length:Int)<=8) (by rw[aaX,decide_eq_false_iff_not]) (λh2=>absurd () h2) (λh2=>?_))(aH (λi as ρ=>∃(x:Option OV),as=tru i/\ρ=[x,!(.fz (.str z))]) {(none),rfl,rfl} ?_ ?_);rintro i d as ρ R hd ⟨x,rfl,rfl⟩ k;let⟨c,a,rfl⟩:=vY hd;have hi:=(abT.mp a).1;have f:decide (c∈lj.cps.toList)=true:=decide_eq_true (nZ.mpr (e c (abX a)));revert ci{by rw[fU];nofun,k _ _ {_,?_,rfl}};rw[←eh];exact congrArg (λb=>tru i++[D.bl b]) f;rintro as ρ ⟨x,rfl,rfl⟩;revert js;ext;rw[fV];exact q
def v6{a b:Nat}:aY {#[a]} {#[b]}=decide (a<b):=by unfold aY;rw[decide_eq_decide];simp[List.cons_lt_cons_iff]
def e_32:Str.ofString " "={#[32]}:=-∅
def Ov:Str.ofString "~"={#[126]}:=-∅
def Ox:(⇑(aY {#[c]} (Str.ofString " ")))=true↔32<=c:=by rw[e_32,v6,aaX,decide_eq_false_iff_not];nofun
def Lz:(⇑(aY (Str.ofString "~") {#[c]}))=true↔c<=126:=by rw[Ov,v6,aaX,decide_eq_false_iff_not];nofun
def v7(z:Str):Prop:=∀c∈z.cps.toList,32<=c/\c<=126/\c≠37
inductive eZ:Ct
 |mk {c:Nat} {P:OV->↥OV->Prop} (hc:32<=c/\c<=126/\c≠37) (h:P (.fz (.bl true)) [.fz (.str ⟨#[c]⟩)]):eZ [.fz (.str ⟨#[c]⟩)] P
abbrev pO:Stmt:=top 18
abbrev AM:FS:=(bc (dD (j2 (ir (λi j=>decide (i<=j)) λi j=>⇑(aY j i)) (ir (λi j=>decide (i<=j)) λi j=>⇑(aY j i)) (fC (.str " ")) (ab 0) (fC (.str "~"))) (fOp aNe (fCB N0 (aa (ab 0) af)) (fC (.int 37)))))
def AN:Hh eZ AM [] 1:=by intro os P h;obtain@⟨c,_,⟨d,b,a⟩,q⟩:=h;revert(ao (32<=c) Ox (λ_=>?_) (λh=>absurd d h))(ao (c<=126) Lz (λ_=>?_) (λh=>absurd b h)){aM,?_};ext;rw[show dEq (.int (c:Int)) (.int 37)=false from acB.mpr λe=>a (Int.ofNat.inj (bu.mp e))];exact q
inductive c6:Ct
 |mk {z:Str} {P:OV->↥OV->Prop} (hz:z.length<sizeLine) (ht:v7 z) (h:P (.fz (.bl true)) [.fz (.str z)]):c6 [.fz (.str z)] P
abbrev pP:Stmt:=top 19
abbrev AO:FS:=(bc (dD (fCB cIs (aa (ab 0) (aa (fC (.ty "str")) af))) (fCB uG (aa (bI [] 1 (EW (ab 0)) (ac 0) i3 (al eZ (aa (fFz (ab 0)) af))) af))))
def AQ:Hh c6 AO [] 1:=by intro os P h;obtain@⟨z,_,f,b,q⟩:=h;have e:=vZ z;revert{{(rfl),rfl},?_} ci(aH (λi as ρ=>∃(x:Option OV),as=tru i/\ρ=[x,!(.fz (.str z))]) {(none),rfl,rfl} ?_ ?_);rintro i d as ρ R hd ⟨x,rfl,rfl⟩ k;let⟨c,a,rfl⟩:=vY hd;have hi:=(abT.mp a).1;revert ci(.mk (b c (abX a)) ?_){by rw[fU];nofun,k _ _ {_,eh,rfl}};rintro as ρ ⟨x,rfl,rfl⟩;revert js;ext;rw[fV];exact q
inductive bj:Ct
 |mk {z:Str} {P:OV->↥OV->Prop} (hz:du z) (h:P (.fz (.bl true)) [.fz (.str z)]):bj [.fz (.str z)] P
abbrev pQ:Stmt:=top 20
abbrev AR:FS:=(am (fIf (iq (cO (al c6 (aa (fFz (ab 0)) af)))) (bc (fC (.bl false))) aB) (am (fIf (iq (av (j2 (ir (λi j=>decide (i<=j)) λi j=>⇑(aY j i)) (ir (λi j=>decide (i<=j)) λi j=>⇑(aY j i)) (fC (.int 1)) (fCB eO (aa (ab 0) af)) (fC (.int 40))))) (bc (fC (.bl false))) aB) (bc (fCB uG (aa (bI [0] 1 (uu (aa (fC (.int 1)) (aa (fCB eO (aa (ab 0) af)) af))) (ac 0) i3 (fOp (ir (λi j=>decide (i<j)) aY) (fOp aIx (ab 1) (fOp (aI0 λi j=>.int (i - j)) (ab 0) (fC (.int 1)))) (fOp aIx (ab 1) (ab 0)))) af)))))
def AS:Hh bj AR [] 1:=by intro os P h;obtain@⟨z,_,⟨l,j,c,b⟩,q⟩:=h;have sz:=dZ;have e:=vZ z;revert aA(.mk () b ?_) cm aA{(),?_}(ao ((1:Int)<=z.length) decide_eq_true_iff (λh1=>?_) (λh1=>absurd () h1))(ao (¬(z.length:Int)<=40) (by rw[aaX,decide_eq_false_iff_not]) (λh2=>absurd () h2) (λh2=>?_)){(),?_}{{(),(),(),()},?_}(aH (λi as ρ=>∃(x:Option OV),as=tru i/\ρ=[x,!(.fz (.str z))]) {(none),rfl,rfl} ?_ ?_);rintro i d as ρ R hd ⟨x,rfl,rfl⟩ k;let⟨hi,rfl⟩:=bw hd;have a:i+1<z.cps.toList.length:=();have g1:z.cps.toList[i]?=!(z.cps.toList[i]'()):=abU _;have g2:z.cps.toList[i+1]?=!(z.cps.toList[i+1]'a):=abU _;have g:atI z.cps.toList ((1:Int)+i - 1)=!(z.cps.toList[i]'()):=by{rw[show (1:Int)+i - 1=((i:Nat):Int)from ()];exact cV g1};have f:atI z.cps.toList ((1:Int)+i)=!(z.cps.toList[i+1]'a):=by{rw[show (1:Int)+i=((i+1:Nat):Int)from ()];exact cV g2};revert ci{(),?_};rw[g];revert{(),?_};rw[f];revert{by rw[fU];nofun,k _ _ {_,?_,rfl}};rw[v6,decide_eq_true (acm.mp c i (i+1) () a (aaz i))];exact eh;rintro as ρ ⟨x,rfl,rfl⟩;revert js;ext;rw[fV];exact q
inductive dI:Ct
 |mk {word:Str} {rest:↥Str} {P:OV->↥OV->Prop} (hf:gM word rest) (h:P (.fz (.bl true)) [.fz (aE word rest)]):dI [.fz (aE word rest)] P
def v8{x:α}{r:↥α}:gc (x::r) ↑1 none=r:=by unfold gc;rw[show HT.sIx (x::r).length 0 ↑1=1 from by show min 1 (r.length+1)=1;nofun,HT.sIx_none];simp
abbrev pR:Stmt:=top 21
abbrev AT:FS:=(am (fIf (fOr (iq (cO (fCB cIs (aa (ab 0) (aa (fC (.ty "tuple")) af))))) (av (fOp aEq (fCB eO (aa (ab 0) af)) (fC (.int 0))))) (bc (fC (.bl false))) aB) (am (bS (fOp aIx (ab 0) (fC (.int 0))) (ac 1)) (am (fIf (iq (cO (fCB cIs (aa (ab 1) (aa (fC (.ty "str")) af))))) (bc (fC (.bl false))) aB) (am (fIf (av (fOp aIn (ab 1) (fC (.gt [.str "none",.str "any"])))) (bc (fOp aEq (fCB eO (aa (ab 0) af)) (fC (.int 1)))) aB) (am (fIf (av (fOp aEq (ab 1) (fC (.str "signs")))) (bc (dD (fOp aEq (fCB eO (aa (ab 0) af)) (fC (.int 2))) (al bj (aa (fFz (fOp aIx (ab 0) (fC (.int 1)))) af)))) aB) (am (fIf (av (fOp aIn (ab 1) (fC (.gt [.str "again",.str "ahead",.str "not"])))) (bc (dD (fOp aEq (fCB eO (aa (ab 0) af)) (fC (.int 2))) (al b5 (aa (fFz (fOp aIx (ab 0) (fC (.int 1)))) af)))) aB) (am (fIf (av (fOp aIn (ab 1) (fC (.gt [.str "row",.str "first"])))) (bc (dD (j2 (ir (λi j=>decide (i<=j)) λi j=>⇑(aY j i)) (ir (λi j=>decide (i<=j)) λi j=>⇑(aY j i)) (fC (.int 1)) (fOp (aI0 λi j=>.int (i - j)) (fCB eO (aa (ab 0) af)) (fC (.int 1))) (fC (.int 8))) (fCB uG (aa (bI [] 1 (ut (fSl N5 (ab 0) (fM (fC (.int 1))) cY)) (ac 0) i3 (al b5 (aa (fFz (ab 0)) af))) af)))) aB) (bc (fC (.bl false))))))))))
def Oy{l:↥α}(h:l.length=1):∃x,l=[x]:=-List.length_eq_one_iff.mp h
def AU:Hh dI AT [] 2:=by intro os P h;obtain@⟨word,rest,_,⟨zs,f,c⟩,q⟩:=h;have sz:=dZ;revert aA{{(rfl),rfl},?_} cm{aM,?_}(ao False {λh=>by have e:(((rest.map D.str).length+1:Nat):Int)=0:=bu.mp h;nofun,faa} faa (λ_=>?_)) b8 aA{{(rfl),rfl},?_} cm aA{{(rfl),rfl},?_}(ao (word="none"∨word="any") ((cq (zs:=["none","any"])).trans (by simp)) (λa=>?_) (λh1=>?_));have e:rest=[]:=by{rcases c with ⟨_,h⟩|⟨h,_⟩|⟨h,_⟩|⟨h,_⟩;exact h;all_goals (rcases a with rfl|rfl<;>exact absurd h (by decide))};subst e;revert{aM,?_}(q);revert aA{ai,?_}(ao (word="signs") au (λa=>?_) (λh2=>?_));obtain⟨z,rfl,b⟩:∃z,rest=[z]/\du z:=by{rcases c with ⟨h,_⟩|⟨_,h⟩|⟨h,_⟩|⟨h,_⟩;exact absurd h h1;exact h;all_goals (rw[a]at h;exact absurd h (by decide))};revert{aM,?_} ci(.mk b ?_)(q);revert aA{{(rfl),rfl},?_}(ao (word="again"∨word="ahead"∨word="not") ((cq (zs:=["again","ahead","not"])).trans (by simp)) (λa=>?_) (λm=>?_));obtain⟨z,rfl,b⟩:∃z,rest=[z]/\dc z:=by{rcases c with ⟨h,_⟩|⟨h,_⟩|⟨_,h,g⟩|⟨h,_⟩;exact absurd h h1;exact absurd h h2;let⟨z,rfl⟩:=Oy h;exact{z,rfl,f z (g z (abY.mpr rfl))};rcases a with rfl|rfl|rfl<;>exact absurd h (by decide)};revert{aM,?_} ci(.mk b ?_)(q);obtain⟨a,o,n,j⟩:(word="row"∨word="first")/\1<=rest.length/\rest.length<=8/\∀z∈rest,z∈zs:=by{rcases c with ⟨h,_⟩|⟨h,_⟩|⟨h,_⟩|h;exact absurd h h1;exact absurd h h2;exact absurd h m;exact h};have p:(rest.map D.str).length=rest.length:=abR ..;revert aA{{(rfl),rfl},?_}(ao (word="row"∨word="first") ((cq (zs:=["row","first"])).trans (by simp)) (λa=>?_) (λl=>absurd a l));ext;rw[List.length_cons];refine ao ((1:Int)<=(((rest.map D.str).length+1:Nat):Int) - 1) decide_eq_true_iff (λg1=>?_) (λg1=>absurd () g1);revert(ao ((((rest.map D.str).length+1:Nat):Int) - 1<=8) decide_eq_true_iff (λg2=>?_) (λg2=>absurd () g2));ext;rw[v8];revert(aH (λi as ρ=>∃(x y:Option OV),as=tru i/\ρ=[x,!(.fz (aE word rest)),y]) {none,_,rfl,rfl} ?_ ?_);rintro i d as ρ R hd ⟨x,y,rfl,rfl⟩ k;rw[abW,aai]at hd;let⟨z,b,rfl⟩:=hd;have hi:=(abT.mp b).1;revert ci(.mk (f z (j z (abX b))) ?_){by rw[fU];nofun,k _ _ {_,_,eh,rfl}};rintro as ρ ⟨x,y,rfl,rfl⟩;revert js;ext;rw[fV];exact q
def LA(r:Rw):Prop:=dc r.1/\gM r.2.1 r.2.2
inductive e7:Ct
 |mk {r:Rw} {P:OV->↥OV->Prop} (hr:LA r) (h:P (.fz (.bl true)) [.fz (gy r)]):e7 [.fz (gy r)] P
abbrev pT:Stmt:=top 25
abbrev AV:FS:=(am (fIf (fOr (iq (cO (fCB cIs (aa (ab 0) (aa (fC (.ty "tuple")) af))))) (av (fOp aNe (fCB eO (aa (ab 0) af)) (fC (.int 2))))) (bc (fC (.bl false))) aB) (bc (dD (al b5 (aa (fFz (fOp aIx (ab 0) (fC (.int 0)))) af)) (al dI (aa (fFz (fOp aIx (ab 0) (fC (.int 1)))) af)))))
def AW:Hh e7 AV [] 1:=by intro os P h;obtain@⟨⟨n,word,rest⟩,_,⟨a,b⟩,q⟩:=h;revert aA{{(rfl),rfl},?_} cm{aM,?_} cm(.mk a ?_) ci(.mk b ?_)(q)
abbrev ik(rows:↥Rw):D:=.lst (rows.map gy)
def Oz(rows:↥Rw):Prop:=∀i r s,rows[i]?=!r->rows[i+1]?=!s->aY r.1 s.1=true
def v9(ps:↥(Str×D)):Prop:=∀i r s,ps[i]?=!r->ps[i+1]?=!s->aY r.1 s.1=true
abbrev eN(p:Str×D):D:=.tup [.str p.1,p.2]
inductive bK:Ct
 |mk {rows:↥(Str×D)} {P:OV->↥OV->Prop} (hl:rows.length<=1000) (hr:v9 rows) (h:P (.fz (.bl true)) [.fz (.lst (rows.map eN))]):bK [.fz (.lst (rows.map eN))] P
abbrev wa:Stmt:=top 26
abbrev GV:FS:=(bc (fCB uG (aa (bI [0] 1 (uu (aa (fC (.int 1)) (aa (fCB eO (aa (ab 0) af)) af))) (ac 0) i3 (fOp (ir (λi j=>decide (i<j)) aY) (fOp aIx (fOp aIx (ab 1) (fOp (aI0 λi j=>.int (i - j)) (ab 0) (fC (.int 1)))) (fC (.int 0))) (fOp aIx (fOp aIx (ab 1) (ab 0)) (fC (.int 0))))) af)))
def GW:Hh bK GV [] 1:=by intro os P h;obtain@⟨rows,_,f,hr,q⟩:=h;have sz:=dZ;have b:(rows.map eN).length=rows.length:=abR ..;revert{{(),(),(),()},?_}(aH (λi as ρ=>∃(x:Option OV),as=tru i/\ρ=[x,!(.fz (.lst (rows.map eN)))]) {(none),rfl,rfl} ?_ ?_);rintro i d as ρ R hd ⟨x,rfl,rfl⟩ k;let⟨hi,rfl⟩:=bw hd;have a:i+1<rows.length:=();have g1:rows[i]?=!(rows[i]'()):=abU _;have g2:rows[i+1]?=!(rows[i+1]'a):=abU _;have e:atI (rows.map eN) ((1:Int)+i - 1)=!(eN (rows[i]'())):=by{rw[show (1:Int)+i - 1=((i:Nat):Int)from ()];exact cV (by rw[abW,g1];rfl)};have c:atI (rows.map eN) ((1:Int)+i)=!(eN (rows[i+1]'a)):=by{rw[show (1:Int)+i=((i+1:Nat):Int)from ()];exact cV (by rw[abW,g2];rfl)};revert ci;ext;rw[e];ext;rw[c];revert{by rw[fU];nofun,k _ _ {_,?_,rfl}};rw[hr i _ _ g1 g2];exact eh;rintro as ρ ⟨x,rfl,rfl⟩;revert js;ext;rw[fV];exact q
def wc(a:rows.length<=1000)(hr:Oz rows)(h:P (.fz (.bl true)) [.fz (ik rows)]):bK [.fz (ik rows)] P:=by have e:rows.map gy=(rows.map λr=>(r.1,aE r.2.1 r.2.2)).map eN:=by{rw[aar];rfl};unfold ik at h ⊢;rw[e]at h ⊢;refine .mk (by rw[abR];exact a) (λi r s h1 h2=>?_) h;rw[abW,aai]at h1 h2;let⟨r',h1,rfl⟩:=h1;let⟨s',h2,rfl⟩:=h2;exact hr i _ _ h1 h2
inductive e8:Ct
 |mk {rows:↥Rw} {P:OV->↥OV->Prop} (hl:rows.length<=1000) (ho:∀r∈rows,LA r) (hr:Oz rows) (h:P (.fz (.bl true)) [.fz (ik rows)]):e8 [.fz (ik rows)] P
abbrev pU:Stmt:=top 27
abbrev AX:FS:=(am (fIf (iq (cO (fCB cIs (aa (ab 0) (aa (fC (.ty "list")) af))))) (bc (fC (.bl false))) aB) (bc (dD (fCB uG (aa (bI [] 1 (bW (ab 0)) (ac 0) i3 (al e7 (aa (fFz (ab 0)) af))) af)) (al bK (aa (fFz (ab 0)) af)))))
def AY:Hh e8 AX [] 1:=by intro os P h;obtain@⟨rows,_,c,b,hr,q⟩:=h;have sz:=dZ;revert aA{{(rfl),rfl},?_} cm(aH (λi as ρ=>∃(x:Option OV),as=tru i/\ρ=[x,!(.fz (ik rows))]) {(none),rfl,rfl} ?_ ?_);rintro i d as ρ R hd ⟨x,rfl,rfl⟩ k;rw[abW,aai]at hd;let⟨r,a,rfl⟩:=hd;have hi:=(abT.mp a).1;revert ci(.mk (b r (abX a)) ?_){by rw[fU];nofun,k _ _ {_,eh,rfl}};rintro as ρ ⟨x,rfl,rfl⟩;revert js;ext;rw[fV];refine ci ?_;revert(wc c hr ?_)(q)
def pV(word:Str):Prop:=word="none"∨word="again"∨word="ahead"∨word="not"
def GX(zs:↥Str)(word:Str)(rest:↥Str):Prop:=(word="row" /\ ∀z∈rest,z∈zs)∨(word="first" /\ ∃z∈rest,z∈zs)∨pV word
inductive Emp(rows:↥Rw):Str->Prop where
 |base {r:Rw}:r∈rows->pV r.2.1->Emp rows r.1
 |row {r:Rw}:r∈rows->r.2.1="row" ->(∀z∈r.2.2,Emp rows z)->Emp rows r.1
 |first {r:Rw} {z:Str}:r∈rows->r.2.1="first" ->z∈r.2.2->Emp rows z->Emp rows r.1
def we(rows:↥Rw)(zs:↥Str):Prop:=∀r∈rows,GX zs r.2.1 r.2.2->r.1∈zs
def Emp.mem(c:we rows zs)(h:Emp rows z):z∈zs:=by induction h with|base h e=>exact c _ h (.inr (.inr e))|row h e _ a=>exact c _ h (.inl {(e),a})|first h e m _ a=>exact c _ h (.inr (.inl {e,_,m,a}))
def Emp.of(h:∀z∈zs,Emp rows z){r:Rw}(hr:r∈rows)(m:GX zs r.2.1 r.2.2):Emp rows r.1:=by rcases m with ⟨e,a⟩|⟨e,z,b,a⟩|e;exact .row hr e λz b=>h z (a z b);exact .first hr e b (h z a);exact .base hr e
structure Walk1(rows:↥Rw)(zs0 zs:↥Str)(i:Nat):Prop where
 nd:zs.Nodup
 emp:∀z∈zs,Emp rows z
 sub:∀z∈zs,z∈rows.map (·.1)
 grow:(zs=zs0/\∀r∈rows.take i,GX zs0 r.2.1 r.2.2->r.1∈zs0)∨zs0.length<zs.length
def Walk1.start(nd:zs.Nodup)(emp:∀z∈zs,Emp rows z)(sub:∀z∈zs,z∈rows.map (·.1)):Walk1 rows zs zs 0:=-{nd,emp,sub,.inl {rfl,λr h=>by simp at h}}
def pW{l:↥α}{r a:α}(h:l[i]?=!a)(hr:r∈l.take (i+1)):r∈l.take i∨r=a:=by rw[aaq,h]at hr;simpa using hr
def Walk1.add{r:Rw}(W:Walk1 rows zs0 zs i)(hr:rows[i]?=!r)(c:r.1∉zs)(m:GX zs r.2.1 r.2.2):Walk1 rows zs0 (zs++[r.1]) (i+1):=by have a:=abX hr;refine{_S.nodup_snoc W.nd c,λz b=>?_,λz b=>?_,.inr ?_};rcases abS.mp b with h|h;exact W.emp z h;have:z=r.1:=(by exists h);rw[this];exact Emp.of W.emp a m;rcases abS.mp b with h|h;exact W.sub z h;have:z=r.1:=(by exists h);rw[this];exact abZ.mpr {(r),a,rfl};rw[aag,aaR];rcases W.grow with ⟨e,_⟩|h;rw[e];nofun;nofun
def Walk1.skip{r:Rw}(W:Walk1 rows zs0 zs i)(hr:rows[i]?=!r)(h:GX zs r.2.1 r.2.2->r.1∈zs):Walk1 rows zs0 zs (i+1):=by refine{W.nd,W.emp,W.sub,?_};rcases W.grow with ⟨e,g⟩|g;refine .inl {e,λr' a m=>?_};rcases pW hr a with z|z;exact g r' z m;subst z;subst e;exact h m;exact .inr g
def Walk1.len(W:Walk1 rows zs0 zs i):zs.length<=rows.length:=by have:=aas W.nd W.sub;rwa [abR]at this
inductive b6:Ct
 |mk {word:Str} {rest zs:↥Str} {ds:↥D} {P:OV->↥OV->Prop} (hf:gM word rest) (h:∀b:Bool,(b=true↔GX zs word rest)->P (.fz (.bl b)) [.fz (aE word rest),.fd (zs.map Sum.inr) ds]):b6 [.fz (aE word rest),.fd (zs.map Sum.inr) ds] P
@[irreducible] def bv:Ct:=λos P=>∃rows:↥Rw,os=[.fz (.lst (rows.map gy))]/\BookL rows/\∀(zs:↥Str)(ds:↥D),zs.Nodup->(∀z,z∈zs↔Emp rows z)->zs.length<=30->P (.fd (zs.map Sum.inr) ds) os
section
variable{P:Program}{w:World}{K:Frag}
abbrev LB:Stmt:=top 28
abbrev OA:FS:=(am (fIf (av (fOp aEq (fOp aIx (ab 0) (fC (.int 0))) (fC (.str "row")))) (bc (fCB uG (aa (bI [1] 1 (bW (al bT (aa (fFz (ab 0)) af))) (ac 0) i3 (fOp aIn (ab 0) (ab 2))) af))) aB) (am (fIf (av (fOp aEq (fOp aIx (ab 0) (fC (.int 0))) (fC (.str "first")))) (bc (fCB KG (aa (bI [1] 1 (bW (al bT (aa (fFz (ab 0)) af))) (ac 0) i3 (fOp aIn (ab 0) (ab 2))) af))) aB) (bc (fOp aIn (fOp aIx (ab 0) (fC (.int 0))) (fC (.gt [.str "none",.str "again",.str "ahead",.str "not"]))))))
def jt{rest:↥Str}(h:gM word rest):rest.length<=8:=by let⟨zs,_,h⟩:=h;rcases h with ⟨_,rfl⟩|⟨_,z,rfl,_⟩|⟨_,h,_⟩|⟨_,_,h,_⟩;simp;simp;nofun;exact h
def OB:Hh b6 OA [1] 2:=by intro os P h;obtain@⟨word,rest,zs,ds,_,j,q⟩:=h;have sz:=dZ;have l:=jt j;have g:(bX word rest).length<=8:=by{unfold bX;split;simp;exact l};revert aA b8{ai,?_}(ao (word="row") au (λc=>?_) (λc=>?_));have f:bX word rest=rest:=by{unfold bX;rw[if_neg (by rw[c];decide)]};revert(.mk ?_);rw[f];revert(aH (λi as ρ=>∃x:Option OV,as=(rest.take i).map (λz=>D.bl (rp (zs.map Sum.inr) (.inr z)))/\ρ=[x,!(.fz (aE word rest)),!(.fd (zs.map Sum.inr) ds)]) {none,by simp,rfl} ?_ ?_);rintro i d as ρ R hd ⟨x,rfl,rfl⟩ k;obtain⟨z,a,rfl⟩:∃z,rest[i]?=!z/\d=.str z:=by{rw[abW,aai]at hd;let⟨z,h1,h2⟩:=hd;exact{(z),h1,h2.symm}};revert ci{by rw[abR,aam];nofun,k _ _ {!(.fz (.str z)),by rw[aaq,a,aae];rfl,rfl}};rintro as ρ ⟨x,rfl,rfl⟩;rw[abR,aah (aab _)];have e:rest.map (λz=>D.bl (rp (zs.map Sum.inr) (.inr z)))=(rest.map λz=>rp (zs.map Sum.inr) (.inr z)).map D.bl:=by{rw[aar];rfl};rw[e];revert j9(q _ ?_);rw[List.all_map,abN];constructor;intro h;exact .inl {c,λz a=>bx.mp (h z a)};rintro (⟨_,h⟩|⟨e,_⟩|e) z a;exact bx.mpr (h z a);rw[c]at e;exact absurd e (by decide);rw[c]at e;exact absurd e (by unfold pV;decide);revert aA b8{ai,?_}(ao (word="first") au (λb=>?_) (λb=>?_));have f:bX word rest=rest:=by{unfold bX;rw[if_neg (by rw[b];decide)]};revert(.mk ?_);rw[f];revert(aH (λi as ρ=>∃x:Option OV,as=(rest.take i).map (λz=>D.bl (rp (zs.map Sum.inr) (.inr z)))/\ρ=[x,!(.fz (aE word rest)),!(.fd (zs.map Sum.inr) ds)]) {none,by simp,rfl} ?_ ?_);rintro i d as ρ R hd ⟨x,rfl,rfl⟩ k;obtain⟨z,a,rfl⟩:∃z,rest[i]?=!z/\d=.str z:=by{rw[abW,aai]at hd;let⟨z,h1,h2⟩:=hd;exact{(z),h1,h2.symm}};revert ci{by rw[abR,aam];nofun,k _ _ {!(.fz (.str z)),by rw[aaq,a,aae];rfl,rfl}};rintro as ρ ⟨x,rfl,rfl⟩;rw[abR,aah (aab _)];have e:rest.map (λz=>D.bl (rp (zs.map Sum.inr) (.inr z)))=(rest.map λz=>rp (zs.map Sum.inr) (.inr z)).map D.bl:=by{rw[aar];rfl};rw[e];revert j9(q _ ?_);rw[abA,aaM];constructor;rintro⟨z,a,h⟩;exact .inr (.inl {b,z,a,bx.mp h});rintro (⟨e,_⟩|⟨_,z,a,h⟩|e);exact absurd e c;exact{z,a,bx.mpr h};rw[b]at e;exact absurd e (by unfold pV;decide);revert b8{{(rfl),rfl},?_}(q _ ?_);rw[show [D.str (Str.ofString "none"),D.str (Str.ofString "again"),D.str (Str.ofString "ahead"),D.str (Str.ofString "not")]=([("none":Str),"again","ahead","not"]).map D.str from rfl,cq];simp only[List.mem_cons,List.not_mem_nil,or_false];constructor;intro h;exact .inr (.inr h);rintro (⟨e,_⟩|⟨e,_⟩|e);exact absurd e c;exact absurd e b;exact e
end
section
variable{P:Program}{w:World}{K:Frag}
def Cy(h:(rows.map gy)[i]?=!d):∃r,rows[i]?=!r/\d=gy r:=by rw[abW,aai]at h;let⟨r,h1,h2⟩:=h;exact{(r),h1,h2.symm}
abbrev pX:Stmt:=top 29
abbrev AZ:FS:=(am (cn 1 yU) (am (bS (fC (.bl true)) (ac 2)) (am (i9 (Ce (ab 2)) (am (bS (fC (.bl false)) (ac 2)) (kJ (bW (ab 0)) (i6 2 (aV (ac 3) (aV (ac 4) i5))) (fIf (EN (av (fOp o9 (ab 3) (ab 1))) (cO (al b6 (aa (fFz (ab 4)) (aa (ab 1) af))))) (am (uy 1 (fC (.bl true)) (ab 3)) (bS (fC (.bl true)) (ac 2))) aB)))) (bc (ab 1)))))
def A7:Hh bv AZ [] 5:=by intro os P h;unfold bv at h;let⟨rows,rfl,v,q⟩:=h;have sz:=dZ;have few:=v.few;ext;refine dG (λm ρ=>∃(zs:↥Str)(ds:↥D)(g:Bool)(n l:Option OV),ρ=[!(.fz (.lst (rows.map gy))),!(.fd (zs.map Sum.inr) ds),!(.fz (.bl g)),n,l]/\Walk1 rows zs zs 0/\(g=true∨we rows zs)/\m=2*(rows.length - zs.length)+(if g=true then 1 else 0)) _ {[],[],true,none,none,rfl,Walk1.start aaH (λ_ h=>by cases h) (λ_ h=>by cases h),.inl rfl,rfl} ?_;rintro m ρ R ⟨zs,ds,g,n,l,rfl,W,A,rfl⟩ x;ext;cases g with|false=>{have u:we rows zs:=by{rcases A with z|z;cases z;exact z};refine cm ?_;revert(q zs ds W.nd (λz=>{W.emp z,λh=>h.mem u}) (aao W.len few))}|true=>refine ci ?_;ext;refine bf (λi ρ=>∃(a:↥Str)(c:↥D)(g:Bool)(n l:Option OV),ρ=[!(.fz (.lst (rows.map gy))),!(.fd (a.map Sum.inr) c),!(.fz (.bl g)),n,l]/\Walk1 rows zs a i/\(g=false->a=zs)/\(g=true->zs.length<a.length)) {zs,ds,false,n,l,rfl,W,λ_=>rfl,λz=>nomatch z} ?_ ?_;rintro i d ρ R' hd ⟨a,c,g,n,l,rfl,f,j,k⟩ o;let⟨r,hr,rfl⟩:=Cy hd;have s:=abX hr;revert{rfl,?_} aA(ao (r.1∉a) (by rw[aaX,abJ,Ne,bx]) (λp=>?_) (λp=>?_));revert(.mk (v.ok r s).2 λb B=>?_)(ao (GX a r.2.1 r.2.2) B (λt=>?_) (λt=>?_));revert{rfl,?_};ext;have w:=f.add hr p t;refine{by rw[abR];have:=f.len;nofun,?_};revert(o _ {a++[r.1],(jc (a.map Sum.inr) c (.inr r.1) (.bl true)).2,true,!(.fz (.str r.1)),!(.fz (aE r.2.1 r.2.2)),?_,w,(λz=>nomatch z),λ_=>?_});have e:=ma (zs:=a) (ds:=c) (z:=r.1) (d:=.bl true);unfold _S.dedup1 at e;rw[if_neg p]at e;rw[←e];rfl;rcases w.grow with ⟨z,_⟩|z;have:=congrArg List.length z;rw[aag,aaR]at this;rcases f.grow with ⟨y,_⟩|y;rw[y]at this;nofun;nofun;exact z;exact o _ {a,c,g,!(.fz (.str r.1)),!(.fz (aE r.2.1 r.2.2)),rfl,f.skip hr λz=>absurd z t,j,k};revert cm;exact o _ {a,c,g,!(.fz (.str r.1)),!(.fz (aE r.2.1 r.2.2)),rfl,f.skip hr λ_=>Classical.not_not.mp p,j,k};rintro ρ ⟨a,c,g,n,l,rfl,f,j,k⟩;rw[abR]at f;have C:=f.len;refine x _ _ ?_ {a,c,g,n,l,rfl,Walk1.start f.nd f.emp f.sub,?_,rfl};cases g with|false=>rw[j rfl,if_neg (by decide),if_pos rfl];nofun|true=>{have:=k rfl;rw[if_pos rfl];nofun};cases g with|true=>exact .inl rfl|false=>refine .inr ?_;have e:=j rfl;rcases f.grow with ⟨_,z⟩|z;rw[aah (aab _)]at z;rw[e];exact λr hr m=>z r hr m;rw[e]at z;exact absurd z (aa2 _)
def wf{P:OV->↥OV->Prop}(a:BookL rows)(h:∀(zs:↥Str) (ds:↥D),zs.Nodup->(∀z,z∈zs↔Emp rows z)->zs.length<=30->P (.fd (zs.map Sum.inr) ds) [.fz (.lst (rows.map gy))]):bv [.fz (.lst (rows.map gy))] P:=by unfold bv;exact{(rows),rfl,a,h}
def mH(h:(zs.map D.str)[i]?=!d):∃z,zs[i]?=!z/\d=.str z:=by rw[abW,aai]at h;let⟨r,h1,h2⟩:=h;exact{(r),h1,h2.symm}
end
def lB(zs:↥Str):↥Str->↥Str|[]=>[]|p::r=>if p∈zs then p::lB zs r else [p]
theorem rR{zs a:↥Str}(h:∀z,z∈zs↔z∈a):∀ps,lB zs ps=lB a ps|[]=>rfl|p::r=>by unfold lB;rw[rR h r];by_cases b:p∈zs;rw[if_pos b,if_pos ((h p).mp b)];rw[if_neg b,if_neg λz=>b ((h p).mpr z)]
theorem pY{zs:↥Str}:∀ps,(lB zs ps).length<=ps.length|[]=>aab _|p::r=>by unfold lB;have:=pY (zs:=zs) r;split<;>simp<;>nofun
def wg{p:Str}(b:ps[i]?=!p)(h:∀z∈ps.take i,z∈zs):lB zs ps=ps.take i++lB zs (ps.drop i):=by induction ps generalizing i with|nil=>simp at b|cons a r c=>cases i with|zero=>rfl|succ i=>rw[List.take_succ_cons]at h;have e:=h a (aac ..);rw[List.getElem?_cons_succ]at b;have:=c b λz d=>h z (aad _ d);rw[List.take_succ_cons,List.drop_succ_cons,List.cons_append,←this];rw[lB,if_pos e]
def GY{p:Str}(a:ps[i]?=!p):ps.drop i=p::ps.drop (i+1):=by let⟨h,e⟩:=abT.mp a;rw[aav h,e]
def A8{p:Str}(a:ps[i]?=!p)(h:∀z∈ps.take i,z∈zs)(b:p∉zs):lB zs ps=ps.take (i+1):=by rw[wg a h,GY a,lB,if_neg b,aaq,a];rfl
theorem pZ{zs:↥Str}:∀{ps:↥Str},(∀z∈ps,z∈zs)->lB zs ps=ps|[],_=>rfl|p::r,h=>by rw[lB,if_pos (h p (aac ..)),pZ λz a=>h z (aad _ a)]
def bL(zs:↥Str)(word:Str)(rest:↥Str):↥Str:=if word="row" then lB zs rest else bX word rest
def eF(zs:↥Str)(r:Rw):D:=.lst ((bL zs r.2.1 r.2.2).map .str)
inductive bM:Ct
 |mk {ps zs:↥Str} {ds:↥D} {P:OV->↥OV->Prop} (h8:ps.length<=8) (h:P (.fl ((lB zs ps).map .str)) [.fz (.lst (ps.map .str)),.fd (zs.map Sum.inr) ds]):bM [.fz (.lst (ps.map .str)),.fd (zs.map Sum.inr) ds] P
inductive bz:Ct
 |mk {word:Str} {rest zs:↥Str} {ds:↥D} {P:OV->↥OV->Prop} (hf:gM word rest) (h:P (.fl ((bL zs word rest).map .str)) [.fz (aE word rest),.fd (zs.map Sum.inr) ds]):bz [.fz (aE word rest),.fd (zs.map Sum.inr) ds] P
inductive dJ:Ct
 |mk {rows:↥Rw} {P:OV->↥OV->Prop} (hB:BookL rows) (h:∀zs:↥Str,(∀z,z∈zs↔Emp rows z)->P (.fd ((rows.map (·.1)).map Sum.inr) (rows.map (eF zs))) [.fz (.lst (rows.map gy))]):dJ [.fz (.lst (rows.map gy))] P
section
variable{P:Program}{w:World}{K:Frag}
abbrev Cz:Stmt:=top 30
abbrev LC:FS:=(am (cn 2 (i4 af)) (am (kJ (bW (ab 0)) (ac 3) (am (bR (sh 2 (ab 3))) (fIf (av (fOp o9 (ab 3) (ab 1))) Cf aB))) (bc (ab 2))))
def LD:Hh bM LC [1] 4:=by intro os P h;obtain@⟨ps,zs,ds,_,j,q⟩:=h;have sz:=dZ;revert{aan _,?_}(bf (λi ρ=>∃x:Option OV,ρ=[!(.fz (.lst (ps.map .str))),!(.fd (zs.map Sum.inr) ds),!(.fl ((ps.take i).map .str)),x]/\∀z∈ps.take i,z∈zs) {none,by simp,λz c=>by simp at c} ?_ ?_);rintro i d ρ R hd ⟨x,rfl,a⟩ g;let⟨p,b,rfl⟩:=mH hd;revert{rfl,?_}{by rw[abR,aam];nofun,?_} aA(ao (p∉zs) (by rw[aaX,abJ,Ne,bx]) (λf=>?_) (λf=>?_));ext;have e:=A8 b a f;rw[e,aaq,b,aae]at q;exact q;refine g _ {!(.fz (.str p)),?_,?_};rw[aaq,b,aae];rfl;intro z c;rcases pW b c with h|h;exact a z h;rw[h];exact Classical.not_not.mp f;rintro ρ ⟨x,rfl,a⟩;rw[abR,aah (aab _)]at*;ext;rw[pZ a]at q;exact q
abbrev wj:Stmt:=top 31
abbrev GZ:FS:=(am (fIf (av (fOp aEq (fOp aIx (ab 0) (fC (.int 0))) (fC (.str "row")))) (bc (al bM (aa (fFz (al bT (aa (fFz (ab 0)) af))) (aa (ab 1) af)))) aB) (bc (al bT (aa (fFz (ab 0)) af))))
def G0:Hh bz GZ [1] 2:=by intro os P h;obtain@⟨word,rest,zs,ds,_,c,q⟩:=h;have d:=jt c;unfold bL at q;revert aA b8{ai,?_}(ao (word="row") au (λa=>?_) (λa=>?_));have b:bX word rest=rest:=by{unfold bX;rw[if_neg (by rw[a];decide)]};rw[if_pos a]at q;revert(.mk ?_);rw[b];revert(.mk d ?_)(q);rw[if_neg a]at q;revert(.mk ?_)(q)
def p8{f:α->β}{l:↥α}{a:α}(h:l[i]?=!a):(l.take (i+1)).map f=(l.take i).map f++[f a]:=by rw[aaq,h,aae];rfl
def G1{r:Rw}(nd:(rows.map (·.1)).Nodup)(h:rows[i]?=!r):r.1∉(rows.take i).map (·.1):=by intro z;let⟨hi,e⟩:=abT.mp h;let⟨r',a,f⟩:=abZ.mp z;let⟨j,d,b⟩:=aby a;rw[List.getElem_take]at b;have c:j<i:=by{rw[aam]at d;nofun};have:=(List.getElem_inj (i:=j) (j:=i) (h₀:=by rw[abR];nofun) (h₁:=by rw[abR];nofun) nd).mp (by rw[abw,abw,b,e,f]);nofun
def Ba(h:z∉zs):jc (zs.map Sum.inr) ds (.inr z) d=(zs.map Sum.inr++[.inr z],ds++[d]):=by unfold jc;have e:¬((zs.map Sum.inr).any λx=>decide (x=(Sum.inr z:Key)))=true:=λq=>h (bx.mp q);rw[if_neg e]
abbrev wl:Stmt:=top 32
abbrev G2:FS:=(am (cn 1 (al bv (aa (fFz (ab 0)) af))) (am (cn 2 yU) (am (kJ (bW (ab 0)) (i6 2 (aV (ac 3) (aV (ac 4) i5))) (uy 2 (al bz (aa (fFz (ab 4)) (aa (ab 1) af))) (ab 3))) (bc (ab 2)))))
def G3:Hh dJ G2 [] 5:=by intro os P h;obtain@⟨rows,_,b,q⟩:=h;have sz:=dZ;have few:=b.few;revert(wf b λzs ds l k m=>?_)(bf (λi ρ=>∃f c:Option OV,ρ=[!(.fz (.lst (rows.map gy))),!(.fd (zs.map Sum.inr) ds),!(.fd (((rows.take i).map (·.1)).map Sum.inr) ((rows.take i).map (eF zs))),f,c]) {none,none,by simp} ?_ ?_);rintro i d ρ R hd ⟨f,c,rfl⟩ j;let⟨r,hr,rfl⟩:=Cy hd;have g:=abX hr;revert{rfl,?_}(.mk (b.ok r g).2 ?_){rfl,?_}{by rw[abR,abR,aam];nofun,?_};refine j _ {!(.fz (.str r.1)),!(.fz (aE r.2.1 r.2.2)),?_};have a:=G1 b.nd hr;have e:=Ba (ds:=(rows.take i).map (eF zs)) (d:=eF zs r) a;rw[p8 hr,p8 hr,aae];show [_,_,!(OV.fd (jc (((rows.take i).map (·.1)).map Sum.inr) ((rows.take i).map (eF zs)) (.inr r.1) (eF zs r)).1 (jc (((rows.take i).map (·.1)).map Sum.inr) ((rows.take i).map (eF zs)) (.inr r.1) (eF zs r)).2),_,_]=_;rw[e];rfl;rintro ρ ⟨f,c,rfl⟩;rw[abR,aah (aab _)];revert(q zs k)
end
abbrev eG(zs:↥Str)(rows:↥Rw):D:=.dct ((rows.map (·.1)).map Sum.inr) (rows.map (eF zs))
def qa(zs ls:↥Str)(r:Rw):↥Str:=(bL zs r.2.1 r.2.2).filter λz=>decide (z∈ls)
def LF(zs:↥Str)(rows:↥Rw)(S:↥Str):Prop:=∀n∈S,∃r∈rows,r.1=n/\∃p∈bL zs r.2.1 r.2.2,p∈S
def CA(zs:↥Str)(rows:↥Rw):Prop:=∀S,LF zs rows S->S=[]
def zo(zs:↥Str)(rows:↥Rw)(ls:↥Str)(n:Str):Prop:=∀r∈rows,r.1=n->∀p∈bL zs r.2.1 r.2.2,p∉ls
def n8(zs:↥Str)(rows:↥Rw)(ls:↥Str)(n:Str):Bool:=@decide (zo zs rows ls n) (Classical.propDecidable _)
def gq:n8 zs rows ls n=true↔zo zs rows ls n:=by unfold n8;exact @decide_eq_true_iff _ (Classical.propDecidable _)
def G4(sub:∀n∈ls,n∈rows.map (·.1))(h:∀n∈ls,¬zo zs rows ls n):LF zs rows ls:=by intro n b;let⟨r,hr,e⟩:=abZ.mp (sub n b);have g:=h n b;unfold zo at g;simp only[Classical.not_forall,Classical.not_not]at g;let⟨r',a,f,p,c,d⟩:=g;exact{(r'),a,f,p,c,d}
@[irreducible] def aZ:Ct:=λos P=>∃(rows:↥Rw)(zs ls:↥Str)(ds:↥D)(r:Rw),(os=[.fz (eG zs rows),.fz (.str r.1),.fd (ls.map Sum.inr) ds]∨os=[.fz (eG zs rows),.fz (.str r.1),.fz (.dct (ls.map Sum.inr) ds)])/\BookL rows/\r∈rows/\P (.fl ((qa zs ls r).map .str)) os
section
variable{P:Program}{w:World}{K:Frag}
def fzzd{e:D}:[OV.fz d,OV.fz e,OV.fd ks ds].length=3/\∀(j:Nat)(o:OV),[OV.fz d,OV.fz e,OV.fd ks ds][j]?=!o->j∉([2]:↥Nat)->si o=true:=-{rfl,λj o e a=>by
 match j,e with
 |0,e=>cases e;rfl
 |1,e=>cases e;rfl
 |2,e=>exact absurd (by simp) a}
theorem ll{f:Rw->D}:∀{rows:↥Rw}{r:Rw},(rows.map (·.1)).Nodup->r∈rows->gY ((rows.map (·.1)).map Sum.inr) (rows.map f) (.inr r.1)=!(f r)|[],_,_,h=>nomatch h|a::rows,r,b,h=>by unfold gY;rw[ab1,ab1,ab1,acC,acA];rw[ab1,ab4]at b;by_cases e:a.1=r.1;have:r=a:=by{rcases ab2.mp h with h|h;exact h;exact absurd (abZ.mpr {(r),h,e.symm}) b.1};subst this;simp;have h':r∈rows:=by{rcases ab2.mp h with h|h;exact absurd (by rw[h]) e;exact h};rw[show decide ((Sum.inr a.1:Key)=Sum.inr r.1)=false from decide_eq_false λz=>e (abg z)];exact ll b.2 h'
theorem wm{k:Key}(h:gY ks ds k=!d)(q:Q d):match gY ks ds k with|some d=>Q d|none=>False:=by rw [h];exact q
def rS{rest:↥Str}(b:gM word rest):(bL zs word rest).length<=8:=by have a:=jt b;unfold bL bX;split;exact aao (pY rest) a;split;simp;exact a
abbrev qb:Stmt:=top 33
abbrev Bb:FS:=(bc (bI [2] 1 (bW (fOp aIx (ab 0) (ab 1))) (ac 0) (av (fOp aIn (ab 0) (ab 3))) (ab 0)))
def fzzf{e f:D}:[OV.fz d,OV.fz e,OV.fz f].length=3/\∀(j:Nat)(o:OV),[OV.fz d,OV.fz e,OV.fz f][j]?=!o->j∉([2]:↥Nat)->si o=true:=-{rfl,λj o e a=>by
 match j,e with
 |0,e=>cases e;rfl
 |1,e=>cases e;rfl
 |2,e=>exact absurd (by simp) a}
def Bc:Lh aZ 3 [2]:=-λos P h=>by unfold aZ at h;obtain⟨rows,zs,ls,ds,r,rfl|rfl,_⟩:=h;exact fzzd;exact fzzf
def Bd:Hh aZ Bb [2] 3:=by intro os P h;unfold aZ at h;refine ex5 h ?_;clear h;rintro rows zs ls ds r ⟨e,c,hr,q⟩;have sz:=dZ;have g:=rS (zs:=zs) (c.ok r hr).2;rcases e with rfl|rfl;revert(wm (ll (f:=eF zs) c.nd hr) ?_)(aH (λi as ρ=>∃x:Option OV,as=(((bL zs r.2.1 r.2.2).take i).filter λz=>decide (z∈ls)).map .str/\ρ=[x,!(.fz (eG zs rows)),!(.fz (.str r.1)),!(.fd (ls.map Sum.inr) ds)]) {none,by simp,rfl} ?_ ?_);rintro i d as ρ R hd ⟨x,rfl,rfl⟩ k;let⟨z,b,rfl⟩:=mH hd;revert(ao (z∈ls) bx (λa=>?_) (λa=>?_));revert{?_,k _ _ {!(.fz (.str z)),?_,rfl}};rw[abR];have:=aaZ (λz=>decide (z∈ls)) ((bL zs r.2.1 r.2.2).take i);rw[aam]at this;nofun;rw[aaq,b,aa1,aae];simp[a];refine k _ _ {!(.fz (.str z)),?_,rfl};rw[aaq,b,aa1,aae];simp[a];rintro as ρ ⟨x,rfl,rfl⟩;rw[abR,aah (aab _)];revert(q);revert(wm (ll (f:=eF zs) c.nd hr) ?_)(aH (λi as ρ=>∃x:Option OV,as=(((bL zs r.2.1 r.2.2).take i).filter λz=>decide (z∈ls)).map .str/\ρ=[x,!(.fz (eG zs rows)),!(.fz (.str r.1)),!(.fz (.dct (ls.map Sum.inr) ds))]) {none,by simp,rfl} ?_ ?_);rintro i d as ρ R hd ⟨x,rfl,rfl⟩ k;let⟨z,b,rfl⟩:=mH hd;revert(ao (z∈ls) bx (λa=>?_) (λa=>?_));revert{?_,k _ _ {!(.fz (.str z)),?_,rfl}};rw[abR];have:=aaZ (λz=>decide (z∈ls)) ((bL zs r.2.1 r.2.2).take i);rw[aam]at this;nofun;rw[aaq,b,aa1,aae];simp[a];refine k _ _ {!(.fz (.str z)),?_,rfl};rw[aaq,b,aa1,aae];simp[a];rintro as ρ ⟨x,rfl,rfl⟩;rw[abR,aah (aab _)];revert(q)
def rT{r:Rw}{P:OV->↥OV->Prop}(a:BookL rows)(hr:r∈rows)(h:P (.fl ((qa zs ls r).map .str)) [.fz (eG zs rows),.fz (.str r.1),.fz (.dct (ls.map Sum.inr) ds)]):aZ [.fz (eG zs rows),.fz (.str r.1),.fz (.dct (ls.map Sum.inr) ds)] P:=by unfold aZ;exact{rows,zs,ls,ds,r,.inr rfl,a,hr,h}
end
structure Left(zs:↥Str)(rows:↥Rw)(ls:↥Str):Prop where
 nd:ls.Nodup
 sub:∀n∈ls,n∈rows.map (·.1)
 ring:LF zs rows ls
 all:∀S,LF zs rows S->∀n∈S,n∈ls
@[irreducible] def a8:Ct:=λos P=>∃(rows:↥Rw)(zs:↥Str),os=[.fz (eG zs rows)]/\BookL rows/\∀(ls:↥Str)(ds:↥D),Left zs rows ls->P (.fd (ls.map Sum.inr) ds) os
section
variable{P:Program}{w:World}{K:Frag}
def rV{P:OV->↥OV->Prop}(a:BookL rows)(h:∀(ls:↥Str) (ds:↥D),Left zs rows ls->P (.fd (ls.map Sum.inr) ds) [.fz (eG zs rows)]):a8 [.fz (eG zs rows)] P:=by unfold a8;exact{(rows),zs,rfl,a,h}
inductive kj:Ct
 |mk {rows:↥Rw} {P:OV->↥OV->Prop} (hB:BookL rows) (hN:∀zs:↥Str,(∀z,z∈zs↔Emp rows z)->CA zs rows) (h:P (.fz .non) [.fz (.lst (rows.map gy))]):kj [.fz (.lst (rows.map gy))] P
abbrev CB:Stmt:=top 35
abbrev LG:FS:=(am (bS (al dJ (aa (fFz (ab 0)) af)) (ac 1)) (am (cn 2 (al a8 (aa (fFz (ab 1)) af))) (am (fIf (av (fOp aEq (fCB eO (aa (ab 2) af)) (fC (.int 0)))) (bc (fC .non)) aB) (am fI (am fI (am fI fI))))))
def LH:Hh kj LG [] 5:=by intro os P h;obtain@⟨rows,_,b,d,q⟩:=h;revert(.mk b λzs c=>?_)(rV b λls ds L=>?_) aA{aM,?_}(ao (ls=[]) ?_ (λe=>?_) (λa=>absurd (d zs c ls L.ring) a));rw[bu,abR];constructor;intro h;exact aaD ();intro h;rw[h];rfl;revert(q)
end
theorem mI:∀ls:↥Str,(ls.map Sum.inr:↥Key).map zk=ls.map D.str|[]=>rfl|z::ls=>by rw[ab1,ab1,ab1,mI ls];rfl
structure Away(zs:↥Str)(rows:↥Rw)(ls:↥Str):Prop where
 nd:ls.Nodup
 sub:∀n∈ls,n∈rows.map (·.1)
 all:∀S,LF zs rows S->∀n∈S,n∈ls
def Away.len(O:Away zs rows ls):ls.length<=rows.length:=by have:=aas O.nd O.sub;rwa [abR]at this
def Away.next(O:Away zs rows ls):Away zs rows (ls.filter λz=>decide (z∉ls.filter (n8 zs rows ls))):=by refine{O.nd.sublist acK,λn a=>O.sub n (acb.mp a).1,λS c n a=>acb.mpr {O.all S c n a,decide_eq_true λz=>?_}};have g:=gq.mp (acb.mp z).2;let⟨r,hr,e,p,d,b⟩:=c n a;exact g r hr e p d (O.all S c p b)
def ju(nd:(rows.map (·.1)).Nodup){r r':Rw}(hr:r∈rows)(a:r'∈rows)(e:r'.1=r.1):r'=r:=by let⟨f,h1,c⟩:=aby hr;let⟨d,h2,b⟩:=aby a;have:=(List.getElem_inj (i:=d) (j:=f) (h₀:=by rw[abR];nofun) (h₁:=by rw[abR];nofun) nd).mp (by rw[abw,abw,c,b,e]);subst this;rw[←c,←b]
def n9{r:Rw}(nd:(rows.map (·.1)).Nodup)(hr:r∈rows):qa zs ls r=[]↔zo zs rows ls r.1:=by unfold qa;rw[List.filter_eq_nil_iff];constructor;intro h r' b e p a c;rw[ju nd hr b e]at a;exact h p a (decide_eq_true c);intro h p a c;exact h r hr rfl p a (of_decide_eq_true c)
theorem mJ:∀{ls:↥Str}{ds:↥D}{z:Str},ds.length=ls.length->z∈ls->∃d,gY (ls.map Sum.inr) ds (.inr z)=!d|[],_,_,_,h=>nomatch h|a::ls,[],_,h,_=>by simp at h|a::ls,d::ds,z,h,b=>by unfold gY;rw[ab1,acC,acA];by_cases e:a=z;subst e;exact{d,by simp};rw[show decide ((Sum.inr a:Key)=Sum.inr z)=false from decide_eq_false λy=>e (abg y)];exact mJ (by exists h) ((ab2.mp b).resolve_left λy=>e y.symm)
theorem qc:∀{ls:↥Str}{ds:↥D}{z:Str},ds.length=ls.length->∃b,nO (ls.map Sum.inr) ds (.inr z)=((ls.filter λx=>decide (x≠z)).map Sum.inr,b)/\b.length=(ls.filter λx=>decide (x≠z)).length|[],[],_,_=>{[],rfl,rfl}|[],d::ds,_,h=>by simp at h|a::ls,[],_,h=>by simp at h|a::ls,d::ds,z,h=>by let⟨b,e,f⟩:=qc (ls:=ls) (ds:=ds) (z:=z) (by exists h);unfold nO at e ⊢;injection e with i g;by_cases q:a=z;refine{b,?_,?_};subst q;simp only[List.map_cons,List.zip_cons_cons,List.filter_cons,ne_eq,not_true_eq_false,decide_false,if_neg Bool.false_ne_true];exact congr (congrArg _ i) g;subst q;simpa using f;have j:decide ((Sum.inr a:Key)≠Sum.inr z)=true:=decide_eq_true λy=>q (abg y);have c:decide (a≠z)=true:=decide_eq_true q;refine{d::b,?_,?_};simp only[List.map_cons,List.zip_cons_cons,List.filter_cons,j,c,if_pos];rw[i,g];simp only[List.filter_cons,c,if_pos,List.length_cons,f]
def gO:(ls.filter λz=>decide (z∉([]:↥Str)))=ls:=-List.filter_eq_self.mpr λa _=>by simp
def rW(nd:E.Nodup)(h:E[i]?=!z):z∉E.take i:=-λb=>by let⟨hi,e⟩:=abT.mp h;let⟨k,c,a⟩:=aby b;rw[List.getElem_take]at a;rw[aam]at c;have:=(List.getElem_inj nd).mp (a.trans e.symm);nofun
def jv(h:E[i]?=!z):((ls.filter λz=>decide (z∉E.take i)).filter λx=>decide (x≠z))=ls.filter λz=>decide (z∉E.take (i+1)):=by rw[List.filter_filter];refine List.filter_congr λx _=>?_;rw[aaq,h];simp only[Option.toList,List.mem_append,List.mem_singleton];by_cases h1:x=z<;>by_cases h2:x∈E.take i<;>simp[h1,h2]
section
variable{P:Program}{w:World}{K:Frag}
abbrev mK:Stmt:=top 34
abbrev wn:FS:=(am (cn 1 (fCB Fx (aa (ab 0) af))) (am (bS (fC (.bl true)) (ac 2)) (am (i9 (Ce (ab 2)) (am (bS (uT [0,1] 1 1 (ac 0) (av (fOp aEq (fCB eO (aa (al aZ (aa (fFz (ab 1)) (aa (fFz (ab 0)) (aa (ab 2) af)))) af)) (fC (.int 0)))) (ab 0)) (ac 3)) (am (kJ (bW (ab 3)) (ac 4) (bR (Ft 1 (ab 4)))) (bS (fOp (ir (λi j=>decide (j<i)) λi j=>aY j i) (fCB eO (aa (ab 3) af)) (fC (.int 0))) (ac 2))))) (bc (ab 1)))))
def wo:Hh a8 wn [] 5:=by intro os P h;unfold a8 at h;let⟨rows,zs,rfl,v,q⟩:=h;have sz:=dZ;have few:=v.few;ext;refine dG (λm ρ=>∃(ls:↥Str)(ds:↥D)(b:Bool)(w t:Option OV),ρ=[!(.fz (eG zs rows)),!(.fd (ls.map Sum.inr) ds),!(.fz (.bl b)),w,t]/\Away zs rows ls/\ds.length=ls.length/\(b=false->∀n∈ls,¬zo zs rows ls n)/\m=if b then ls.length+1 else 0) _ {rows.map (·.1),rows.map (eF zs),true,none,none,rfl,{v.nd,λ_ h=>h,λS K n j=>?_},by rw[abR,abR],(λz=>nomatch z),rfl} ?_;let⟨r,hr,e,_⟩:=K n j;exact abZ.mpr {(r),hr,e};rintro m ρ R ⟨ls,ds,b,w,t,rfl,O,I,J,rfl⟩ G;have H:=O.len;revert(ao (b=true) Iff.rfl (λe=>?_) (λe=>?_));subst e;ext;rw[show N3 (ls.map Sum.inr) ds=ls.map D.str from mI ls];refine aH (λi as ρ=>∃x:Option OV,as=((ls.take i).filter (n8 zs rows ls)).map .str/\ρ=[x,!(.fz (eG zs rows)),!(.fz (.dct (ls.map Sum.inr) ds)),!(.fz (.bl true)),fzo w,fzo t]) {none,by simp,rfl} ?_ ?_;rintro k d as ρ R' hd ⟨x,rfl,rfl⟩ u;let⟨n,j,rfl⟩:=mH hd;let⟨r,hr,rfl⟩:=abZ.mp (O.sub n (abX j));revert(rT v hr ?_){aM,?_}(ao (zo zs rows ls r.1) ?_ (λB=>?_) (λB=>?_));rw[bu,abR,←n9 v.nd hr];constructor;intro h;exact aaD ();intro h;rw[h];rfl;revert{?_,u _ _ {!(.fz (.str r.1)),?_,rfl}};rw[abR];have:=aaZ (n8 zs rows ls) (ls.take k);rw[aam]at this;nofun;rw[aaq,j,aa1,aae];simp[gq.mpr B];refine u _ _ {!(.fz (.str r.1)),?_,rfl};rw[aaq,j,aa1,aae];have:n8 zs rows ls r.1=false:=acB.mpr λz=>B (gq.mp z);simp[this];rintro as ρ ⟨x,rfl,rfl⟩;rw[abR,aah (aab _)];refine{{_,rfl},?_};ext;generalize o:ls.filter (n8 zs rows ls)=E;have a:∀z∈E,z∈ls:=λz l=>by{rw[←o]at l;exact(acb.mp l).1};have s:E.Nodup:=by{rw[←o];exact O.nd.sublist acK};have L:E.length<=ls.length:=by{rw[←o];exact aaZ ..};refine bf (λi ρ=>∃(c:↥D)(x:Option OV),ρ=[!(.fz (eG zs rows)),!(.fd ((ls.filter λz=>decide (z∉E.take i)).map Sum.inr) c),!(.fz (.bl true)),!(.fz (.lst (E.map .str))),x]/\c.length=(ls.filter λz=>decide (z∉E.take i)).length) {ds,t,?_,?_} ?_ ?_;rw[List.take_zero,gO];rw[List.take_zero,gO,I];rintro i d ρ R' hd ⟨c,x,rfl,f⟩ u;let⟨z,l,rfl⟩:=mH hd;have A:z∈ls.filter λz=>decide (z∉E.take i):=acb.mpr {a z (abX l),decide_eq_true (rW s l)};let⟨W,T⟩:=mJ f A;let⟨F,Q,C⟩:=qc (z:=z) f;revert{rfl,?_}(wm T ?_);refine u _ {F,!(.fz (.str z)),?_,?_};rw[Q,jv l];rfl;rw[C,jv l];rintro ρ ⟨c,x,rfl,f⟩;rw[abR,aah (aab _)]at*;have V:Away zs rows (ls.filter λz=>decide (z∉E)):=by{rw[←o];exact O.next};revert(G _ _ ?_ {_,c,_,_,_,rfl,V,f,?_,rfl});rw[if_pos rfl];split;rename_i h;have p:(0:Int)<((E.map D.str).length:Nat):=of_decide_eq_true h;rw[abR]at p;have:(ls.filter λz=>decide (z∉E)).length<ls.length:=by{cases E with|nil=>simp at p|cons y E=>refine List.length_filter_lt_length_iff_exists.mpr {y,a y (aac ..),?_};simp};nofun;nofun;intro h n j g;have M:¬(0:Int)<((E.map D.str).length:Nat):=of_decide_eq_false h;rw[abR]at M;have N:E=[]:=aaD ();subst N;rw[gO]at j g;rw[List.filter_eq_nil_iff]at o;exact o n j (gq.mpr g);have U:b=false:=by{cases b with|true=>exact absurd rfl e|false=>rfl};subst U;revert(q ls ds {O.nd,O.sub,G4 O.sub (J rfl),O.all})
end
structure BookR(rows:↥Rw):Prop where
 b:BookL rows
 rise:Oz rows
 free:∀zs:↥Str,(∀z,z∈zs↔Emp rows z)->CA zs rows
inductive a9:Ct
 |mk {rows:↥Rw} {P:OV->↥OV->Prop} (B:BookR rows) (h:P (.fz .non) [.fz (ik rows)]):a9 [.fz (ik rows)] P
abbrev LI:Stmt:=top 46
abbrev OC:FS:=(am (fIf (iq (cO (al e8 (aa (fFz (ab 0)) af)))) fI aB) (fIf (av (fOp kY (al kj (aa (fFz (ab 0)) af)) (fC .non))) fI aB))
def OD:Hh a9 OC [] 1:=by intro os P h;obtain@⟨rows,_,B,q⟩:=h;have few:=B.b.few;revert aA(.mk () B.b.ok B.rise ?_) cm aA(.mk B.b B.free ?_) cm(q)
structure AskR(rows:↥Rw)(n z:Str)(k:Nat):Prop where
 b:BookR rows
 n:dc n
 t:v7 z
 s:z.length<sizeLine
 k:k<=z.length
abbrev xG(rows:↥Rw)(n z:Str)(k:Nat):↥OV:=[.fz (ik rows),.fz (.str n),.fz (.str z),.fz (.int k)]
inductive b7:Ct
 |mk {rows:↥Rw} {n z:Str} {k:Nat} {P:OV->↥OV->Prop} (A:AskR rows n z k) (h:P (.fz .non) (xG rows n z k)):b7 (xG rows n z k) P
abbrev Pn:Stmt:=top 47
abbrev f_rw:FS:=(am (bR (al a9 (aa (fFz (ab 0)) af))) (am (fIf (iq (cO (al b5 (aa (fFz (ab 1)) af)))) fI aB) (am (fIf (iq (cO (al c6 (aa (fFz (ab 2)) af)))) fI aB) (fIf (iq (cO (al dH (aa (fFz (ab 2)) (aa (fFz (ab 3)) af))))) fI aB))))
def h_rw:Hh b7 f_rw [] 4:=by intro os P h;obtain@⟨rows,n,z,k,_,A,q⟩:=h;revert(.mk A.b ?_) aA(.mk A.n ?_) cm aA(.mk A.s A.t ?_) cm aA(.mk A.k (acM A.s) ?_) cm(q)
abbrev rsR(rows:↥Rw):↥(Str×D):=rows.map λr=>(r.1,aE r.2.1 r.2.2)
abbrev ksR(rows:↥Rw):↥Key:=(rsR rows).map λr=>.inr r.1
abbrev dsR(rows:↥Rw):↥D:=(rsR rows).map (·.2)
theorem mL:∀rows:↥Rw,jN (rows.map gy)=!(rsR rows)
 |[]=>rfl
 |r::rows=>by
  show (match jN (rows.map gy)with
   |some q=>!((r.1,aE r.2.1 r.2.2)::q)
   |none=>none)=_
  rw[mL rows];rfl
theorem oa{Q:↥(Str×D)->Prop}(h:Q (rsR rows)):match jN (rows.map gy)with|some a=>Q a|none=>False:=by rw [mL];exact h
def G5(nd:(rows.map (·.1)).Nodup):((rsR rows).map (·.1)).Nodup:=by rw[aar];exact nd
def rlR(w:Str)(p:↥Str):Rl:=if w="none" then .leaf .none else if w="any" then .leaf .any else if w="signs" then .leaf (.signs (p.headD "")) else .comp w p
def bY(rows:↥Rw):Rls:=λn=>match rows.find? λr=>decide (r.1=n)with|none=>.leaf .lack|some r=>rlR r.2.1 r.2.2
def LJ(h:gM w p):aE w p=rlD (rlR w p):=by let⟨zs,_,h⟩:=h;unfold rlR;by_cases h1:w="none";rw[if_pos h1];subst h1;rcases h with ⟨_,rfl⟩|⟨y,_⟩|⟨y,_⟩|⟨y,_⟩;rfl;exact absurd y ∅;exact absurd y ∅;exact absurd y ∅;rw[if_neg h1];by_cases h2:w="any";rw[if_pos h2];subst h2;rcases h with ⟨_,rfl⟩|⟨y,_⟩|⟨y,_⟩|⟨y,_⟩;rfl;exact absurd y ∅;exact absurd y ∅;exact absurd y ∅;rw[if_neg h2];by_cases a:w="signs";rw[if_pos a];subst a;rcases h with ⟨y,_⟩|⟨_,z,rfl,_⟩|⟨y,_⟩|⟨y,_⟩;exact absurd y ∅;rfl;exact absurd y ∅;exact absurd y ∅;rw[if_neg a];rfl
def Be{f:Str}{a:↥Str}(h:vD zs w p)(e:rlR w p=.comp f a):f≠ "signs" /\ 1<=a.length/\a.length<=8/\∀x∈a,x∈zs:=by unfold rlR at e;split at e;cases e;rename_i h1;split at e;cases e;rename_i h2;split at e;cases e;rename_i c;cases e;rcases h with ⟨y|y,_⟩|⟨y,_⟩|⟨_,d,b⟩|⟨_,d,b,g⟩;exact absurd y h1;exact absurd y h2;exact absurd y c;exact{c,(),(),b};exact{(c),d,b,g}
theorem wq(f:Rw->D)(n:Str):∀rows:↥Rw,gY (rows.map λr=>(.inr r.1:Key)) (rows.map f) (.inr n)=(rows.find? λr=>decide (r.1=n)).map f|[]=>rfl|r::rows=>by unfold gY;rw[ab1,ab1,acC,acA,acA];by_cases e:r.1=n;rw[show decide ((Sum.inr r.1:Key)=Sum.inr n)=true from decide_eq_true (by rw[e]),show decide (r.1=n)=true from decide_eq_true e];rfl;rw[show decide ((Sum.inr r.1:Key)=Sum.inr n)=false from decide_eq_false λy=>e (abg y),show decide (r.1=n)=false from decide_eq_false e];exact wq f n rows
def lm(B:BookL rows):gn (ksR rows) (dsR rows) (bY rows):=-λn=>by have e:gY (ksR rows) (dsR rows) (.inr n)=(rows.find? λr=>decide (r.1=n)).map λr=>aE r.2.1 r.2.2:=by{have:=wq (λr=>aE r.2.1 r.2.2) n rows;unfold ksR dsR rsR;rw[aar,aar];exact this};rw[e];unfold bY;cases h:rows.find? λr=>decide (r.1=n)with|none=>rfl|some r=>exact LJ (B.ok r (acx h)).2
def LK(h:∀r∈rows,GE zs r.2.1 r.2.2)(n:Str):ii (bY rows) (n::zs):=-λm w p e=>by unfold bY at e;cases a:rows.find? λr=>decide (r.1=m)with|none=>rw[a]at e;cases e|some r=>rw[a]at e;let⟨h1,h2,d,c⟩:=Be (h r (acx a)).2 e;exact{h1,h2,d,λx b=>aad _ (c x b)}
def OE(A:AskR rows n z k)(b:z.length<=10000)(a:f<sizeLine):∃zs:↥Str,zs.length<=46/\MkOk (bY rows) z zs n k f:=by let⟨zs,h1,h2⟩:=A.b.b.pool;refine{n::zs,by rw[ab6];nofun,LK h2 n,aac ..,A.k,?_,?_,?_,a};rw[sizeLine_eq];nofun;rw[sizeLine_eq,ab6];have:(zs.length+1)*(z.length+1)<=46*10001:=Nat.mul_le_mul () ();nofun;rw[sizeLine_eq,ab6];nofun
inductive cf:Ct
 |mk {rows:↥Rw} {n z:Str} {k f:Nat} {r:Res} {P:OV->↥OV->Prop} (A:AskR rows n z k) (hz:z.length<=10000) (hf:f<sizeLine) (hr:rdF (bY rows) z f n k=!r) (h:∀(zs:↥Str)(K:Kp),zs.length<=46->MkOk (bY rows) z zs n k f->KpOk (bY rows) z zs K->((n,k),r)∈K->P (nY K) (xG rows n z k)):cf (xG rows n z k) P
abbrev wt:Stmt:=top 48
abbrev G6:FS:=(am (bR (al b7 (aa (fFz (ab 0)) (aa (fFz (ab 1)) (aa (fFz (ab 2)) (aa (fFz (ab 3)) af)))))) (am (cn 4 pA) (am (bR (al jo (aa (fFz (fCB pz (aa (ab 0) af))) (aa (fFz (ab 2)) (aa (ab 4) (aa (fFz (ab 1)) (aa (fFz (ab 3)) af))))))) (bc (ab 4)))))
def G7:Hh cf G6 [] 5:=by intro os P h;obtain@⟨rows,n,z,k,f,r,_,A,c,d,hr,q⟩:=h;let⟨zs,a,M⟩:=OE A c d;revert(.mk A ?_)(oa {G5 A.b.b.nd,?_})(GT (K:=[]) (lm A.b.b) M {aaH,(λ_ y=>nomatch y),λ_ y=>nomatch y} hr λg e b=>?_)(q zs g a M e b)
inductive e9:Ct
 |mk {rows:↥Rw} {n z:Str} {k f:Nat} {r:Res} {P:OV->↥OV->Prop} (A:AskR rows n z k) (hz:z.length<=10000) (hf:f<sizeLine) (hr:rdF (bY rows) z f n k=!r) (h:∀a b,P (.ot [.fz (cH r.ln),.fz (.int ((r.far:Int) - (k:Int)+1)),.fl a ((bG [] (eM (bY rows) z f (n,k))).map aG),.fl b ((aT r.ls).map .str)]) (xG rows n z k)):e9 (xG rows n z k) P
abbrev mM:Stmt:=top 49
abbrev wu:FS:=(am (bS (al cf (aa (fFz (ab 0)) (aa (fFz (ab 1)) (aa (fFz (ab 2)) (aa (fFz (ab 3)) af))))) (ac 4)) (am (bS (fOp aIx (ab 4) (fL (aa (ab 1) (aa (ab 3) af)))) (i6 3 (aV (ac 5) (aV (ac 6) (aV (ac 7) i5))))) (bc (zP (aa (ab 5) (aa (ab 6) (aa (al cx (aa (fFz (fCB pz (aa (ab 0) af))) (aa (fFz (ab 2)) (aa (fFz (ab 4)) (aa (fFz (ab 1)) (aa (fFz (ab 3)) af)))))) (aa (fCB hJ (aa (ab 7) af)) af))))))))
def wv:Hh e9 wu [] 8:=by intro os P h;obtain@⟨rows,n,z,k,f,r,_,A,d,e,hr,q⟩:=h;revert(.mk A d e hr λzs K c M b a=>?_);have T:=b.res M.r a;have g:r.ls.length<=zs.length:=aas T.nd T.sub;revert{(by rw[sizeLine_eq];exact(by decide:(2:Nat)<=16777216)),?_}(c5 (show cF (lh K) (lA K) [.inr n,.inl (k:Int)]=↑(xF k r)from gN b.nd a) ?_){rfl,?_}(oa {G5 A.b.b.nd,?_})(rQ (lm A.b.b) M b hr a ?_)(gl (zs:=r.ls) () ?_);ext;intro as;revert{(by rw[sizeLine_eq];exact(by decide:(4:Nat)<=16777216)),?_}(q _ _)
abbrev bN(b0 b1 b2:Int):OV:=.fl [.int b0,.int b1,.int b2]
def WellB(b1 b2 n:Int):Prop:=0<=b1/\b1<2 ^ 200/\0<=b2/\b2<=n
def WellB.mono{m n:Int}(h:WellB b1 b2 m)(e:m<=n):WellB b1 b2 n:=-{h.1,h.2.1,h.2.2.1,acP h.2.2.2 e}
@[irreducible] def bm:Ct:=λos P=>∃(ns:↥Int)(k:Nat),os=[.fz (.lst (ns.map .int)),.fz (.int k)]/\∀z:Int,P (.fz (.int z)) os
abbrev CC:Stmt:=top 58
abbrev LL:FS:=(am (fIf (av (fOp (ir (λi j=>decide (i<j)) aY) (ab 1) (fCB eO (aa (ab 0) af)))) (bc (fOp aIx (ab 0) (ab 1))) aB) (bc (fC (.int 0))))
def LM:Hh bm LL [] 2:=by
 intro os P h;unfold bm at h;refine ex2 h ?_;clear h;rintro ns k ⟨rfl,q⟩;revert aA(ao ((k:Int)<(ns.map D.int).length) (by simp) (λb=>?_) (λ_=>?_))
 .ext;have a:k<ns.length:=by rw[abR]at b;nofun
  have e:atI (ns.map D.int) (k:Int)=!(.int ns[k]):=cV (by simp[a])
  show match atI (ns.map D.int) (k:Int)with
   |some d=>_
   |none=>False
  rw[e];exact q _
 .revert(q _)
def ww{ns:↥Int}(h:∀z:Int,P (.fz (.int z)) [.fz (.lst (ns.map .int)),.fz (.int k)]):bm [.fz (.lst (ns.map .int)),.fz (.int k)] P:=by unfold bm;exact{(ns),k,rfl,h}
inductive cQ:Ct
 |mk {a b:Int} {P:OV->↥OV->Prop} (a0:0<=a) (a1:a<2 ^ 200) (b0:0<=b) (b1:b<2 ^ 41) (h:∀z:Int,0<=z->P (.fz (.int z)) [.fz (.int a),.fz (.int b)]):cQ [.fz (.int a),.fz (.int b)] P
abbrev CD:Stmt:=top 59
abbrev LN:FS:=(am (bS (fOp dW (fOp (aIC rL λi j=>.int (i*j)) (fOp dW (ab 0) (fC (.int 1))) (fC (.int 50219736400000000000000111))) (fOp (aIC rL λi j=>.int (i*j)) (fOp dW (ab 1) (fC (.int 1))) (fC (.int 7710038100000000000000040117)))) (ac 2)) (bc (fOp (aIC (λ_ j=>0<j) λi j=>.int (i % j)) (fOp (aIC vi λi j=>.int (i ^ j.toNat)) (ab 2) (fC (.int 5))) (fC (.int 9403300000000000000000000000000000000009043)))))
def lp{x:Int}(a:0<=x)(h:x<2 ^ 300):x.natAbs<2 ^ 1000:=by have:(2:Nat) ^ 300<2 ^ 1000:=∅;nofun
def LO:Hh cQ LN [] 3:=by intro os P h;obtain@⟨a,b,_,d,c,b0,b1,q⟩:=h;revert{{lp (x:=a+1) () (),∅},?_}{{lp (x:=b+1) () (),∅},?_}{{by decide,by decide,lp (x:=(a+1)*50219736400000000000000111+(b+1)*7710038100000000000000040117) () ()},?_}{(by decide:(0:Int)<9403300000000000000000000000000000000009043),?_}(q _ (Int.emod_nonneg _ (by decide)))
inductive cR:Ct
 |mk {z:Int} {k:Nat} {P:OV->↥OV->Prop} (hk:k<=100) (h:∀b0 b1 b2,0<=b0->WellB b1 b2 0->P (bN b0 b1 b2) [.fz (.int z),.fz (.int k)]):cR [.fz (.int z),.fz (.int k)] P
abbrev CF:Stmt:=top 60
abbrev LP:FS:=(am (bS (fOp dW (fOp (aIC CMul λi j=>.int (i*j)) (fOp (aIC (λ_ j=>0<j) λi j=>.int (i % j)) (ab 0) (fC (.int 9403300000000000000000000000000000000009043))) (fC (.int 128))) (ab 1)) (ac 2)) (am (fIf (av (fOp (ir (λi j=>decide (j<=i)) λi j=>⇑(aY i j)) (ab 0) (fOp (aIC HM λi j=>.int (i ^ j.toNat)) (fC (.int 10)) (fC (.int 18))))) (bc (i4 (aa (fOp (aI0 λi j=>.int (i - j)) (ab 0) (fOp (aIC HM λi j=>.int (i ^ j.toNat)) (fC (.int 10)) (fC (.int 18)))) (aa (ab 2) (aa (fC (.int 0)) af))))) aB) (bc (i4 (aa (al cQ (aa (fFz (ab 2)) (aa (fC (.int 0)) af))) (aa (ab 2) (aa (fC (.int 0)) af)))))))
def LQ:Hh cR LP [] 3:=by intro os P h;obtain@⟨z,k,_,g,q⟩:=h;have f:=Int.emod_nonneg z (show (9403300000000000000000000000000000000009043:Int)≠0 by decide);have e:=Int.emod_lt_of_pos z (show (0:Int)<9403300000000000000000000000000000000009043 by decide);have b:0<=z % 9403300000000000000000000000000000000009043*128+(k:Int):=();have a:z % 9403300000000000000000000000000000000009043*128+(k:Int)<2 ^ 200:=();revert{(by decide:(0:Int)<9403300000000000000000000000000000000009043),?_}{.inr {by decide,by decide},?_} aA{{by decide,by decide,by decide},?_}(ao ((10:Int) ^ (18:Int).toNat<=z) decide_eq_true_iff (λc=>?_) (λc=>?_));revert{{by decide,by decide,by decide},?_}{by show 3<=sizeLine;decide,?_}(q _ _ _ (Int.sub_nonneg_of_le c) {b,a,Int.le_refl _,Int.le_refl _});revert(.mk b a (Int.le_refl _) (by decide) λy d=>?_){by show 3<=sizeLine;decide,?_}(q _ _ _ d {b,a,Int.le_refl _,Int.le_refl _})
@[irreducible] def ar:Ct:=λos P=>∃(b0 b1 b2 m n:Int),os=[bN b0 b1 b2,.fz (.int m)]/\WellB b1 b2 n/\n<2 ^ 40/\0<m/\m<1000000/\∀r c b a,0<=r->r<m->WellB b a (n+1)->P (.fz (.int r)) [bN c b a,.fz (.int m)]
abbrev CG:Stmt:=top 61
abbrev LR:FS:=(am (fIf (av (fOp aEq (fOp aIx (ab 0) (fC (.int 0))) (fC (.int 0)))) (am (o7 0 (fOp dW (fOp aIx (ab 0) (fC (.int 2))) (fC (.int 1))) (fC (.int 2))) (o7 0 (al cQ (aa (fFz (fOp aIx (ab 0) (fC (.int 1)))) (aa (fFz (fOp aIx (ab 0) (fC (.int 2)))) af))) (fC (.int 0)))) aB) (am (bS (fOp (aIC (λ_ j=>0<j) λi j=>.int (i % j)) (fOp aIx (ab 0) (fC (.int 0))) (ab 1)) (ac 2)) (am (o7 0 (fOp (aIC HL λi j=>.int (i/j)) (fOp aIx (ab 0) (fC (.int 0))) (ab 1)) (fC (.int 0))) (bc (ab 2)))))
def LS:Hh ar LR [0] 3:=by intro os P h;unfold ar at h;refine ex5 h ?_;clear h;rintro b0 b1 b2 m n ⟨rfl,⟨h1,a,h2,e⟩,g,b,c,q⟩;revert aA{aM,?_}(ao (b0=0) bu (λd=>?_) (λd=>?_));revert{rfl,?_}(.mk h1 a (show 0<=b2+1 from ()) () λy f=>?_){rfl,?_}{b,?_}{{b,()},?_}{rfl,?_}(q _ _ _ _ (Int.emod_nonneg _ ()) (Int.emod_lt_of_pos _ b) {h1,a,(),()});revert{b,?_}{{b,()},?_}{rfl,?_}(q _ _ _ _ (Int.emod_nonneg _ ()) (Int.emod_lt_of_pos _ b) {h1,a,h2,()})
def bi{m:Int}(n:Int)(g:WellB b1 b2 n)(e:n<2 ^ 40)(f:0<m)(c:m<1000000)(h:∀r d b a,0<=r->r<m->WellB b a (n+1)->P (.fz (.int r)) [bN d b a,.fz (.int m)]):ar [bN b0 b1 b2,.fz (.int m)] P:=by unfold ar;exact{(b0),b1,b2,m,n,rfl,g,e,f,c,h}
def lez(n:Nat)(h:autoParam (n<=16777216) _L.aD._auto_1):n<=sizeLine:=by rw[sizeLine_eq];exact h
def LU(z:Str):Prop:=z.cps.toList.length=1/\∀c∈z.cps.toList,32<=c/\c<=126/\c≠37
inductive cS:Ct
 |mk {b0 b1 b2:Int} (n:Int) {P:OV->↥OV->Prop} (hb:WellB b1 b2 n) (hn:n<2 ^ 39) (h:∀(c:Nat)(b0' b1' b2':Int),c∈vB.cps.toList->WellB b1' b2' (n+1)->P (.fz (.str ⟨#[c]⟩)) [bN b0' b1' b2']):cS [bN b0 b1 b2] P
abbrev CH:Stmt:=top 63
abbrev LV:FS:=(am (bS (fC (.str " !\"#$&'()*+,-./0123456789:;<=>?\x40ABCDEFGHIJKLMNOPQRSTUVWXYZ[\\]^_`abcdefghijklmnopqrstuvwxyz{|}~")) (ac 1)) (bc (fOp aIx (ab 1) (al ar (aa (ab 0) (aa (fC (.int 94)) af))))))
def LW:Hh cS LV [0] 2:=by intro os P h;obtain@⟨b0,b1,b2,n,_,c,i,q⟩:=h;have g:0<=n:=acP c.2.2.1 c.2.2.2;revert(bi n c () (by decide) (by decide) λr b0 b1 b2 f e b=>?_){∅,?_};refine kW f (by rw[show vB.cps.toList.length=94 from vC];exact e) λd a=>?_;revert(q d _ _ _ a b)
@[irreducible] def b9:Ct:=λos P=>∃(b0 b1 b2 n:Int),os=[bN b0 b1 b2]/\WellB b1 b2 n/\n<2 ^ 38/\∀(z:Str)(c b a:Int),du z->WellB b a (n+42)->P (.fz (aE "signs" [z])) [bN c b a]
abbrev wx:Stmt:=top 64
abbrev G8:FS:=(am (bS (fOp dW (fC (.int 1)) (al ar (aa (ab 0) (aa (fFz (fOp aIx (i4 (aa (fC (.int 5)) (aa (fC (.int 40)) af))) (fOp (aIC HL λi j=>.int (i/j)) (al ar (aa (ab 0) (aa (fC (.int 8)) af))) (fC (.int 7))))) af)))) (ac 1)) (bc (fL (aa (fC (.str "signs")) (aa (zr (fC (.str "")) (kU (bI [0] 1 (eS (aa (ab 1) af)) (ac 0) i3 (al cS (aa (ab 1) af))))) af)))))
theorem OG{a b:Int}{i:Int}(c:0<=i)(h:i<2)(q:∀m,(m=a∨m=b)->Q (.int m)):match atI [D.int a,D.int b] i with
  |some d=>Q d
  |none=>False:=cZ c h fun d hd=>by
 simp only[List.mem_cons,List.not_mem_nil,or_false]at hd;rcases hd with rfl|rfl
 .exact q a (.inl rfl)
 .exact q b (.inr rfl)
def G9:Hh b9 G8 [0] 2:=by intro os P h;unfold b9 at h;refine ex4 h ?_;clear h;rintro b0 b1 b2 n ⟨rfl,C,L,q⟩;have sz:=dZ;have H:0<=n:=acP C.2.2.1 C.2.2.2;revert{lez 2,?_}(bi n C () (by decide) (by decide) λr b0 b1 b2 K J B=>?_){{by decide,by decide},?_}(OG () () λm M=>?_)(bi (n+1) B () () () λr3 b0 b1 b2 F E A=>?_){{(),()},?_};ext;refine aH (λi as ρ=>∃(zs:↥Str)(x:Option OV)(b0 b1 b2:Int),as=zs.map .str/\zs.length=i/\(∀z∈zs,LU z)/\WellB b1 b2 (n+2+i)/\ ρ=[x,!(bN b0 b1 b2),!(.fz (.int (1+r3)))]) {[],none,b0,b1,b2,rfl,rfl,(λ_ h=>by cases h),A.mono (),rfl} ?_ ?_;rintro i d as ρ R hd ⟨zs,x,b0,b1,b2,rfl,u,p,b,rfl⟩ k;let⟨hi,rfl⟩:=bw hd;revert ci(.mk _ b () λd b0 b1 b2 v w=>?_){by rw[abR];nofun,k _ _ {zs++[{#[d]}],!(.fz (.int (0+i))),b0,b1,b2,by rw[aae];rfl,by simp[u],λz a=>?_,w.mono (),rfl}};rcases abS.mp a with h|h;exact p z h;have:z={#[d]}:=(by exists h);rw[this];exact{rfl,λy G=>by have:y=d:=(by exists G);rw[this];exact pE d v};rintro as ρ ⟨zs,x,b0,b1,b2,rfl,u,p,b,rfl⟩;rw[cb]at u b;have e:(nc zs).length<=zs.length:=zu zs;revert(kX {{by show _<4096;nofun,()},?_});have g:∀z∈nc zs,LU z:=λz a=>p z (kT.mp a);have f:1<=(nc zs).length:=by{have I:1<=zs.length:=();cases zs with|nil=>simp at I|cons z zs=>exact abF (kT.mpr (aac ..))};have l:=nM zs;have j:=j8 zs;generalize nc zs=ss at e g f l j ⊢;let⟨cs,rfl⟩:=pF λz a=>(g z a).1;have s:=rP l j;rw[abR]at e f;ext;have t:((cs.map λc=>({#[c]}:Str)).map (·.length)).sum=cs.length:=by{rw[aar];exact ip cs};refine kX {by rw[t,abR];show cs.length+cs.length*0<=_;nofun,?_};have o:(Builtin.Str.glued (Str.ofString "") (cs.map λc=>({#[c]}:Str))).cps.toList=cs:=(iR _).trans (kg cs);revert{lez 2,?_}(q _ _ _ _ {by rw[o];nofun,by rw[o];nofun,by rw[o];exact s,λc D=>?_} (b.mono ()));rw[o]at D;exact(g {#[c]} (abZ.mpr {(c),D,rfl})).2 c (by simp)
def Bf{n:Int}(e:WellB b1 b2 n)(d:n<2 ^ 38)(h:∀(z:Str) (c b a:Int),du z->WellB b a (n+42)->P (.fz (aE "signs" [z])) [bN c b a]):b9 [bN b0 b1 b2] P:=by unfold b9;exact{(b0),b1,b2,n,rfl,e,d,h}
def LX(o:OV)(ns:↥Str):Prop:=o=.fl (ns.map .str)
inductive bA:Ct
 |mk {b0 b1 b2:Int} (n:Int) {ns:↥Str} {o:OV} {P:OV->↥OV->Prop} (ho:LX o ns) (hb:WellB b1 b2 n) (hn:n<2 ^ 38) (hns:∀z∈ns,dc z) (hl:ns.length<=45) (h:∀(z:Str)(b0' b1' b2':Int),dc z->z∉ns->WellB b1' b2' (n+13)->P (.fz (.str z)) [bN b0' b1' b2',o]):bA [bN b0 b1 b2,o] P
abbrev mN:Stmt:=top 62
abbrev wy:FS:=(am (bS (fC (.str "abcdefghijklmnopqrstuvwxyz")) (ac 2)) (am (bS (al ar (aa (ab 0) (aa (fC (.int 3)) af))) (ac 3)) (am (bS (fOp aIx (ab 2) (al ar (aa (ab 0) (aa (fC (.int 26)) af)))) (ac 4)) (am (bS (zr (fC (.str "")) (bI [2,0] 1 (eS (aa (fOp dW (fC (.int 1)) (al ar (aa (ab 0) (aa (fC (.int 8)) af)))) af)) (ac 0) i3 (fOp aIx (ab 3) (al ar (aa (ab 1) (aa (fC (.int 26)) af)))))) (ac 5)) (am (fIf (EN (av (fOp (ir (λi j=>decide (j<i)) λi j=>aY j i) (ab 3) (fC (.int 0)))) (av (fOp aNe (ab 1) (i4 af)))) (am (bS (fOp aIx (ab 1) (al ar (aa (ab 0) (aa (fFz (fCB eO (aa (ab 1) af))) af)))) (ac 6)) (am (bS (al ar (aa (ab 0) (aa (fFz (fOp dW (fCB eO (aa (ab 6) af)) (fC (.int 1)))) af))) (ac 7)) (bS (fSl aSl (fOp dW (fOp dW (fSl aSl (ab 6) cY (fM (ab 7))) (ab 4)) (fSl aSl (ab 6) (fM (fOp (aI0 λi j=>.int (i - j)) (fOp dW (ab 7) (ab 3)) (fC (.int 1)))) cY)) cY (fM (fC (.int 8)))) (ac 5)))) aB) (am (bS (fOp dW (fOp dW (i4 (aa (ab 5) af)) (bI [2] 1 (eS (aa (fC (.int 26)) af)) (ac 0) i3 (fOp aIx (ab 3) (ab 0)))) (bI [2] 1 (eS (aa (fC (.int 26)) af)) (ac 0) i3 (fOp dW (fOp aIx (ab 3) (ab 0)) (fOp aIx (ab 3) (ab 0))))) (ac 8)) (bc (fOp aIx (bI [1] 1 (bW (ab 8)) (ac 0) (av (fOp o9 (ab 0) (ab 2))) (ab 0)) (fC (.int 0))))))))))
def fj(zs:↥Str):okDs (zs.map D.str)=true:=by induction zs with|nil=>rfl|cons z zs a=>exact a
def fW(zs:↥Str):deps (toDVs (zs.map D.str))=0:=by induction zs with|nil=>rfl|cons z zs a=>exact(Nat.zero_max _).trans a
def qd(zs:↥Str):dep (m9 (.lst (zs.map D.str)))<=40:=-aao (abL (Nat.le_of_eq (fW zs))) (by decide)
def Bg:zg (.lst (zs.map D.str)) (.lst []):=-{fj zs,rfl,qd zs}
def Ha:(⇑(dEq (.lst (zs.map D.str)) (.lst [])))=true↔zs≠[]:=by cases zs with|nil=>exact{λh=>Bool.noConfusion (show false=true from h),λh=>absurd rfl h}|cons z zs=>exact{λ_=>List.cons_ne_nil z zs,λ_=>rfl}
abbrev oe:↥Str:=abc.cps.toList.map λc=>{#[c]}
def lr:oe.length=26:=-∅
def jw(h:c∈abc.cps.toList):Cp [c]:=-λd hd=>by have:d=c:=(by exists hd);rw[this];exact GD c h
def wz(h:z∈oe):dc z:=by let⟨c,a,rfl⟩:=abZ.mp h;exact{aab 1,(by decide:(1:Nat)<=8),jw a}
abbrev qe:↥Str:=abc.cps.toList.map λc=>{#[c]}++{#[c]}
def qf:qe.length=26:=-∅
def wA(h:z∈qe):dc z:=by let⟨c,a,rfl⟩:=abZ.mp h;exact{(by decide:(1:Nat)<=2),(by decide:(2:Nat)<=8),k9 (jw a) (jw a)}
def Hb:(oe++qe).Nodup:=-∅
def Bh(h:ns.length<=45):∃z∈oe++qe,z∉ns:=by refine Classical.byContradiction λh'=>?_;have hs:∀z∈oe++qe,z∈ns:=λz a=>Classical.byContradiction λe=>h' {(z),a,e};have:=aas Hb hs;rw[aag,lr,qf]at this;nofun
def CI(h:i<26):∃c,abc.cps.toList[i]?=!c/\c∈abc.cps.toList:=by have hi:i<abc.cps.toList.length:=by{rw[nT];exact h};exact{_,abU hi,aaL hi}
def wB:Hh bA wy [0,1] 9:=by
 intro os P h;obtain@⟨b0,b1,b2,n,ns,o,_,H,E,I,T,U,q⟩:=h;have sz:=dZ;have hn0:0<=n:=acP E.2.2.1 E.2.2.2;revert(bi n E () (by decide) (by decide) λway b0 b1 b2 w0 w1 hb1=>?_)(bi (n+1) hb1 () (by decide) (by decide) λr b0 b1 b2 r0 r1 hb2=>?_){∅,?_};refine kW r0 (by rw[show (Str.ofString "abcdefghijklmnopqrstuvwxyz").cps.toList.length=26 from nT];exact r1) λc hcm=>?_;have cl1:=jw hcm;revert(bi (n+1+1) hb2 () (by decide) (by decide) λr3 b0 b1 b2 r30 r31 hb3=>?_){{(),()},?_};ext
 refine aH (λi as ρ=>∃(zs:↥Str)(x:Option OV)(b0 b1 b2:Int),as=zs.map .str/\zs.length=i/\(∀z∈zs,z.cps.toList.length=1/\Cp z.cps.toList)/\WellB b1 b2 (n+3+i)/\
   ρ=[x,!(bN b0 b1 b2),!o,!(.fz (.str abc)),!(.fz (.int way)),!(.fz (.str {#[c]})),none,none,none,none])
  {[],none,b0,b1,b2,rfl,rfl,(λ_ h=>by cases h),hb3.mono (),rfl} ?_ ?_
 .rintro i d as ρ R hd ⟨zs,x,b0,b1,b2,rfl,X,g,f,rfl⟩ k;let⟨hi,rfl⟩:=bw hd;revert ci(bi _ f () (by decide) (by decide) λr5 b0 b1 b2 N M hb5=>?_){∅,?_};refine kW N (by rw[show (Str.ofString "abcdefghijklmnopqrstuvwxyz").cps.toList.length=26 from nT];exact M) λe m=>?_;revert{by rw[abR];nofun,k _ _ {zs++[{#[e]}],!(.fz (.int (0+i))),b0,b1,b2,by rw[aae];rfl,by simp[X],λz b=>?_,hb5.mono (),rfl}};rcases abS.mp b with h|h
  .exact g z h
  .have:z={#[e]}:=(by exists h);rw[this];exact{rfl,jw m}
 .rintro as ρ ⟨zs,x,b0,b1,b2,rfl,X,g,f,rfl⟩;rw[cb]at X f
  have B:(zs.map λz=>z.cps.toList).flatten.length=zs.length:=by
   rw[List.length_flatten,aar];have:zs.map ((λl:↥Nat=>l.length) ∘ λz:Str=>z.cps.toList)=zs.map λ_=>1:=abh λz b=>(g z b).1;rw[show (List.map (List.length ∘ λz:Str=>z.cps.toList) zs)=zs.map λ_=>1 from this];exact ip zs
  have V:(zs.map (·.length)).sum=zs.length:=by
   have:zs.map (·.length)=zs.map λ_=>1:=abh λz b=>by rw[bB];exact(g z b).1
   rw[this];exact ip zs
  have Y:(Builtin.Str.glued (Str.ofString "") zs).cps.toList=(zs.map λz=>z.cps.toList).flatten:=iR zs
  have hN:dc (Builtin.Str.glued (Str.ofString "") zs):=by
   refine{by rw[Y,B];nofun,by rw[Y,B];nofun,?_};rw[Y];intro y a;let⟨l,W,O⟩:=List.mem_flatten.mp a;let⟨z,b,rfl⟩:=abZ.mp W;exact(g z b).2 y O
  revert(kX {by rw[V];show zs.length+zs.length*0<=_;nofun,?_});generalize Builtin.Str.glued (Str.ofString "") zs=nm at hN ⊢;revert(ji (λρ=>∃(z:Str)(b0 b1 b2:Int)(s p:Option OV),dc z/\WellB b1 b2 (n+13)/\ρ=[!(bN b0 b1 b2),!o,!(.fz (.str abc)),!(.fz (.int way)),!(.fz (.str {#[c]})),!(.fz (.str z)),s,p,none]) ?_ ?_)
  .rintro ρ ⟨z,b0,b1,b2,s,p,g,E,rfl⟩;revert{lez 1,?_}{{by decide,by decide},?_}(aH (λi as ρ=>∃(x:Option OV),as=(oe.take i).map .str/\ρ=[x,!(bN b0 b1 b2),!o,!(.fz (.str abc)),!(.fz (.int way)),!(.fz (.str {#[c]})),!(.fz (.str z)),s,p,none]) {(none),rfl,rfl} ?_ ?_)
   .rintro i d as ρ R hd ⟨x,rfl,rfl⟩ k;let⟨hi,rfl⟩:=bw hd;let⟨e,C,m⟩:=CI (i:=i) ();have J:atI abc.cps.toList ((0:Int)+i)=!e:=by rw[Int.zero_add];exact cV C
    revert ci{∅,?_};rw[J];revert{by rw[abR,aam];nofun,k _ _ {_,?_,rfl}};rw[aaq,abW,C,aae];rfl
   .rintro as ρ ⟨x,rfl,rfl⟩;rw[cb,show oe.take (26:Int).toNat=oe from ∅];revert{by show 1+(oe.map D.str).length<=sizeLine;rw[abR,lr];nofun,?_}{{by decide,by decide},?_}(aH (λi as ρ=>∃(x:Option OV),as=(qe.take i).map .str/\ρ=[x,!(bN b0 b1 b2),!o,!(.fz (.str abc)),!(.fz (.int way)),!(.fz (.str {#[c]})),!(.fz (.str z)),s,p,none]) {(none),rfl,rfl} ?_ ?_)
    .rintro i d as ρ R hd ⟨x,rfl,rfl⟩ k;let⟨hi,rfl⟩:=bw hd;let⟨e,C,m⟩:=CI (i:=i) ();have J:atI abc.cps.toList ((0:Int)+i)=!e:=by rw[Int.zero_add];exact cV C
     revert ci{∅,?_};rw[J];revert{∅,?_};rw[J];revert{by show 1+1<=sizeLine;nofun,?_}{by rw[abR,aam];nofun,k _ _ {_,?_,rfl}};rw[aaq,abW,C,aae];rfl
    .rintro as ρ ⟨x,rfl,rfl⟩;rw[cb,show qe.take (26:Int).toNat=qe from ∅];have eL:[D.str z]++oe.map D.str++qe.map D.str=(z::(oe++qe)).map D.str:=by rw[ab1,aae];rfl
     have G:∀y∈z::(oe++qe),dc y:=λy a=>by
      rcases ab2.mp a with rfl|a
      .exact g
      .rcases abS.mp a with a|a
       .exact wz a
       .exact wA a
     have F:∃y∈z::(oe++qe),y∉ns:=by
      let⟨y,a,I⟩:=Bh U;exact{y,aad _ a,I}
     have hL3:(z::(oe++qe)).length<=60:=by rw[ab6,aag,lr,qf];nofun
     revert{by rw[←aag,eL,abR];nofun,?_};rw[eL];generalize z::(oe++qe)=L at G F hL3;revert(aH (λi as ρ=>∃(x:Option OV),as=((L.take i).filter λy=>decide (y∉ns)).map .str/\ρ=[x,!(bN b0 b1 b2),!o,!(.fz (.str abc)),!(.fz (.int way)),!(.fz (.str {#[c]})),!(.fz (.str z)),s,p,!(.fz (.lst (L.map .str)))]) {(none),rfl,rfl} ?_ ?_)
     .rintro i d as ρ R hd ⟨x,rfl,rfl⟩ k
      obtain⟨y,a,rfl⟩:∃y,L[i]?=!y/\d=.str y:=by
       rw[abW,aai]at hd;let⟨r,h1,h2⟩:=hd;exact{(r),h1,h2.symm}
      have Z:=aaZ (λy=>decide (y∉ns)) (L.take i);rw[aam]at Z;subst H
      all_goals
       revert{{rfl,iu ns},?_}(ao (y∉ns) (by rw[aaX,abJ,Ne,cq]) (λS=>?_) (λS=>?_))
       .revert{by rw[abR];nofun,k _ _ {_,?_,rfl}};rw[aaq,a,aa1,aae];simp[S]
       .refine k _ _ {_,?_,rfl};rw[aaq,a,aa1,aae];have Q:=Classical.not_not.mp S;simp[Q]
     .rintro as ρ ⟨x,rfl,rfl⟩;rw[abR,aah (aab _)]
      obtain⟨y,r,e⟩:∃y r,L.filter (λy=>decide (y∉ns))=y::r:=by
       cases h:L.filter (λy=>decide (y∉ns))with
       |nil=>
        let⟨y,a,I⟩:=F;have:y∈L.filter (λy=>decide (y∉ns)):=acb.mpr {a,decide_eq_true I};rw[h]at this;cases this
       |cons y r=>exact{(y),r,rfl}
      have hm:y∈L.filter (λy=>decide (y∉ns)):=by rw[e];exact aac ..
      let⟨m1,m2⟩:=acb.mp hm;rw[e,ab1];revert b8(q _ _ _ _ (G y m1) (of_decide_eq_true m2) E)
  .intro rest;revert(ao (0<way) decide_eq_true_iff (λhw=>?_) (λhw=>?_))
   .subst H
    all_goals
     revert{aan _,?_}{Bg,?_}(ao (ns≠[]) Ha (λA=>?_) (λA=>rest _ {nm,b0,b1,b2,_,_,hN,f.mono (),rfl}));have hlp:0<ns.length:=List.length_pos_iff.mpr A;have hlm:(ns.map D.str).length=ns.length:=abR ..;revert(bi _ f () () () λr6 b0 b1 b2 K r61 hb6=>?_)(cZ K () λd hd=>?_);let⟨old,H,rfl⟩:=abZ.mp hd;let⟨o1,o2,o3⟩:=T old H;have hol:old.length=old.cps.toList.length:=bB old;revert{(),?_}(bi _ hb6 () () () λat' b0 b1 b2 a0 a1 hb7=>?_);let⟨k,rfl⟩:=abE a0;revert{(),?_};have w:=(la old none !(k:Int)).trans (tN old.cps.toList k);have l1:(gZ old none !(k:Int)).length=k:=by rw[tO w,aam];nofun
     revert{by rw[l1];show k+1<=sizeLine;nofun,?_}{(),?_};obtain⟨j,ej⟩:∃j:Nat,(k:Int)+way - 1=j:={((k:Int)+way - 1).toNat,()};have v:(gZ old ↑((k:Int)+way - 1) none).cps.toList=old.cps.toList.drop j:=(la ..).trans (by rw[ej];exact cX ..);have l2:(gZ old ↑((k:Int)+way - 1) none).length=old.cps.toList.length - j:=by rw[tO v,aaC]
     have t:(gZ old none ↑(k:Int)++({#[c]}:Str)).length=k+1:=by rw[bB,gC,aag,←bB,l1];rfl
     revert{by rw[t,l2];nofun,?_};have l3:(gZ old none ↑(k:Int)++({#[c]}:Str)++gZ old ↑((k:Int)+way - 1) none).length=k+1+(old.cps.toList.length - j):=by rw[bB,gC,aag,←bB,←bB,t,l2]
     have h3:Cp (gZ old none ↑(k:Int)++({#[c]}:Str)++gZ old ↑((k:Int)+way - 1) none).cps.toList:=by
      rw[gC,gC,w,v];exact k9 (k9 (λd hd=>o3 d (abb hd)) cl1) λd hd=>o3 d (abr hd)
     generalize gZ old none ↑(k:Int)++({#[c]}:Str)++gZ old ↑((k:Int)+way - 1) none=y at l3 h3 ⊢;revert{(),?_};have u:=(la y none !((8:Nat):Int)).trans (tN y.cps.toList 8);have hyl:=bB y;refine rest _ {gZ y none !8,b0,b1,b2,_,_,{?_,?_,?_},hb7.mono (),rfl}
     .exact(by rw[u,aam];nofun:1<=(gZ y none !((8:Nat):Int)).cps.toList.length)
     .exact(by rw[u,aam];nofun:(gZ y none !((8:Nat):Int)).cps.toList.length<=8)
     .exact λd hd=>h3 d (yr (by rw[←la];exact hd))
   .revert(cm (rest _ {nm,b0,b1,b2,_,_,hN,f.mono (),rfl}))
abbrev bn(rows:↥Rw):OV:=.fd ((rows.map (·.1)).map Sum.inr) (rows.map λr=>aE r.2.1 r.2.2)
inductive dL:Ct
 |mk {b0 b1 b2:Int} (n:Int) {rows:↥Rw} {P:OV->↥OV->Prop} (hb:WellB b1 b2 n) (hn:n<2 ^ 38) {M:Nat} (hM:M<=24) (hr:∀r∈rows,r.2.1="signs" ->∃y,r.2.2=[y]/\du y) (hl:rows.length<=30) (h:∀(z:Str)(b0' b1' b2':Int),z.length<=M->(∀c∈z.cps.toList,32<=c/\c<=126/\c≠37)->WellB b1' b2' (n+100)->P (.fz (.str z)) [bN b0' b1' b2',bn rows,.fz (.int M)]):dL [bN b0 b1 b2,bn rows,.fz (.int M)] P
abbrev CJ:Stmt:=top 68
abbrev LY:FS:=(am (bS (zr (fC (.str "")) (uU [] 1 1 (ac 0) (av (fOp aEq (fOp aIx (ab 0) (fC (.int 0))) (fC (.str "signs")))) (fOp aIx (ab 0) (fC (.int 1))))) (ac 3)) (am (bS (fC (.str "")) (ac 4)) (am (kJ (eS (aa (al ar (aa (ab 0) (aa (fFz (fOp dW (ab 2) (fC (.int 1)))) af))) af)) (ac 5) (am (bS (al cS (aa (ab 0) af)) (ac 6)) (am (fIf (EN (av (fOp aNe (ab 3) (fC (.str "")))) (av (fOp (ir (λi j=>decide (j<i)) λi j=>aY j i) (al ar (aa (ab 0) (aa (fC (.int 8)) af))) (fC (.int 0))))) (bS (fOp aIx (ab 3) (al ar (aa (ab 0) (aa (fFz (fCB eO (aa (ab 3) af))) af)))) (ac 6)) aB) (bS (fOp dW (ab 4) (ab 6)) (ac 4))))) (bc (ab 4)))))
theorem qg:∀{zs:↥Str},(∀y∈zs,du y)->(zs.map (·.length)).sum<=40*zs.length|[],_=>aab _|z::zs,h=>by have h1:=(h z (aac ..)).2.1;have h2:=qg (zs:=zs) λy a=>h y (aad _ a);have b:=bB z;rw[ab1,List.sum_cons,ab6];nofun
def Hc(h:∀y∈zs,du y):∀c∈(zs.map λz=>z.cps.toList).flatten,32<=c/\c<=126/\c≠37:=-λc e=>by let⟨l,d,b⟩:=List.mem_flatten.mp e;let⟨z,a,rfl⟩:=abZ.mp d;exact(h z a).2.2.2 c b
theorem wC:∀{zs:↥Str},(∀y∈zs,du y)->(zs.map λz=>z.cps.toList).flatten.length<=40*zs.length|[],_=>aab _|z::zs,h=>by have h1:=(h z (aac ..)).2.1;have h2:=wC (zs:=zs) λy a=>h y (aad _ a);rw[ab1,List.flatten_cons,aag,ab6];nofun
def LZ:Hh dL LY [0,1] 7:=by intro os P h;obtain@⟨b0,b1,b2,n,rows,_,F,hn,M,hM,hr,hl,q⟩:=h;have sz:=dZ;have V:0<=n:=acP F.2.2.1 F.2.2.2;ext;refine aH (λi as ρ=>∃(x:Option OV)(zs:↥Str),as=zs.map .str/\zs.length<=i/\(∀y∈zs,du y)/\ρ=[x,fzo !(bN b0 b1 b2),!(.fz (.dct ((rows.map (·.1)).map Sum.inr) (rows.map λr=>aE r.2.1 r.2.2))),fzo !(.fz (.int M)),fzo none,fzo none,fzo none,fzo none]) {none,[],rfl,aab _,(λ_ h=>nomatch h),rfl} ?_ ?_;rintro i d as ρ R hd ⟨x,zs,rfl,j,g,rfl⟩ k;obtain⟨r,l,rfl⟩:∃r,rows[i]?=!r/\d=aE r.2.1 r.2.2:=by{have hd:(rows.map λr=>aE r.2.1 r.2.2)[i]?=!d:=hd;rw[abW,aai]at hd;let⟨r,h1,h2⟩:=hd;exact{(r),h1,h2.symm}};have hi:=(abT.mp l).1;revert b8{ai,?_}(ao (r.2.1="signs") au (λI=>?_) (λI=>?_));obtain⟨y,Q,hs⟩:∃y,r.2.2=[y]/\du y:=hr r (abX l) I;rw[Q];revert{by rw[abR];nofun,k _ _ {_,zs++[y],by rw[aae];rfl,by rw[aag,aaR];nofun,λv S=>?_,rfl}};rcases abS.mp S with h|h;exact g v h;rw[abY.mp h];exact hs;exact k _ _ {_,zs,rfl,(),g,rfl};rintro as ρ ⟨x,zs,rfl,j,g,rfl⟩;have H:zs.length<=30:=by{have e:(N4 ((rows.map (·.1)).map Sum.inr) (rows.map λr=>aE r.2.1 r.2.2)).length=rows.length:=by{show (rows.map _).length=_;rw[abR]};rw[e]at j;nofun};have h1:=qg g;have W:(Builtin.Str.glued (Str.ofString "") zs).cps.toList=(zs.map λz=>z.cps.toList).flatten:=iR zs;have h2:=wC g;have G:=Hc g;rw[←W]at h2 G;refine{{_,rfl},?_};revert(kX {by show _+zs.length*0<=_;nofun,?_});generalize Builtin.Str.glued (Str.ofString "") zs=own at h2 G ⊢;have U:=bB own;revert(bi n F () () () λm b0 b1 b2 m0 Z E=>?_){{(),()},?_};ext;refine bf (λi ρ=>∃(t:Str)(w u:Option OV)(b0 b1 b2:Int),t.cps.toList.length=i/\(∀c∈t.cps.toList,32<=c/\c<=126/\c≠37)/\WellB b1 b2 (n+1+3*i)/\ρ=[!(bN b0 b1 b2),!(bn rows),!(.fz (.int M)),!(.fz (.str own)),!(.fz (.str t)),w,u]) {"",_,_,b0,b1,b2,rfl,(λ_ h=>nomatch h),E.mono (),rfl} ?_ ?_;rintro i d ρ R hd ⟨t,w,u,b0,b1,b2,f,B,b,rfl⟩ k;let⟨hi,rfl⟩:=bw hd;have J:=bB t;revert(.mk _ b () λc b0 b1 b2 C p=>?_);have o:=pE c C;revert(ji (λρ=>∃(c:Nat)(b0 b1 b2:Int),(32<=c/\c<=126/\c≠37)/\WellB b1 b2 (n+1+3*i+3)/\ρ=[!(bN b0 b1 b2),!(bn rows),!(.fz (.int M)),!(.fz (.str own)),!(.fz (.str t)),!(.fz (.int (0+i))),!(.fz (.str {#[c]}))]) ?_ ?_);rintro ρ ⟨c,b0,b1,b2,C,a,rfl⟩;revert{by show t.length+1<=sizeLine;nofun,?_};refine k _ {t++{#[c]},_,_,b0,b1,b2,by rw[gC,aag,f];rfl,λe s=>?_,a.mono (),rfl};rw[gC]at s;rcases abS.mp s with h|h;exact B e h;have:e=c:=(by exists h);rw[this];exact C;intro rest;revert{ai,?_}(ao (own≠ "") pf (λX=>?_) (λ_=>?_));have T:0<own.cps.toList.length:=by{refine Nat.pos_of_ne_zero λz=>X (gB ?_);rw[aaD z];rfl};revert(bi _ p () (by decide) (by decide) λO b0 b1 b2 N L a=>?_)(ao (0<O) decide_eq_true_iff (λ_=>?_) (λ_=>?_));revert{(),?_}(bi _ a () () () λY b0 b1 b2 A K D=>?_){(),?_};refine kW A () λe s=>?_;exact rest _ {e,b0,b1,b2,G e s,D.mono (),rfl};exact rest _ {c,b0,b1,b2,o,a.mono (),rfl};revert(cm (rest _ {c,b0,b1,b2,o,p.mono (),rfl}));rintro ρ ⟨t,w,u,b0,b1,b2,f,B,b,rfl⟩;rw[cb]at f b;revert(q t b0 b1 b2 (by rw[bB];nofun) B (b.mono ()))
def de(rows:↥Rw)(n:Str):Option Rw:=rows.find? λr=>decide (r.1=n)
def bo(h:n∈rows.map (·.1)):∃r∈rows,r.1=n/\de rows n=!r:=by let⟨r,hr,e⟩:=abZ.mp h;cases q:de rows n with|none=>have:=acs.mp q r hr;simp[e]at this|some r'=>have h1:=List.find?_some q;exact{r',acx q,of_decide_eq_true h1,rfl}
def ag(rows:↥Rw):↥Rw:=(aT (rows.map (·.1))).filterMap (de rows)
inductive cg:Ct
 |mk {rows:↥Rw} {P:OV->↥OV->Prop} (nd:(rows.map (·.1)).Nodup) (hl:rows.length<=30) (h:P (.fl ((ag rows).map gy)) [bn rows]):cg [bn rows] P
abbrev qh:Stmt:=top 69
abbrev Bi:FS:=(bc (bI [0] 1 (bW (fCB hJ (aa (ab 0) af))) (ac 0) i3 (fL (aa (ab 0) (aa (fOp aIx (ab 1) (ab 0)) af)))))
def fE{r:Rw}(h:de rows n=!r):gY ((rows.map (·.1)).map Sum.inr) (rows.map λr=>aE r.2.1 r.2.2) (.inr n)=!(aE r.2.1 r.2.2):=by unfold de at h;induction rows with|nil=>cases h|cons a rows b=>unfold gY at b ⊢;rw[ab1,ab1,ab1,acC,acA];rw[acA]at h;by_cases e:a.1=n;rw[decide_eq_true e]at h;cases h;rw[decide_eq_true (congrArg Sum.inr e)];rfl;rw[decide_eq_false e]at h;rw[show decide ((Sum.inr a.1:Key)=Sum.inr n)=false from decide_eq_false λz=>e (abg z)];exact b h
def Hd{f:α->Option β}{l:↥α}{a:α}{b:β}(h:l[i]?=!a)(c:f a=!b):(l.take (i+1)).filterMap f=(l.take i).filterMap f++[b]:=by rw[aaq,h,abK];simp[c]
def Bj:Hh cg Bi [0] 1:=by intro os P h;obtain@⟨rows,_,nd,g,q⟩:=h;have sz:=dZ;revert(gl (by rw[abR];nofun) ?_);have c:(aT (rows.map (·.1))).length=rows.length:=by{rw[(aq _).length_eq,abR]};have a:∀z∈aT (rows.map (·.1)),z∈rows.map (·.1):=λz b=>(aq _).mem_iff.mp b;unfold ag at q;generalize aT (rows.map (·.1))=ss at c a q ⊢;revert(aH (λi as ρ=>∃(x:Option OV),as=((ss.take i).filterMap (de rows)).map gy/\ρ=[x,!(bn rows)]) {(none),rfl,rfl} ?_ ?_);rintro i d as ρ R hd ⟨x,rfl,rfl⟩ k;obtain⟨z,b,rfl⟩:∃y,ss[i]?=!y/\d=.str y:=by{rw[abW,aai]at hd;let⟨r,h1,h2⟩:=hd;exact{(r),h1,h2.symm}};let⟨r,hr,rfl,e⟩:=bo (a z (abX b));have f:=List.length_filterMap_le (de rows) (ss.take i);rw[aam]at f;revert ci;ext;rw[fE e];revert{lez 2,?_}{by rw[abR];nofun,k _ _ {_,?_,rfl}};rw[Hd b e,aae];rfl;rintro as ρ ⟨x,rfl,rfl⟩;rw[abR,aah (aab _)];revert(q)
def hX:(ag rows).map (·.1)=aT (rows.map (·.1)):=by unfold ag;have a:∀z∈aT (rows.map (·.1)),z∈rows.map (·.1):=λz c=>(aq _).mem_iff.mp c;generalize aT (rows.map (·.1))=ss at a ⊢;induction ss with|nil=>rfl|cons z ss b=>let⟨r,hr,f,e⟩:=bo (a z (aac ..));rw[aa8,e];show r.1::_=_;rw[b λy d=>a y (aad _ d),f]
def bV{r:Rw}(h:r∈ag rows):r∈rows:=by unfold ag at h;let⟨n,_,e⟩:=acN.mp h;exact acx e
def qi{a b:Str}(h:db a b=true)(ne:a≠b):aY a b=true:=by cases e:aY a b with|true=>rfl|false=>exact absurd (gI h (by show (⇑(aY a b))=true;rw[e];rfl)) ne
theorem qj:∀{ps zs:↥Str}{x:Str},x∈lB zs ps->x∈ps|[],_,_,h=>nomatch h|p::ps,zs,x,h=>by unfold lB at h;split at h;rcases ab2.mp h with y|y;rw[y];exact aac ..;exact aad _ (qj y);rw[abY.mp h];exact aac ..
def cT{rest:↥Str}(h:x∈bL zs w rest):x∈bX w rest:=by unfold bL at h;split at h;rename_i h1;unfold bX;rw[if_neg (by rw[h1];decide+kernel)];exact qj h;exact h
structure RulesB(rows:↥Rw)(pool:↥Str)(rank:Str->Nat):Prop where
 nd:(rows.map (·.1)).Nodup
 ok:∀r∈rows,dc r.1/\vD pool r.2.1 r.2.2
 few:rows.length<=30
 pn:∀z∈pool,dc z
 pl:pool.length<=45
 dw:∀zs:↥Str,(∀z,z∈zs↔Emp (ag rows) z)->∀r∈rows,∀p∈bL zs r.2.1 r.2.2,rank p<rank r.1
def ia{rank:Str->Nat}(R:RulesB rows pool rank):BookR (ag rows):=by have f:=hX (rows:=rows);have b:((ag rows).map (·.1)).Nodup:=by{rw[f];exact(aq _).nodup_iff.mpr R.nd};have o:(ag rows).length=rows.length:=by{have:=congrArg List.length f;rw[abR,(aq _).length_eq,abR]at this;exact this};refine{{b,λr hr=>?_,by rw[o];have:=R.few;nofun,{pool,R.pl,λr hr=>{R.pn,(R.ok r (bV hr)).2}}},λi r s hr hs=>?_,λzs j S q=>?_};have:=R.ok r (bV hr);exact{(this.1),pool,R.pn,this.2};have h1:((ag rows).map (·.1))[i]?=!r.1:=by{rw[abW,hr];rfl};have h2:((ag rows).map (·.1))[i+1]?=!s.1:=by{rw[abW,hs];rfl};have hs:=bt (rows.map (·.1));rw[←f]at hs;let⟨g1,u⟩:=abT.mp h1;let⟨g2,t⟩:=abT.mp h2;have c:=acm.mp hs i (i+1) g1 g2 (aaz i);have a:=acm.mp b i (i+1) g1 g2 (aaz i);rw[u,t]at c a;exact qi c a;cases S with|nil=>rfl|cons n S=>have go:∀(m:Nat)(x:Str),x∈n::S->rank x<m->False:=by{intro m;induction m with|zero=>intro x _ h;nofun|succ m g=>intro x k h;let⟨r,hr,e,p,l,d⟩:=q x k;have:=R.dw zs j r (bV hr) p l;rw[e]at this;exact g p d ()};exact(go (rank n+1) n (aac ..) (aaz _)).elim
def mO(nd:(rows.map (·.1)).Nodup):de (ag rows) n=de rows n:=by by_cases h:n∈rows.map (·.1);let⟨r,hr,d,e⟩:=bo h;let⟨r',b,c,f⟩:=bo (rows:=ag rows) (n:=n) (by rw[hX];exact(aq _).mem_iff.mpr h);rw[e,f,ju nd hr (bV b) (c.trans d.symm)];have g:∀a:↥Rw,(∀r∈a,r∈rows)->de a n=none:=λa hs=>acs.mpr λr hr=>by{have:r.1≠n:=λe=>h (abZ.mpr {r,hs r hr,e});simpa using this};rw[g _ λr hr=>bV hr,g _ λr hr=>hr]
theorem jx(nd:(rows.map (·.1)).Nodup):bY (ag rows) n=match de rows n with
  |none=>.leaf .lack
  |some r=>rlR r.2.1 r.2.2:=by
 show (match de (ag rows) n with
  |none=>Rl.leaf .lack
  |some r=>rlR r.2.1 r.2.2)=_
 rw[mO nd]
def wD{b:↥Rw}(c:∀r∈b,r.1≠n):gY ((b.map (·.1)).map Sum.inr) (b.map λr=>aE r.2.1 r.2.2) (.inr n)=none:=by induction b with|nil=>rfl|cons a b d=>unfold gY at d ⊢;rw[ab1,ab1,ab1,acC,acA];rw[show decide ((Sum.inr a.1:Key)=Sum.inr n)=false from decide_eq_false λz=>c a (aac ..) (abg z)];exact d λr hr=>c r (aad _ hr)
def wF(h:R n=.leaf l):rdF R z (f+1) n k=!{jm l z k,k,[n]}:=by show goF R z (f+1) (bC R z n k) k [n]=_;rw[show bC R z n k={.leaf l,n,k,k,0,[],true,jm l z k} by unfold bC;rw[h]];exact fS rfl
def Bk(h:y∉zs):jc (zs.map Sum.inr) ds (.inr y) d=(zs.map Sum.inr++[.inr y],ds++[d]):=by unfold jc;rw[if_neg];intro e;let⟨x,b,a⟩:=List.any_eq_true.mp e;let⟨v,c,rfl⟩:=abZ.mp b;exact h (abg (of_decide_eq_true a) ▸ c)
def wG{rest:↥Str}(h:y∉rows.map (·.1)):bn (rows++[(y,w,rest)])=.fd (jc ((rows.map (·.1)).map Sum.inr) (rows.map λr=>aE r.2.1 r.2.2) (.inr y) (aE w rest)).1 (jc ((rows.map (·.1)).map Sum.inr) (rows.map λr=>aE r.2.1 r.2.2) (.inr y) (aE w rest)).2:=by rw[Bk h];unfold bn;rw[aae,aae,aae];rfl
abbrev gr(ln:Option Nat)(m:Int)(st:↥Sp2)(ls:↥Str):D:=.tup [cH ln,.int m,.lst (st.map aG),.lst (ls.map .str)]
theorem km:∀st:↥Sp2,okDs (st.map aG)=true|[]=>rfl|_::st=>ab8.mpr {rfl,km st}
theorem kn:∀st:↥Sp2,deps (toDVs (st.map aG))<=1|[]=>aan _|_::st=>acI.mpr {aab 1,kn st}
def dA(d:D):dEq d d=true:=-oQ _
def L0(later a rest:↥Str):Prop:=∀i x,rest[i]?=!x->(∀y∈rest.take i,y∉a)->x∈later
def og(later every a:↥Str)(w:Str)(rest:↥Str):Prop:=((w="none"∨w="any")/\rest=[])∨(w="signs" /\ ∃z,rest=[z]/\du z)∨((w="again"∨w="ahead"∨w="not")/\∃x,rest=[x]/\x∈later)∨(w="first" /\ 1<=rest.length/\rest.length<=8/\∀x∈rest,x∈later)∨(w="row" /\ 1<=rest.length/\rest.length<=8/\(∀x∈rest,x∈every)/\L0 later a rest)
def jy(a:↥Str)(w:Str)(rest:↥Str):Prop:=if w="row" then ∃x∈rest,x∈a else if w="first" then ∀x∈rest,x∈a else w="signs"∨w="any"
inductive c7:Ct
 |mk {w:Str} {rest solid:↥Str} {P:OV->↥OV->Prop} (hr0:(w="row"∨w="first")->1<=rest.length) (hr:rest.length<=8) (hs:solid.length<=100) (h:∀b:Bool,(b=true↔jy solid w rest)->P (.fz (.bl b)) [.fz (aE w rest),.fl (solid.map .str)]):c7 [.fz (aE w rest),.fl (solid.map .str)] P
abbrev wH:Stmt:=top 66
abbrev He:FS:=(am (fIf (av (fOp aEq (fOp aIx (ab 0) (fC (.int 0))) (fC (.str "row")))) (bc (fCB KG (aa (bI [1] 1 (ut (fSl aSl (ab 0) (fM (fC (.int 1))) cY)) (ac 0) i3 (fOp aIn (ab 0) (ab 2))) af))) aB) (am (fIf (av (fOp aEq (fOp aIx (ab 0) (fC (.int 0))) (fC (.str "first")))) (bc (fCB uG (aa (bI [1] 1 (ut (fSl aSl (ab 0) (fM (fC (.int 1))) cY)) (ac 0) i3 (fOp aIn (ab 0) (ab 2))) af))) aB) (bc (MS (fOp aEq (fOp aIx (ab 0) (fC (.int 0))) (fC (.str "signs"))) (fOp aEq (fOp aIx (ab 0) (fC (.int 0))) (fC (.str "any")))))))
def Hf:Hh c7 He [1] 2:=by intro os P h;obtain@⟨w,rest,a,_,f,hr,hs,q⟩:=h;have sz:=sizeLine_eq;revert aA b8{ai,?_}(ao (w="row") au (λh=>?_) (λh=>?_));have g:=f (.inl h);have c:gc (D.str w::rest.map D.str) ↑1 none=rest.map .str:=cX _ 1;revert{by show dq (List.length (D.str w::rest.map D.str)) ↑((1:Nat):Int) none;unfold dq;rw[HT.sIx_nat,ab6];nofun,?_};rw[c];revert(aH (λi as ρ=>∃x:Option OV,as=(rest.take i).map (λz=>D.bl (inD (.str z) (a.map D.str)))/\ρ=[x,!(.fz (aE w rest)),!(.fl (a.map .str))]) {(none),rfl,rfl} ?_ ?_);rintro i d as ρ R hd ⟨x,rfl,rfl⟩ k;rw[abW,aai]at hd;let⟨z,e,rfl⟩:=hd;revert ci{{rfl,iu _},?_}{by rw[abR,aam];nofun,k _ _ {!(.fz (.str z)),by rw[aaq,e,aae];rfl,rfl}};rintro as ρ ⟨x,rfl,rfl⟩;rw[abR,aah (aab _),show rest.map (λz=>D.bl (inD (.str z) (a.map D.str)))=(rest.map λz=>inD (.str z) (a.map D.str)).map D.bl by rw[aar];rfl];revert j9(q _ ?_);unfold jy;rw[if_pos h,abA,aaM];exact{fun⟨z,h1,h2⟩=>{z,h1,cq.mp h2},fun⟨z,h1,h2⟩=>{z,h1,cq.mpr h2}};revert aA b8{ai,?_}(ao (w="first") au (λh2=>?_) (λh2=>?_));have g:=f (.inr h2);have c:gc (D.str w::rest.map D.str) ↑1 none=rest.map .str:=cX _ 1;revert{by show dq (List.length (D.str w::rest.map D.str)) ↑((1:Nat):Int) none;unfold dq;rw[HT.sIx_nat,ab6];nofun,?_};rw[c];revert(aH (λi as ρ=>∃x:Option OV,as=(rest.take i).map (λz=>D.bl (inD (.str z) (a.map D.str)))/\ρ=[x,!(.fz (aE w rest)),!(.fl (a.map .str))]) {(none),rfl,rfl} ?_ ?_);rintro i d as ρ R hd ⟨x,rfl,rfl⟩ k;rw[abW,aai]at hd;let⟨z,e,rfl⟩:=hd;revert ci{{rfl,iu _},?_}{by rw[abR,aam];nofun,k _ _ {!(.fz (.str z)),by rw[aaq,e,aae];rfl,rfl}};rintro as ρ ⟨x,rfl,rfl⟩;rw[abR,aah (aab _),show rest.map (λz=>D.bl (inD (.str z) (a.map D.str)))=(rest.map λz=>inD (.str z) (a.map D.str)).map D.bl by rw[aar];rfl];revert j9(q _ ?_);unfold jy;rw[if_neg h,if_pos h2,List.all_map,abN];exact{λe z h1=>cq.mp (e z h1),λe z h1=>cq.mpr (e z h1)};revert b8{ai,?_};ext;have l:∀b:Bool,(b=true↔w="signs"∨w="any")->P (.fz (.bl b)) [.fz (aE w rest),.fl (a.map .str)]:=λb m=>q b (by unfold jy;rw[if_neg h,if_neg h2];exact m);refine ao (w="signs") au (λj=>?_) (λj=>?_);revert(l true {λ_=>.inl j,λ_=>rfl});revert b8{ai,?_}(l _ (au.trans {.inr,λy=>y.resolve_left j}))
@[irreducible] def cz:Ct:=λos P=>∃(b0 b1 b2 n:Int)(later every a:↥Str),os=[bN b0 b1 b2,.fz (.lst (later.map .str)),.fz (.lst (every.map .str)),.fl (a.map .str)]/\WellB b1 b2 n/\n<2 ^ 37/\1<=later.length/\later.length<=100/\every.length<=100/\a.length<=100/\(∀x∈later,x∈every)/\ ∀(w:Str)(rest:↥Str)(d c b:Int),og later every a w rest->WellB c b (n+60)->P (.fz (aE w rest)) [bN d c b,.fz (.lst (later.map .str)),.fz (.lst (every.map .str)),.fl (a.map .str)]
abbrev wI:Stmt:=top 65
abbrev Hg:FS:=(am (bS (i4 (aa (fC (.str "row")) (aa (fC (.str "first")) (aa (fC (.str "again")) (aa (fC (.str "row")) (aa (fC (.str "not")) (aa (fC (.str "ahead")) (aa (fC (.str "row")) (aa (fC (.str "first")) (aa (fC (.str "signs")) (aa (fC (.str "any")) (aa (fC (.str "none")) (aa (fC (.str "again")) af))))))))))))) (ac 4)) (am (bS (fOp aIx (ab 4) (al ar (aa (ab 0) (aa (fC (.int 12)) af)))) (ac 5)) (am (fIf (av (fOp (ir (λi j=>decide (i<j)) aY) (fCB eO (aa (ab 1) af)) (fC (.int 4)))) (bS (fOp aIx (i4 (aa (fC (.str "signs")) (aa (fC (.str "any")) (aa (fC (.str "signs")) (aa (fC (.str "none")) (aa (ab 5) af)))))) (al ar (aa (ab 0) (aa (fC (.int 5)) af)))) (ac 5)) aB) (am (fIf (av (fOp aEq (ab 5) (fC (.str "signs")))) (bc (al b9 (aa (ab 0) af))) aB) (am (fIf (fOr (av (fOp aEq (ab 5) (fC (.str "any")))) (av (fOp aEq (ab 5) (fC (.str "none"))))) (bc (fL (aa (ab 5) af))) aB) (am (fIf (fOr (av (fOp aEq (ab 5) (fC (.str "again")))) (fOr (av (fOp aEq (ab 5) (fC (.str "ahead")))) (av (fOp aEq (ab 5) (fC (.str "not")))))) (bc (fL (aa (ab 5) (aa (fOp aIx (ab 1) (al ar (aa (ab 0) (aa (fFz (fCB eO (aa (ab 1) af))) af)))) af)))) aB) (am (cn 6 (i4 af)) (am (kJ (eS (aa (fOp dW (fC (.int 1)) (al ar (aa (ab 0) (aa (fFz (fOp aIx (i4 (aa (fC (.int 3)) (aa (fC (.int 3)) (aa (fC (.int 3)) (aa (fC (.int 8)) af))))) (al ar (aa (ab 0) (aa (fC (.int 4)) af))))) af)))) af)) (ac 7) (am (bS (ab 1) (ac 8)) (am (fIf (EN (av (fOp aEq (ab 5) (fC (.str "row")))) (cO (fCB KG (aa (uS [3] 1 6 (ac 0) i3 (fOp aIn (ab 0) (ab 4))) af)))) (bS (ab 2) (ac 8)) aB) (bR (sh 6 (fOp aIx (ab 8) (al ar (aa (ab 0) (aa (fFz (fCB eO (aa (ab 8) af))) af))))))))) (bc (fOp dW (fL (aa (ab 5) af)) (fCB Ci (aa (ab 6) af))))))))))))
abbrev qk:↥Str:=["row","first","again","not","ahead","signs","any","none"]
def Hi:Hh cz Hg [0,3] 9:=by intro os P h;unfold cz at h;refine ex7 h ?_;clear h;rintro b0 b1 b2 n later every a ⟨rfl,c,hn,h1,h2,h3,h4,v,q⟩;have sz:=sizeLine_eq;have hn0:0<=n:=acP c.2.2.1 c.2.2.2;have X:1<=every.length:=by{cases later with|nil=>exact absurd h1 (by decide)|cons y _=>exact abF (v y (aac ..))};have g:∀zs:↥Str,(zs.map D.str).length=zs.length:=λ_=>abR ..;revert{lez 12,?_}(bi n c () (by decide) (by decide) λr b0 b1 b2 r0 r1 c=>?_)(cZ r0 r1 λe l=>?_);obtain⟨word,f,rfl⟩:∃word:Str,word∈qk/\e=.str word:=by{simp only[List.mem_cons,List.not_mem_nil,or_false]at l;rcases l with h|h|h|h|h|h|h|h|h|h|h|h<;>exact{_,by simp,h}};revert(ji (λρ=>∃(word:Str)(b0 b1 b2:Int),word∈qk/\WellB b1 b2 (n+2)/\ρ=[!(bN b0 b1 b2),!(.fz (.lst (later.map .str))),!(.fz (.lst (every.map .str))),!(.fl (a.map .str)),!(.fz (.lst [.str "row",.str "first",.str "again",.str "row",.str "not",.str "ahead",.str "row",.str "first",.str "signs",.str "any",.str "none",.str "again"])),!(.fz (.str word)),none,none,none]) ?_ ?_);rintro ρ ⟨word,b0,b1,b2,f,c,rfl⟩;revert aA{ai,?_}(ao (word="signs") au (λs=>?_) (λs=>?_));revert(Bf c () λz b0 b1 b2 Q c=>?_)(q _ _ _ _ _ (.inr (.inl {(rfl),z,rfl,Q})) (c.mono ()));revert(di (word≠ "any" /\ word≠ "none") (λA=>?_) (λrest=>?_));revert(di (word≠ "again" /\ word≠ "ahead" /\ word≠ "not") (λE=>?_) (λrest=>?_));have S:word="row"∨word="first":=by{simp only[qk,List.mem_cons,List.not_mem_nil,or_false]at f;rcases f with h|h|h|h|h|h|h|h;exact .inl h;exact .inr h;exact absurd h E.1;exact absurd h E.2.2;exact absurd h E.2.1;exact absurd h s;exact absurd h A.1;exact absurd h A.2};revert{aan _,?_}{lez 4,?_}(bi _ c () (by decide) (by decide) λr2 b0 b1 b2 C B c=>?_)(cZ C B λe l=>?_);obtain⟨L,hmx,rfl⟩:∃L:Int,(L=3∨L=8)/\e=.int L:=by{simp only[List.mem_cons,List.not_mem_nil,or_false]at l;rcases l with h|h|h|h;exact{3,.inl rfl,h};exact{3,.inl rfl,h};exact{3,.inl rfl,h};exact{8,.inr rfl,h}};revert(bi _ c () () () λr3 b0 b1 b2 r30 r31 c=>?_){{(),()},?_};ext;refine bf (λi ρ=>∃(parts:↥Str)(N M:Option OV)(b0 b1 b2:Int),parts.length=i/\i<=8/\WellB b1 b2 (n+4+i)/\(∀x∈parts,x∈every)/\(word="first" ->∀x∈parts,x∈later)/\(word="row" ->L0 later a parts)/\ ρ=[!(bN b0 b1 b2),!(.fz (.lst (later.map .str))),!(.fz (.lst (every.map .str))),!(.fl (a.map .str)),!(.fz (.lst [.str "row",.str "first",.str "again",.str "row",.str "not",.str "ahead",.str "row",.str "first",.str "signs",.str "any",.str "none",.str "again"])),!(.fz (.str word)),!(.fl (parts.map .str)),N,M]) {[],none,none,b0,b1,b2,rfl,aan _,c.mono (),(λ_ h=>nomatch h),(λ_ _ h=>nomatch h),(λ_ i x u=>by cases u),rfl} ?_ ?_;rintro i d ρ R hd ⟨parts,N,M,b0,b1,b2,F,Z,c,I,H,G,rfl⟩ kk;let⟨hi,rfl⟩:=bw hd;ext;refine ji (λρ=>∃(b:↥Str),1<=b.length/\b.length<=100/\(∀x∈b,x∈every)/\(word="first" ->∀x∈b,x∈later)/\(word="row" ->(∀y∈parts,y∉a)->∀x∈b,x∈later)/\ ρ=[!(bN b0 b1 b2),!(.fz (.lst (later.map .str))),!(.fz (.lst (every.map .str))),!(.fl (a.map .str)),!(.fz (.lst [.str "row",.str "first",.str "again",.str "row",.str "not",.str "ahead",.str "row",.str "first",.str "signs",.str "any",.str "none",.str "again"])),!(.fz (.str word)),!(.fl (parts.map .str)),!(.fz (.int (0+(i:Int)))),!(.fz (.lst (b.map .str)))]) ?_ ?_;rintro ρ ⟨b,hs1,hs2,V,U,T,rfl⟩;revert{rfl,?_}(bi _ c () (by rw[g];nofun) (by rw[g];nofun) λO b0 b1 b2 o m c=>?_)(cZ o m λe l=>?_);let⟨y,t,rfl⟩:=abZ.mp l;revert{by rw[g];nofun,kk _ {parts++[y],!(.fz (.int (0+(i:Int)))),!(.fz (.lst (b.map .str))),b0,b1,b2,by rw[aag,F];rfl,(),c.mono (),λx u=>?_,λs x u=>?_,λs j x u w=>?_,?_}};rcases abS.mp u with h|h;exact I x h;rw[abY.mp h];exact V y t;rcases abS.mp u with h|h;exact H s x h;rw[abY.mp h];exact U s y t;by_cases hj:j<parts.length;rw[acg hj]at u;rw[List.take_append_of_le_length ()]at w;exact G s j x u w;have Y:=(abT.mp u).1;rw[aag,aaR]at Y;obtain rfl:j=parts.length:=();rw[ab7 (aab _),Nat.sub_self]at u;cases u;rw[List.take_left]at w;exact T s w y t;rw[show (parts++[y]).map D.str=parts.map D.str++[D.str y]from aae];rfl;intro rest;revert{ai,?_}(ao (word="row") au (λs=>?_) (λs=>?_));revert(uL (λj as ρ=>∃x:Option OV,as=(parts.take j).map (λz=>D.bl (inD (.str z) (a.map D.str)))/\ρ=[x,!(bN b0 b1 b2),!(.fz (.lst (later.map .str))),!(.fz (.lst (every.map .str))),!(.fl (a.map .str)),!(.fz (.lst [.str "row",.str "first",.str "again",.str "row",.str "not",.str "ahead",.str "row",.str "first",.str "signs",.str "any",.str "none",.str "again"])),!(.fz (.str word)),!(.fl (parts.map .str)),!(.fz (.int (0+(i:Int)))),!(.fz (.lst (later.map .str)))]) (by rintro j as ρ ⟨x,_,rfl⟩;rfl) {(none),rfl,rfl} ?_ ?_);rintro j d as ρ R hd ⟨x,rfl,rfl⟩ k;rw[abW,aai]at hd;let⟨z,Q,rfl⟩:=hd;revert ci{{rfl,iu _},?_}{by rw[abR,aam];nofun,k _ _ {!(.fz (.str z)),by rw[aaq,Q,aae];rfl,rfl}};rintro as ρ ⟨x,rfl,rfl⟩;rw[abR,aah (aab _),show parts.map (λz=>D.bl (inD (.str z) (a.map D.str)))=(parts.map λz=>inD (.str z) (a.map D.str)).map D.bl by rw[aar];rfl];revert j9(ao (∃y∈parts,y∈a) (by rw[abA,aaM];exact{fun⟨z,h1,h2⟩=>{z,h1,cq.mp h2},fun⟨z,h1,h2⟩=>{z,h1,cq.mpr h2}}) (λhs=>?_) (λhs=>?_));refine rest [!(bN b0 b1 b2),!(.fz (.lst (later.map .str))),!(.fz (.lst (every.map .str))),!(.fl (a.map .str)),!(.fz (.lst [.str "row",.str "first",.str "again",.str "row",.str "not",.str "ahead",.str "row",.str "first",.str "signs",.str "any",.str "none",.str "again"])),!(.fz (.str word)),!(.fl (parts.map .str)),!(.fz (.int (0+(i:Int)))),!(.fz (.lst (every.map .str)))] {every,X,h3,λ_ h=>h,(λh=>by rw[s]at h;exact absurd h ∅),(λ_ h=>by let⟨y,y1,y2⟩:=hs;exact absurd y2 (h y y1)),rfl};exact rest _ {later,h1,h2,v,λ_ _ h=>h,λ_ _ _ h=>h,rfl};revert cm;exact rest _ {later,h1,h2,v,λ_ _ h=>h,λh=>absurd h s,rfl};rintro ρ ⟨parts,N,M,b0,b1,b2,F,Z,c,I,H,G,rfl⟩;rw[cb]at F c;revert{lez 1,?_}{(λy=>nomatch y),by rw[g];show 1+_<=_;nofun,?_}(q word parts b0 b1 b2 ?_ (c.mono ()));rcases S with h|h;exact .inr (.inr (.inr (.inr {h,(),(),I,G h})));exact .inr (.inr (.inr (.inl {h,(),(),H h})));have W:∀y,y∈later->(word="again"∨word="ahead"∨word="not")->og later every a word [y]:=λy t s=>.inr (.inr (.inl {(s),y,rfl,t}));revert{ai,?_}(ao (word="again") au (λJ=>?_) (λJ=>?_));revert ci(bi _ c () (by rw[g];nofun) (by rw[g];nofun) λO b0 b1 b2 o m c=>?_)(cZ o m λe l=>?_);let⟨y,t,rfl⟩:=abZ.mp l;revert{lez 2,?_}(q word [y] b0 b1 b2 (W y t (.inl J)) (c.mono ()));revert{ai,?_}(ao (word="ahead") au (λp=>?_) (λp=>?_));revert ci(bi _ c () (by rw[g];nofun) (by rw[g];nofun) λO b0 b1 b2 o m c=>?_)(cZ o m λe l=>?_);let⟨y,t,rfl⟩:=abZ.mp l;revert{lez 2,?_}(q word [y] b0 b1 b2 (W y t (.inr (.inl p))) (c.mono ()));revert{ai,?_}(ao (word="not") au (λhc=>?_) (λhc=>?_));revert(bi _ c () (by rw[g];nofun) (by rw[g];nofun) λO b0 b1 b2 o m c=>?_)(cZ o m λe l=>?_);let⟨y,t,rfl⟩:=abZ.mp l;revert{lez 2,?_}(q word [y] b0 b1 b2 (W y t (.inr (.inr hc))) (c.mono ()));exact rest {(J),p,hc};revert{ai,?_}(ao (word="any") au (λJ=>?_) (λJ=>?_));revert ci{lez 1,?_}(q word [] _ _ _ (.inl {.inr J,rfl}) (c.mono ()));revert{ai,?_}(ao (word="none") au (λp=>?_) (λp=>?_));revert{lez 1,?_}(q word [] _ _ _ (.inl {.inl p,rfl}) (c.mono ()));exact rest {(J),p};intro rest;revert(ao ((later.map D.str).length<(4:Int)) decide_eq_true_iff (λ_=>?_) (λ_=>?_));revert{lez 5,?_}(bi _ c () (by decide) (by decide) λr2 b0 b1 b2 C B c=>?_)(cZ C B λe l=>?_);obtain⟨K,A,rfl⟩:∃K:Str,K∈qk/\e=.str K:=by{simp only[List.mem_cons,List.not_mem_nil,or_false]at l;rcases l with h|h|h|h|h;exact{_,by simp,h};exact{_,by simp,h};exact{_,by simp,h};exact{_,by simp,h};exact{(word),f,h}};exact rest _ {K,b0,b1,b2,A,c.mono (),rfl};exact rest _ {word,b0,b1,b2,f,c.mono (),rfl}
def Bl(n:Int){a:↥Str}(g:WellB b1 b2 n)(f:n<2 ^ 37)(h1:1<=later.length)(h2:later.length<=100)(j:every.length<=100)(i:a.length<=100)(b:∀x∈later,x∈every)(h:∀(w:Str)(rest:↥Str)(e d c:Int),og later every a w rest->WellB d c (n+60)->P (.fz (aE w rest)) [bN e d c,.fz (.lst (later.map .str)),.fz (.lst (every.map .str)),.fl (a.map .str)]):cz [bN b0 b1 b2,.fz (.lst (later.map .str)),.fz (.lst (every.map .str)),.fl (a.map .str)] P:=by unfold cz;exact{(b0),b1,b2,n,later,every,a,rfl,g,f,h1,h2,j,i,b,h}
inductive Sol(nn:↥Str)(rows:↥Rw):Str->Prop
 |lack {x:Str}:x∈nn->Sol nn rows x
 |leaf {x w:Str} {rest:↥Str}:(x,w,rest)∈rows->(w="signs"∨w="any")->Sol nn rows x
 |row {x y:Str} {rest:↥Str}:(x,("row":Str),rest)∈rows->y∈rest->Sol nn rows y->Sol nn rows x
 |first {x:Str} {rest:↥Str}:(x,("first":Str),rest)∈rows->(∀y∈rest,Sol nn rows y)->rest≠[]->Sol nn rows x
def Sol.mono(h:∀r∈rows,r∈rows')(s:Sol nn rows x):Sol nn rows' x:=by induction s with|lack h1=>exact .lack h1|leaf h1 h2=>exact .leaf (h _ h1) h2|row h1 h2 _ a=>exact .row (h _ h1) h2 a|first h1 _ b a=>exact .first (h _ h1) a b
def L1{s:↥Str}{rest:↥Str}(hs:∀y∈s,Sol nn rows y)(hr:(x,w,rest)∈rows)(c:(w="row"∨w="first")->1<=rest.length)(h:jy s w rest):Sol nn rows x:=by unfold jy at h;by_cases h1:w="row";rw[if_pos h1]at h;subst h1;let⟨y,b,a⟩:=h;exact .row hr b (hs y a);rw[if_neg h1]at h;by_cases h2:w="first";rw[if_pos h2]at h;subst h2;exact .first hr (λy b=>hs y (h y b)) (λe=>by have:=c (.inr rfl);rw[e]at this;exact absurd this (by decide));rw[if_neg h2]at h;exact .leaf hr h
structure BkW(ns nn:↥Str)(rows:↥Rw):Prop where
 nd:(ns++nn).Nodup
 nm:∀z∈ns++nn,dc z
 l2:2<=ns.length
 l30:ns.length<=30
 nl:nn.length=2
 names:rows.map (·.1)=ns.reverse
 fm:∀r∈rows,∃(j:Nat)(s:↥Str),ns[j]?=!r.1/\(∀x∈s,Sol nn rows x)/\og (ns.drop (j+1)++nn) (ns++nn) s r.2.1 r.2.2
def WellsOk(ps:↥FV)(N:Nat)(n:Int):Prop:=ps.length=N/\∀i,i<N->∃(b:Addr)(b0 b1 b2:Int),ps[i]?=!(.fl b [.int b0,.int b1,.int b2])/\WellB b1 b2 n
def WellsOk.mono{ps:↥FV}{n m:Int}(h:WellsOk ps N n)(a:n<=m):WellsOk ps N m:=-{h.1,λi hi=>by let⟨b,b0,b1,b2,e,w⟩:=h.2 i hi;exact{b,b0,b1,b2,e,w.mono a}}
def WellsOk.set{ps:↥FV}{n m:Int}{b:Addr}(h:WellsOk ps N n)(a:n<=m)(w:WellB b1 b2 m):WellsOk (ps.set k (.fl b [.int b0,.int b1,.int b2])) N m:=-{by rw[aaG];exact h.1,λi hi=>by by_cases e:k=i;subst e;exact{b,b0,b1,b2,acj (by rw[h.1];exact hi),w};rw[ack e];exact(h.mono a).2 i hi}
def WellsOk.snoc{ps:↥FV}{n:Int}{b:Addr}(h:WellsOk ps N n)(w:WellB b1 b2 n):WellsOk (ps++[.fl b [.int b0,.int b1,.int b2]]) (N+1) n:=-{by rw[aag,h.1];rfl,λi hi=>by by_cases e:i<N;rw[acg (by rw[h.1];exact e)];exact h.2 i e;obtain rfl:i=N:=();exact{b,b0,b1,b2,by rw[ab7 (by rw[h.1];exact aab _),h.1,Nat.sub_self];rfl,w}}
abbrev OH(a b c:Addr)(ns nn:↥Str)(rows:↥Rw):OV:=.ot [.fl a (ns.map .str),.fl b (nn.map .str),.fd c ((rows.map (·.1)).map Sum.inr) (rows.map λr=>aE r.2.1 r.2.2)]
inductive dM:Ct
 |mk {cells:↥Int} {M:Nat} {P:OV->↥OV->Prop} (h1:cells.length<=63) (h2:2<=M) (h3:M<=30) (h:∀(ns nn:↥Str)(rows:↥Rw)(a b c:Addr),BkW ns nn rows->ns.length<=M->P (OH a b c ns nn rows) [.fz (.lst (cells.map .int)),.fz (.int M)]):dM [.fz (.lst (cells.map .int)),.fz (.int M)] P
abbrev CK:Stmt:=top 67
abbrev L3:FS:=(am (bS (fCB Pe (aa (ab 1) (aa (fCB MT (aa (fC (.int 2)) (aa (fCB eO (aa (ab 0) af)) af))) af))) (ac 2)) (am (cn 3 (Cn [0] 1 (eS (aa (ab 2) af)) (ac 0) (al cR (aa (fFz (al bm (aa (fFz (ab 1)) (aa (fFz (ab 0)) af)))) (aa (fFz (ab 0)) af))))) (am (cn 4 (i4 af)) (am (kJ (eS (aa (ab 2) af)) (ac 5) (bR (sh 4 (mo bA 3 (ab 5) (aa (ab 4) af))))) (am (cn 6 (i4 af)) (am (kJ (eS (aa (fC (.int 2)) af)) (ac 5) (bR (sh 6 (mo bA 3 (ab 5) (aa (fOp dW (ab 4) (ab 6)) af))))) (am (cn 7 yU) (am (cn 8 (fCB Fm (aa (ab 6) af))) (am (kJ (vv (aa (ab 2) af)) (ac 5) (am (uy 7 (mo cz 3 (ab 5) (aa (fFz (fOp dW (fSl aSl (ab 4) (fM (fOp dW (ab 5) (fC (.int 1)))) cY) (ab 6))) (aa (fFz (fOp dW (ab 4) (ab 6))) (aa (ab 8) af)))) (fOp aIx (ab 4) (ab 5))) (fIf (cO (al c7 (aa (fFz (fOp aIx (ab 7) (fOp aIx (ab 4) (ab 5)))) (aa (ab 8) af)))) (bR (sh 8 (fOp aIx (ab 4) (ab 5)))) aB))) (bc (zP (aa (ab 4) (aa (ab 6) (aa (ab 7) af))))))))))))))
def L4:Hh dM L3 [] 9:=by intro os P h;obtain@⟨f,M,_,hcl,hM2,hM,q⟩:=h;have sz:=sizeLine_eq;have hlm:(f.map D.int).length=f.length:=abR ..;ext;generalize hN:(if (if ((f.map D.int).length:Int)>2 then ((f.map D.int).length:Int) else 2)<(M:Int) then (if ((f.map D.int).length:Int)>2 then ((f.map D.int).length:Int) else 2) else (M:Int))=Ni;have hNi:2<=Ni/\Ni<=M:=by{rw[hlm]at hN;split at hN<;>split at hN<;>nofun};let⟨N,rfl⟩:=abE (show 0<=Ni from ());clear hN;revert{{(),()},?_}(vo (λi ps ρ=>∃x:Option OV,WellsOk ps i 0/\ρ=[x,!(.fz (.lst (f.map .int))),!(.fz (.int M)),!(.fz (.int N)),none,none,none,none,none,none]) {none,{rfl,λ_ h=>absurd h (Nat.not_lt_zero _)},rfl} ?_ ?_);rintro i d ps ρ R hd ⟨x,l,rfl⟩ E;let⟨hi,rfl⟩:=bw hd;ext;rw[Int.zero_add];refine ww λc=>?_;revert(.mk () λb0 b1 b2 _ Q=>?_){by rw[l.1];nofun,λb=>E _ _ {!(.fz (.int i)),l.snoc Q,rfl}};rintro ps ρ ⟨x,l,rfl⟩;rw[cb,acq]at l;revert{aan _,?_}{{(),()},?_}(bf (λi ρ=>∃(ps:↥FV)(ns:↥Str)(n:Option OV),WellsOk ps N (13*i)/\ns.length=i/\ns.Nodup/\(∀z∈ns,dc z)/\ρ=[!(.fz (.lst (f.map .int))),!(.fz (.int M)),!(.fz (.int N)),!(.ol ps),!(.fl (ns.map .str)),n,none,none,none]) {ps,[],none,l.mono (),rfl,aaH,(λ_ h=>nomatch h),rfl} ?_ ?_);rintro i d ρ R hd ⟨ps,ns,n,l,B,C,t,rfl⟩ E;let⟨hi,rfl⟩:=bw hd;let⟨b,b0,b1,b2,e,Q⟩:=l.2 i ();have e':ps[(0+(i:Int)).toNat]?=!(.fl b [.int b0,.int b1,.int b2]):=by{rw[Int.zero_add,acq];exact e};revert{rfl,?_}{(),?_};rw[e'];revert(.mk _ rfl Q () t () λy b0 b1 b2 o K v=>?_){rfl,?_}{by rw[abR];nofun,E _ {ps.set (0+(i:Int)).toNat (.fl b [.int b0,.int b1,.int b2]),ns++[y],!(.fz (.int (0+(i:Int)))),l.set () (v.mono ()),by rw[aag,B];rfl,_S.nodup_snoc C K,λz A=>?_,?_}};rcases abS.mp A with h|h;exact t z h;rw[abY.mp h];exact o;rw[show (ns++[y]).map D.str=ns.map D.str++[D.str y]from aae];rfl;rintro ρ ⟨ps,ns,n,l,B,C,t,rfl⟩;rw[cb,acq]at l B;revert{aan _,?_}{{by decide,by decide},?_}(bf (λi ρ=>∃(ps:↥FV)(nn:↥Str)(n:Option OV),WellsOk ps N (13*N+13*i)/\nn.length=i/\(ns++nn).Nodup/\(∀z∈nn,dc z)/\ρ=[!(.fz (.lst (f.map .int))),!(.fz (.int M)),!(.fz (.int N)),!(.ol ps),!(.fl (ns.map .str)),n,!(.fl (nn.map .str)),none,none]) {ps,[],n,l.mono (),rfl,by rw[aaw];exact C,(λ_ h=>nomatch h),rfl} ?_ ?_);rintro i d ρ R hd ⟨ps,nn,n,l,V,X,G,rfl⟩ E;let⟨hi,rfl⟩:=bw hd;have hi2:i<2:=hi;let⟨b,b0,b1,b2,e,Q⟩:=l.2 i ();have e':ps[(0+(i:Int)).toNat]?=!(.fl b [.int b0,.int b1,.int b2]):=by{rw[Int.zero_add,acq];exact e};revert{rfl,?_}{(),?_};rw[e'];revert{by rw[abR,abR];nofun,?_};rw[←aae];revert(.mk _ (ns:=ns++nn) rfl Q () (λz A=>(abS.mp A).elim (t z) (G z)) (by rw[aag];nofun) λy b0 b1 b2 o K v=>?_){rfl,?_}{by rw[abR];nofun,E _ {ps.set (0+(i:Int)).toNat (.fl b [.int b0,.int b1,.int b2]),nn++[y],!(.fz (.int (0+(i:Int)))),l.set () (v.mono ()),by rw[aag,V];rfl,by rw[←aay];exact _S.nodup_snoc X K,λz A=>?_,?_}};rcases abS.mp A with h|h;exact G z h;rw[abY.mp h];exact o;rw[show (nn++[y]).map D.str=nn.map D.str++[D.str y]from aae];rfl;rintro ρ ⟨ps,nn,n,l,u,I,U,rfl⟩;have u:nn.length=2:=u;have l:WellsOk ps N (13*N+26):=l.mono (by show (13*N+13*2:Int)<=_;nofun);clear C;revert{{(),()},?_};ext;refine bf (λi ρ=>∃(ps:↥FV)(rows:↥Rw)(a:↥Str)(n:Option OV),WellsOk ps N (13*N+26+60*i)/\rows.map (·.1)=(ns.drop (N - i)).reverse/\i<=N/\a.length<=2+i/\(∀x∈a,Sol nn rows x)/\ (∀r∈rows,∃(j:Nat)(s:↥Str),ns[j]?=!r.1/\(∀x∈s,Sol nn rows x)/\og (ns.drop (j+1)++nn) (ns++nn) s r.2.1 r.2.2)/\ ρ=[!(.fz (.lst (f.map .int))),!(.fz (.int M)),!(.fz (.int N)),!(.ol ps),!(.fl (ns.map .str)),n,!(.fl (nn.map .str)),!(bn rows),!(.fl (a.map .str))]) {ps,[],nn,n,l.mono (),by rw[Nat.sub_zero,←B,aaP];rfl,aan _,(),λx S=>.lack S,(λ_ h=>nomatch h),rfl} ?_ ?_;rintro i d ρ R hd ⟨ps,rows,a,n,l,p,hiN,hsl,m,O,rfl⟩ E;let⟨hi,rfl⟩:=mr hd;rw[acq]at hi;obtain⟨k,hk⟩:∃k,N=k+i+1:={N - 1 - i,()};have ek:((N:Int).toNat:Int) - 1 - (i:Int)=(k:Int):=by{rw[acq];nofun};rw[ek];let⟨b,b0,b1,b2,e,Q⟩:=l.2 k ();obtain⟨x,S⟩:∃x,ns[k]?=!x:={_,abU ()};have ex:atI (ns.map D.str) (k:Int)=!(.str x):=cV (by rw[abW,S];rfl);have ecut:gc (ns.map D.str) ↑((k:Int)+1) none=(ns.drop (k+1)).map D.str:=by{rw[show (k:Int)+1=((k+1:Nat):Int)from (),cX,List.map_drop]};revert{(),?_};rw[show ((k:Int)).toNat=k from acq k,e];ext;rw[ecut];refine{by rw[abR,abR,aaC];nofun,?_};rw[←aae];revert{by rw[abR,abR];nofun,?_};rw[←aae];revert(Bl _ Q () (by rw[aag];nofun) (by rw[aag,aaC];nofun) (by rw[aag];nofun) () (λy o=>(abS.mp o).elim (λh=>abS.mpr (.inl (abr h))) λh=>abS.mpr (.inr h)) λw rest b0 b1 b2 hf v=>?_);have L:rest.length<=8/\((w="row"∨w="first")->1<=rest.length):=by{rcases hf with ⟨h,rfl⟩|⟨h,z,rfl,_⟩|⟨h,z,rfl,_⟩|⟨_,h1,h2,_⟩|⟨_,h1,h2,_⟩;exact{by decide,λh2=>by rcases h with rfl|rfl<;>rcases h2 with h2|h2<;>exact absurd h2 ∅};exact{(by decide:1<=8),λ_=>aab _};exact{(by decide:1<=8),λ_=>aab _};exact{h2,λ_=>h1};exact{h2,λ_=>h1}};have H:x∉rows.map (·.1):=by{rw[p,abM,show N - i=k+1 from ()];intro h;let⟨j,hj,e2⟩:=acD.mp h;rw[aaC]at hj;rw[List.getElem_drop]at e2;have h5:=(abT.mp S).2;have W:=(ace.mp I).1;exact acm.mp W k (k+1+j) () () () (h5.trans e2.symm)};have er:=wG (w:=w) (rest:=rest) H;have hlr:rows.length=i:=by{have:=congrArg List.length p;rw[abR,aaB,aaC]at this;nofun};revert{rfl,?_}{rfl,?_};ext;rw[ex];revert{by rw[abR,abR];nofun,?_};erw [←er];have T:de (rows++[(x,w,rest)]) x=!(x,w,rest):=by{unfold de;rw[List.find?_append,acs.mpr (λr hr=>by have:r.1≠x:=λe=>H (e ▸ abZ.mpr {(r),hr,rfl});simp[this])];simp};have Y:=fE T;have g:∀{y:Str},Sol nn rows y->Sol nn (rows++[(x,w,rest)]) y:=λs=>s.mono λr hr=>abS.mpr (.inl hr);have hin:(x,w,rest)∈rows++[(x,w,rest)]:=abS.mpr (.inr (abY.mpr rfl));have F:(rows++[(x,w,rest)]).map (·.1)=(ns.drop (N - (i+1))).reverse:=by{rw[aae,p,show N - (i+1)=k from (),show N - i=k+1 from (),aav (show k<ns.length from ()),aaW,(abT.mp S).2];rfl};have J:∀r∈rows++[(x,w,rest)],∃(j:Nat)(s:↥Str),ns[j]?=!r.1/\(∀y∈s,Sol nn (rows++[(x,w,rest)]) y)/\og (ns.drop (j+1)++nn) (ns++nn) s r.2.1 r.2.2:=λr hr=>by{rcases abS.mp hr with h|h;let⟨j,s,g1,g2,g3⟩:=O r h;exact{j,s,g1,λy o=>g (g2 y o),g3};rw[abY.mp h];exact{k,a,S,λy o=>g (m y o),hf}};have Z:WellsOk (ps.set k (.fl b [.int b0,.int b1,.int b2])) N (13*N+26+60*((i+1:Nat):Int)):=(l.set () v).mono ();revert aA;ext;rw[ex];ext;erw [Y];revert(.mk L.2 L.1 () λbb hbb=>?_)(ao (jy a w rest) hbb (λhs=>?_) (λhs=>?_));revert{rfl,?_};ext;rw[ex];revert{by rw[abR];nofun,E _ {_,rows++[(x,w,rest)],a++[x],!(.fz (.int k)),Z,F,(),by rw[aag,aaR];nofun,λy o=>?_,J,?_}};rcases abS.mp o with h|h;exact g (m y h);rw[abY.mp h];exact L1 (λz A=>g (m z A)) hin L.2 hs;rw[show (a++[x]).map D.str=a.map D.str++[D.str x]from aae];rfl;exact E _ {_,rows++[(x,w,rest)],a,!(.fz (.int k)),Z,F,(),(),λy o=>g (m y o),J,rfl};rintro ρ ⟨ps,rows,a,n,l,p,hiN,hsl,m,O,rfl⟩;rw[ke,acq,Nat.sub_self,aaS]at p;ext;intro as;revert{lez 3,?_}(q ns nn rows _ _ _ {I,λz A=>(abS.mp A).elim (t z) (U z),(),(),u,p,O} ())
def rX{xs ys:↥Str}(hx:xs.Nodup)(a:ys.Nodup)(h:∀v,v∈xs↔v∈ys):aT xs=aT ys:=- (fO (zs:=ys) ((aq _).nodup_iff.mpr hx) (λv=>by rw[(aq _).mem_iff,h]) (bt _)).trans (fO ((aq _).nodup_iff.mpr a) (λv=>(aq _).mem_iff) (bt _)).symm
section
variable    {x:Option Nat}
def fq(h:w="row"):bg w ps s x=lz ps {s with st:=s.st++[ae ps s]} x:=-if_pos h
def c8(h:w="first"):bg w ps s x=ce ps {s with st:=s.st++[ae ps s]} x:=-(if_neg (by rw[h];decide+kernel)).trans (if_pos h)
def fX(h:w="again"):bg w ps s x=cI {s with st:=s.st++[ae ps s]} x:=-(if_neg (by rw[h];decide+kernel)).trans ((if_neg (by rw[h];decide+kernel)).trans (if_pos h))
def fZ(h:w="ahead"):bg w ps s x=fJ {s with st:=s.st++[ae ps s]} (if x=none then none else !0):=-(if_neg (by rw[h];decide+kernel)).trans ((if_neg (by rw[h];decide+kernel)).trans ((if_neg (by rw[h];decide+kernel)).trans (if_pos h)))
def jz(h:w="not"):bg w ps s x=fJ {s with st:=s.st++[ae ps s]} (if x=none then ↑0 else none):=-(if_neg (by rw[h];decide+kernel)).trans ((if_neg (by rw[h];decide+kernel)).trans ((if_neg (by rw[h];decide+kernel)).trans (if_neg (by rw[h];decide+kernel))))
end
def NZ(R:Rls)(t:Str)(x:Str):Prop:=∀f k r,rdF R t f x k=!r->r.ln≠!0
def gP(h:s.tn<ps.length):ps[s.tn]?=!(ae ps s).1:=by show _=!(ps.getD s.tn "");rw[ab5,abU h];rfl
def ei(h:s.tn<ps.length):(ae ps s).1∈ps:=-abX (gP h)
def oh(h:R x=.leaf l)(a:∀k,jm l t k≠!0):NZ R t x:=-λf k r e=>by cases f with|zero=>cases e|succ f=>rw[wF h]at e;cases e;exact a k
theorem CL{ps:↥Str}:∀(f:Nat)(s:As)(far:Nat)(ls:↥Str)(r:Res),goF R t f s far ls=!r->s.fm=.comp "row" ps->s.dn=false->s.k<=s.t->s.tn<ps.length->(s.k<s.t∨∃y∈ps.drop s.tn,NZ R t y)->r.ln≠!0|0,s,far,ls,r,e,_,_,_,_,_=>by cases e|f+1,s,far,ls,r,e,n,hd,v,i,u=>by let⟨w,p,q,h1,h2,b⟩:=ig hd e;rw[n]at h1;cases h1;rw[fq rfl]at b;have g:NZ R t (ae ps s).1->q.ln≠!0:=λh=>h _ _ _ h2;cases k:q.ln with|none=>{rw[k]at b;cases f with|zero=>cases b|succ f=>rw[fS rfl]at b;cases b;exact λz=>nomatch z}|some l=>rw[k]at b g;have j:∀y∈ps.drop s.tn,y=(ae ps s).1∨y∈ps.drop (s.tn+1):=λy d=>by{rw[aav i]at d;have:=gP i;rw[abU i]at this;rcases ab2.mp d with h|h;exact .inl (h.trans (aak this));exact .inr h};have c:s.k<s.t+l∨∃y∈ps.drop (s.tn+1),NZ R t y:=by{rcases u with h|⟨y,d,m⟩;exact .inl ();by_cases o:l=0;rcases j y d with h|h;exact absurd (by rw[o]) (g (h ▸ m));exact .inr {(y),h,m};exact .inl ()};by_cases a:s.tn+1=ps.length;rw[show lz ps {s with st:=s.st++[ae ps s]} ↑l=fJ {s with st:=s.st++[ae ps s],t:=s.t+l,tn:=s.tn+1} ↑(s.t+l - s.k)from if_pos a]at b;cases f with|zero=>cases b|succ f=>{rw[fS rfl]at b;cases b;rcases c with h|⟨y,d,_⟩;exact λz=>by{have:=aak z;nofun};rw[a,aaP]at d;cases d};rw[show lz ps {s with st:=s.st++[ae ps s]} ↑l={s with st:=s.st++[ae ps s],t:=s.t+l,tn:=s.tn+1}from if_neg a]at b;exact CL f _ _ _ r b n hd (by show s.k<=s.t+l;nofun) (by show s.tn+1<_;nofun) c
theorem ql{ps:↥Str}(c:∀y∈ps,NZ R t y):∀(f:Nat)(s:As)(far:Nat)(ls:↥Str)(r:Res),goF R t f s far ls=!r->s.fm=.comp "first" ps->s.dn=false->s.tn<ps.length->r.ln≠!0|0,s,far,ls,r,e,_,_,_=>by cases e|f+1,s,far,ls,r,e,d,hd,g=>by let⟨w,p,q,h1,h2,b⟩:=ig hd e;rw[d]at h1;cases h1;rw[c8 rfl]at b;by_cases a:q.ln≠none∨s.tn+1=ps.length;rw[show ce ps {s with st:=s.st++[ae ps s]} q.ln=fJ {s with st:=s.st++[ae ps s],tn:=s.tn+1} q.ln from if_pos a]at b;cases f with|zero=>cases b|succ f=>{rw[fS rfl]at b;cases b;exact(c _ (ei g) _ _ _ h2:q.ln≠!0)};rw[show ce ps {s with st:=s.st++[ae ps s]} q.ln={s with st:=s.st++[ae ps s],tn:=s.tn+1}from if_neg a]at b;exact ql c f _ _ _ r b d hd (by show s.tn+1<_;nofun)
structure CompOk(pool:↥Str)(lt sol:Str->Prop)(w:Str)(ps:↥Str):Prop where
 l1:1<=ps.length
 l8:ps.length<=8
 pl:∀p∈ps,p∈pool
 wd:w="row"∨w="first"∨w="again"∨w="ahead"∨w="not"
 nr:w≠ "row" ->∀p∈ps,lt p
 rw:w="row" ->∀i p,ps[i]?=!p->(∀y∈ps.take i,¬sol y)->lt p
 on:(w="again"∨w="ahead"∨w="not")->ps.length=1
structure RkOk(R:Rls)(t:Str)(pool:↥Str)(rk:Str->Nat)(sol:Str->Prop):Prop where
 cp:∀x w ps,R x=.comp w ps->CompOk pool (λy=>rk y<rk x) sol w ps
 sl:∀x,sol x->NZ R t x
 bd:∀x,rk x<=60
 tl:t.length<=30
def RkOk.rls{rk:Str->Nat}(h:RkOk R t pool rk sol):ii R pool:=-λn w p e=>by have C:=h.cp n w p e;exact{λy=>by rcases C.wd with z|z|z|z|z<;>(rw[z]at y;exact absurd y ∅),C.l1,C.l8,C.pl}
def oj(t w:Str)(ps:↥Str)(s:As):Nat:=if s.dn=true then 0 else if w="again" then t.length - s.t+1 else ps.length - s.tn
def OI{rk:Str->Nat}(h:RkOk R t pool rk sol):∀(M:Nat)(x:Str)(k:Nat),t.length*64+rk x<=M+k*64->x∈pool->k<=t.length->∃r,rdF R t (40*M+40) x k=!r:=by
 intro M
 induction M using Nat.strongRecOn with
 |_ M I=>
 intro x k T S N
 cases F:R x with
 |leaf l=>exact{_,wF (f:=40*M+39) F}
 |comp w ps=>
 have C:=h.cp x w ps F;have J:=h.tl
 have ask:∀(s:As),s.k=k->k<=s.t->s.t<=t.length->s.tn<ps.length->(s.t=k->w="row" ->∀y∈ps.take s.tn,¬sol y)->1<=M/\∃q,rdF R t (40*(M - 1)+40) (ae ps s).1 (ae ps s).2=!q:=λs h1 h2 u p B=>by
  have K:=C.pl _ (ei p)
  have E:1<=M/\t.length*64+rk (ae ps s).1<=M - 1+s.t*64:=by
   by_cases e:s.t=k
   .have:rk (ae ps s).1<rk x:=by
     by_cases b:w="row"
     .exact C.rw b _ _ (gP p) (B e b)
     .exact C.nr b _ (ei p)
    rw[e];nofun
   .have:=h.bd (ae ps s).1;nofun
  exact{E.1,I (M - 1) (Nat.sub_lt E.1 Nat.one_pos) _ _ E.2 K u}
 have go:∀(n:Nat)(s:As)(far:Nat)(ls:↥Str),s.fm=.comp w ps->s.k=k->k<=s.t->s.t<=t.length->(s.dn=false->s.tn<ps.length)->(s.t=k->w="row" ->∀y∈ps.take s.tn,¬sol y)->oj t w ps s<=n->∃r,goF R t (40*(M - 1)+40+n+1) s far ls=!r:=by
  intro n
  induction n with
  |zero=>
   intro s far ls A h1 h2 u p B i
   cases hd:s.dn with
   |true=>exact{_,fS hd}
   |false=>
    unfold oj at i;rw[if_neg (by rw[hd];decide)]at i;have:=p hd;split at i<;>nofun
  |succ n o=>
   intro s far ls A h1 h2 u p B i
   cases hd:s.dn with
   |true=>exact{_,fS hd}
   |false=>
    have j:=p hd;let⟨O,q,D⟩:=ask s h1 h2 u j B;have m:=nX h.rls (C.pl _ (ei j)) u D;rw[show 40*(M - 1)+40+(n+1)+1=(40*(M - 1)+40+n+1)+1 from (),iE hd A (nV () D)];unfold oj at i;rw[if_neg (by rw[hd];decide)]at i;have fin:∀s':As,s'.dn=true->∃r,goF R t (40*(M - 1)+40+n+1) s' (max far q.far) (ng ls q.ls)=!r:=λs' hs=>{_,fS hs};rcases C.wd with b|b|b|b|b
    .rw[fq b];rw[if_neg (by rw[b];decide+kernel)]at i
     cases d:q.ln with
     |none=>exact fin _ rfl
     |some l=>
      have g:=m.ln l d;by_cases a:s.tn+1=ps.length
      .rw[show lz ps {s with st:=s.st++[ae ps s]} ↑l=fJ {s with st:=s.st++[ae ps s],t:=s.t+l,tn:=s.tn+1} ↑(s.t+l - s.k)from if_pos a];exact fin _ rfl
      .rw[show lz ps {s with st:=s.st++[ae ps s]} ↑l={s with st:=s.st++[ae ps s],t:=s.t+l,tn:=s.tn+1}from if_neg a];refine o _ _ _ A h1 (by show k<=s.t+l;nofun) g (λ_=>by show s.tn+1<_;nofun) (λe _ y v=>?_) ?_
       .have U:s.t+l=k:=e;have c:y∈ps.take (s.tn+1):=v;rw[aaq,gP j]at c;rcases abS.mp c with c|c
        .exact B () b y c
        .have:y=(ae ps s).1:=(by exists c);rw[this];exact λz=>h.sl _ z _ _ _ D (by rw[d];congr 1;nofun)
       .unfold oj;split
        .nofun
        .rw[if_neg (by rw[b];decide+kernel)];show ps.length - (s.tn+1)<=n;nofun
    .rw[c8 b];rw[if_neg (by rw[b];decide+kernel)]at i;by_cases a:q.ln≠none∨s.tn+1=ps.length
     .rw[show ce ps {s with st:=s.st++[ae ps s]} q.ln=fJ {s with st:=s.st++[ae ps s],tn:=s.tn+1} q.ln from if_pos a];exact fin _ rfl
     .rw[show ce ps {s with st:=s.st++[ae ps s]} q.ln={s with st:=s.st++[ae ps s],tn:=s.tn+1}from if_neg a];refine o _ _ _ A h1 h2 u (λ_=>by show s.tn+1<_;nofun) (λ_ z=>by rw[b]at z;exact absurd z ∅) ?_;unfold oj;split
      .nofun
      .rw[if_neg (by rw[b];decide+kernel)];show ps.length - (s.tn+1)<=n;nofun
    .rw[fX b];rw[if_pos b]at i;by_cases a:q.ln=none∨q.ln=!0
     .rw[show cI {s with st:=s.st++[ae ps s]} q.ln=fJ {s with st:=s.st++[ae ps s]} ↑(s.t - s.k)from if_pos a];exact fin _ rfl
     .rw[show cI {s with st:=s.st++[ae ps s]} q.ln={s with st:=s.st++[ae ps s],t:=s.t+q.ln.getD 0}from if_neg a]
      cases d:q.ln with
      |none=>exact absurd (.inl d) a
      |some l=>
       have g:=m.ln l d;have L:l≠0:=λz=>a (.inr (by rw[d,z]));refine o _ _ _ A h1 (by show k<=s.t+l;nofun) g (λ_=>j) (λ_ z=>by rw[b]at z;exact absurd z ∅) ?_;unfold oj;split
       .nofun
       .first|rw[if_pos b]|skip
        show t.length - (s.t+l)+1<=n;have:s.t+l<=t.length:=g;nofun
    .rw[fZ b];exact fin _ rfl
    .rw[jz b];exact fin _ rfl
 have Q:bC R t x k={.comp w ps,x,k,k,0,[],false,none}:=by unfold bC;rw[F]
 have h1:1<=M:=by
  have P:ps[0]?=!(ps[0]'(by have:=C.l1;nofun)):=abU _
  have:rk (ps[0]'(by have:=C.l1;nofun))<rk x:=by
   by_cases b:w="row"
   .exact C.rw b 0 _ P (λy v=>nomatch v)
   .exact C.nr b _ (aaL _)
  nofun
 let⟨r,hr⟩:=go 33 {.comp w ps,x,k,k,0,[],false,none} k [x] rfl rfl (aab _) N (λ_=>by have:=C.l1;show 0<_;nofun) (λ_ _ y v=>nomatch v) (by
  unfold oj;rw[if_neg (show ¬((false:Bool)=true)from ab3)];have:=C.l8;split
  .show t.length - k+1<=33;nofun
  .show ps.length - 0<=33;nofun)
 refine{r,?_};show goF R t (40*M+40) (bC R t x k) k [x]=!r;rw[Q];exact nV () hr
def mP(nd:(rows.map (·.1)).Nodup){r:Rw}(hr:r∈rows):bY (ag rows) r.1=rlR r.2.1 r.2.2:=by rw[jx nd];let⟨r',a,b,e⟩:=bo (rows:=rows) (n:=r.1) (abZ.mpr {(r),hr,rfl});rw[e,ju nd hr a b]
def qm:jm .any z k=if k<z.length then ↑1 else none:=by simp only[jm,jO];by_cases h:k<z.length;rw[if_pos h,if_pos h];rfl;rw[if_neg h,if_neg h]
def dN:↥Str->Str->Nat|[],_=>0|y::r,x=>if x=y then r.length+1 else dN r x
theorem lu:∀(l:↥Str)(x:Str),dN l x<=l.length|[],_=>aab _|y::r,x=>by unfold dN;split;exact aab _;exact Nat.le_succ_of_le (lu r x)
theorem jA:∀{l:↥Str}{x:Str},x∉l->dN l x=0|[],_,_=>rfl|y::r,x,h=>by unfold dN;rw[if_neg λe=>h (by rw[e];exact aac ..)];exact jA λz=>h (aad _ z)
theorem gu:∀{l:↥Str}{j:Nat}{x:Str},l.Nodup->l[j]?=!x->dN l x=l.length - j|[],j,x,_,h=>by cases h|y::r,0,x,_,h=>by cases h;unfold dN;rw[if_pos rfl];rfl|y::r,j+1,x,nd,h=>by let⟨b,a⟩:=ab4.mp nd;have h':r[j]?=!x:=h;have c:x≠y:=λe=>b (e ▸ abX h');unfold dN;rw[if_neg c,gu a h',ab6];nofun
def ko(nd:(ns++nn).Nodup)(hx:ns[j]?=!x)(c:y∈ns.drop (j+1)++nn):dN ns y<dN ns x:=by let⟨a,f,b⟩:=ace.mp nd;have g:=(abT.mp hx).1;rw[gu a hx];rcases abS.mp c with h|h;let⟨m,d,e⟩:=acD.mp h;rw[aaC]at d;rw[List.getElem_drop]at e;rw[gu (j:=j+1+m) a (by rw[abU (),e])];nofun;rw[jA λz=>b y z y h rfl];nofun
def BkW.ndr(B:BkW ns nn rows):(rows.map (·.1)).Nodup:=by rw[B.names];exact(List.reverse_perm ns).nodup_iff.mpr (ace.mp B.nd).1
def BkW.few(B:BkW ns nn rows):rows.length=ns.length:=by have:=congrArg List.length B.names;rwa [abR,aaB]at this
def BkW.lack(B:BkW ns nn rows){x:Str}(h:x∉ns):bY (ag rows) x=.leaf .lack:=by rw[jx B.ndr];have:de rows x=none:=by{unfold de;refine acs.mpr λr hr=>?_;have:r.1≠x:=λe=>h (by rw[←abM,←B.names];exact e ▸ abZ.mpr {(r),hr,rfl});simp[this]};rw[this]
def BkW.has(B:BkW ns nn rows){x:Str}(h:x∈ns):∃w rest,(x,w,rest)∈rows:=by rw[←abM,←B.names]at h;let⟨⟨y,w,rest⟩,hr,rfl⟩:=abZ.mp h;exact{(w),rest,hr}
def wJ{s:↥Str}{rest:↥Str}(c:∀x∈later,x∈every)(h:og later every s w rest):vD every w rest:=by rcases h with h|h|⟨h,x,rfl,d⟩|⟨h,h1,h2,b⟩|⟨h,h1,h2,b,_⟩;exact .inl h;exact .inr (.inl h);exact .inr (.inr (.inl {h,rfl,λz a=>by rw[abY.mp a];exact c x d}));exact .inr (.inr (.inr {.inr h,h1,h2,λz a=>c z (b z a)}));exact .inr (.inr (.inr {.inl h,h1,h2,b}))
def gv:∀x∈ns.drop (j+1)++nn,x∈ns++nn:=-λx a=>(abS.mp a).elim (λh=>abS.mpr (.inl (abr h))) λh=>abS.mpr (.inr h)
def L5(B:BkW ns nn rows)(s:Sol nn rows x):NZ (bY (ag rows)) t x:=by induction s with|lack h=>exact oh (B.lack λz=>(ace.mp B.nd).2.2 _ z _ h rfl) λk=>by simp[jm,jO]|@leaf x w rest h1 h2=>{have a:=mP B.ndr h1;rcases h2 with h2|h2;subst h2;refine oh (a:bY (ag rows) x=.leaf (.signs (rest.headD ""))) λk=>?_;cases j:t.cps.toList[k]? with|none=>unfold jm;rw[lb j];exact λz=>nomatch z|some c=>{unfold jm;rw[nU j];by_cases i:c∈(rest.headD "").cps.toList;rw[if_pos i];exact λz=>by{cases z};rw[if_neg i];exact λz=>nomatch z};subst h2;refine oh (a:bY (ag rows) x=.leaf .any) λk=>?_;rw[qm];split<;>exact λz=>by cases z}|@row x y rest h1 h2 _ d=>have a:bY (ag rows) x=.comp "row" rest:=mP B.ndr h1;intro f k r e;have g:bC (bY (ag rows)) t x k={.comp "row" rest,x,k,k,0,[],false,none}:=by{unfold bC;rw[a]};have b:goF (bY (ag rows)) t f (bC (bY (ag rows)) t x k) k [x]=!r:=e;rw[g]at b;exact CL f _ _ _ r b rfl rfl (aab _) (abF h2) (.inr {(y),h2,d})|@first x rest h1 _ l d=>have a:bY (ag rows) x=.comp "first" rest:=mP B.ndr h1;intro f k r e;have g:bC (bY (ag rows)) t x k={.comp "first" rest,x,k,k,0,[],false,none}:=by{unfold bC;rw[a]};have b:goF (bY (ag rows)) t f (bC (bY (ag rows)) t x k) k [x]=!r:=e;rw[g]at b;exact ql d f _ _ _ r b rfl rfl (List.length_pos_iff.mpr l)
def Hj(B:BkW ns nn rows)(s:Sol nn rows x):¬Emp (ag rows) x:=by have key:∀{r r':Rw},r∈rows->r'∈ag rows->r'.1=r.1->r'=r:=λhr c e=>ju B.ndr hr (bV c) e;induction s with|@lack x h=>{intro e;have d:∀r∈ag rows,r.1≠x:=λr hr y=>by{have:r.1∈ns:=by{rw[←abM,←B.names];exact abZ.mpr {r,bV hr,rfl}};exact(ace.mp B.nd).2.2 _ this _ h y};cases e with|base h1 _=>exact d _ h1 rfl|row h1 _ _=>exact d _ h1 rfl|first h1 _ _ _=>exact d _ h1 rfl}|@leaf x w rest h1 h2=>{intro e;generalize a:x=z at e;cases e with|base g1 g2=>{rw[key h1 g1 a.symm]at g2;rcases h2 with rfl|rfl;exact absurd (show pV "signs" from g2) (by unfold pV;decide+kernel);exact absurd (show pV "any" from g2) (by unfold pV;decide+kernel)}|row g1 g2 _=>{rw[key h1 g1 a.symm]at g2;rcases h2 with rfl|rfl;exact absurd (show ("signs":Str)="row" from g2) ∅;exact absurd (show ("any":Str)="row" from g2) ∅}|first g1 g2 _ _=>rw[key h1 g1 a.symm]at g2;rcases h2 with rfl|rfl;exact absurd (show ("signs":Str)="first" from g2) ∅;exact absurd (show ("any":Str)="first" from g2) ∅}|@row x y rest h1 h2 _ b=>{intro e;generalize a:x=z at e;cases e with|base g1 g2=>rw [key h1 g1 a.symm]at g2;exact absurd (show pV "row" from g2) (by unfold pV;decide+kernel)|row g1 g2 g3=>rw [key h1 g1 a.symm]at g3;exact b (g3 y h2)|first g1 g2 _ _=>rw [key h1 g1 a.symm]at g2;exact absurd (show ("row":Str)="first" from g2) ∅}|@first x rest h1 _ g b=>intro e;generalize a:x=z at e;cases e with|base g1 g2=>{rw [key h1 g1 a.symm]at g2;exact absurd (show pV "first" from g2) (by unfold pV;decide+kernel)}|row g1 g2 g3=>{rw [key h1 g1 a.symm]at g2;exact absurd (show ("first":Str)="row" from g2) ∅}|first g1 g2 g3 f=>rw [key h1 g1 a.symm]at g3;exact b _ g3 f
def BkW.okr(B:BkW ns nn rows){r:Rw}(hr:r∈rows):dc r.1/\vD (ns++nn) r.2.1 r.2.2:=by let⟨j,s,g1,_,g3⟩:=B.fm r hr;exact{B.nm _ (abS.mpr (.inl (abX g1))),wJ gv g3}
def BkW.dw(B:BkW ns nn rows)(f:∀z∈zs,Emp (ag rows) z){r:Rw}(hr:r∈rows)(hx:x∈bL zs r.2.1 r.2.2):dN ns x<dN ns r.1:=by let⟨j,s,g1,g2,g3⟩:=B.fm r hr;refine ko B.nd g1 ?_;rcases g3 with ⟨h,e⟩|⟨h,z,e,_⟩|⟨h,y,e,a⟩|⟨h,_,_,c⟩|⟨h,_,_,_,c⟩;have:=cT hx;unfold bX at this;rw[e]at this;split at this<;>cases this;have:=cT hx;unfold bX at this;rw[if_pos h]at this;cases this;have:=cT hx;unfold bX at this;rw[if_neg (by rcases h with h|h|h<;>(rw[h];decide+kernel)),e]at this;rw[abY.mp this];exact a;have:=cT hx;unfold bX at this;rw[if_neg (by rw[h];decide+kernel)]at this;exact c x this;unfold bL at hx;rw[if_pos h]at hx;obtain⟨i,hi,b⟩:∃i,r.2.2[i]?=!x/\∀y∈r.2.2.take i,y∈zs:=by{generalize r.2.2=ps at hx;clear c;induction ps with|nil=>cases hx|cons p ps d=>unfold lB at hx;split at hx;rename_i g;rcases ab2.mp hx with e|e;exact{0,by rw[e];rfl,λy a=>nomatch a};let⟨i,h1,h2⟩:=d e;exact{i+1,h1,λy a=>(ab2.mp a).elim (λe=>e ▸ g) (h2 y)};exact{0,by rw[abY.mp hx];rfl,λy a=>nomatch a}};exact c i x hi λy a hs=>Hj B (g2 y hs) (f y (b y a))
def BkW.bk(B:BkW ns nn rows):BookR (ag rows):=by have d:=B.l30;have e:=B.few;have c:=B.nl;exact ia (pool:=ns++nn) (rank:=dN ns) {B.ndr,λr hr=>B.okr hr,(),B.nm,by rw[aag];nofun,λzs a r hr x b=>B.dw (λz h=>(a z).mp h) hr b}
def BkW.rk(B:BkW ns nn rows)(u:t.length<=30):RkOk (bY (ag rows)) t (ns++nn) (dN ns) (Sol nn rows):=by refine{λx w ps e=>?_,λx o=>L5 B o,λx=>aao (lu ns x) (by have:=B.l30;nofun),u};have o:x∈ns:=Classical.byContradiction λy=>by{rw[B.lack y]at e;cases e};let⟨c,rest,hr⟩:=B.has o;let⟨j,s,g1,g2,g3⟩:=B.fm _ hr;have r:=mP B.ndr hr;rw[e]at r;have f:∀y∈ns.drop (j+1)++nn,dN ns y<dN ns x:=λy g=>ko B.nd g1 g;have b:∀{l:Str}{q:↥Str},l≠ "none" ->l≠ "any" ->l≠ "signs" ->rlR l q=.comp l q:=λh1 h2 k=>by{unfold rlR;rw[if_neg h1,if_neg h2,if_neg k]};have a:Rl.comp w ps=rlR c rest:=r;rcases g3 with ⟨h,m⟩|⟨h,z,m,_⟩|⟨h,y,m,g⟩|⟨h,h1,h2,k⟩|⟨h,h1,h2,k,v⟩;rcases h with h|h;have h:c="none":=h;subst h;exact nomatch a;have h:c="any":=h;subst h;exact nomatch a;have h:c="signs":=h;subst h;exact nomatch a;have h:c="again"∨c="ahead"∨c="not":=h;have m:rest=[y]:=m;rw[b (by rcases h with h|h|h<;>(rw[h];decide+kernel)) (by rcases h with h|h|h<;>(rw[h];decide+kernel)) (by rcases h with h|h|h<;>(rw[h];decide+kernel))]at a;cases a;subst m;exact{aab _,(by decide:1<=8),λp d=>by rw[abY.mp d];exact gv y g,.inr (.inr h),λ_ p d=>by rw[abY.mp d];exact f y g,λz=>by rcases h with h|h|h<;>exact absurd (z.symm.trans h) ∅,λ_=>rfl};have h:c="first":=h;subst h;rw[b ∅ ∅ ∅]at a;cases a;exact{h1,h2,λp d=>gv p (k p d),.inr (.inl rfl),λ_ p d=>f p (k p d),λz=>absurd z ∅,λz=>by rcases z with z|z|z<;>exact absurd z ∅};have h:c="row":=h;subst h;rw[b ∅ ∅ ∅]at a;cases a;exact{h1,h2,k,.inl rfl,λz=>absurd rfl z,λ_ i p hi g=>f p (v i p hi λy n hs=>g y n (g2 y hs)),λz=>by rcases z with z|z|z<;>exact absurd z ∅}
def rY(R:Rls)(t:Str)(ks:↥↥Key)(ds:↥D)(b:↥Sp2):Prop:=∀q∈b,∃(f:Nat)(a:Res)(st:↥Sp2),rdF R t f q.1 q.2=!a/\cF ks ds (hV q)=!(gr a.ln ((a.far:Int) - (q.2:Int)+1) st (aT a.ls))
@[irreducible] def bO:Ct:=λos P=>∃(R:Rls)(t x w:Str)(rest:↥Str)(ks:↥↥Key)(ds:↥D)(k f:Nat)(r:Res),os=[.fz (aE w rest),.fz (.str t),.ft ks ds,.fz (.int k)]/\R x=rlR w rest/\gM w rest/\k<=t.length/\t.length<=1000/\rdF R t f x k=!r/\rY R t ks ds (eM R t f (x,k))/\(eM R t f (x,k)).length<=1000/\P (.fz (.tup [cH r.ln,.lst ((eM R t f (x,k)).map aG)])) os
abbrev CM:Stmt:=top 70
abbrev L6:FS:=(am (bS (fOp aIx (ab 0) (fC (.int 0))) (ac 4)) (am (fIf (fOr (av (fOp aEq (ab 4) (fC (.str "any")))) (av (fOp aEq (ab 4) (fC (.str "signs"))))) (am (bS (dD (fOp (ir (λi j=>decide (i<j)) aY) (ab 3) (fCB eO (aa (ab 1) af))) (MS (fOp aEq (ab 4) (fC (.str "any"))) (fOp aIn (fOp aIx (ab 1) (ab 3)) (fOp aIx (ab 0) (fC (.int 1)))))) (ac 5)) (bc (fL (aa (fOp aIx (i4 (aa (fC .non) (aa (fC (.int 1)) af))) (fCB Oq (aa (ab 5) af))) (aa (i4 af) af))))) aB) (am (cn 6 (i4 af)) (am (bS (ab 3) (ac 7)) (am (bS (fOp aEq (ab 4) (fC (.str "again"))) (ac 8)) (am (i9 (Ce (ab 8)) (am (bR (sh 6 (fL (aa (fOp aIx (ab 0) (fC (.int 1))) (aa (ab 7) af))))) (am (bS (fOp aIx (fOp aIx (ab 2) (fL (aa (fOp aIx (ab 0) (fC (.int 1))) (aa (ab 7) af)))) (fC (.int 0))) (ac 9)) (am (bS (dD (fOp kY (ab 9) (fC .non)) (fOp (ir (λi j=>decide (j<i)) λi j=>aY j i) (ab 9) (fC (.int 0)))) (ac 8)) (fIf (Ce (ab 8)) (bS (fOp dW (ab 7) (ab 9)) (ac 7)) aB))))) (am (fIf (fOr (av (fOp aEq (ab 4) (fC (.str "again")))) (av (fOp aEq (ab 4) (fC (.str "none"))))) (bc (fL (aa (fOp (aI0 λi j=>.int (i - j)) (ab 7) (ab 3)) (aa (ab 6) af)))) aB) (am (kJ (ut (fSl aSl (ab 0) (fM (fC (.int 1))) cY)) (ac 10) (am (bR (sh 6 (fL (aa (ab 10) (aa (ab 7) af))))) (am (bS (fOp aIx (fOp aIx (ab 2) (fL (aa (ab 10) (aa (ab 7) af)))) (fC (.int 0))) (ac 9)) (am (fIf (fOr (EN (av (fOp aEq (ab 4) (fC (.str "first")))) (av (fOp kY (ab 9) (fC .non)))) (EN (av (fOp aEq (ab 4) (fC (.str "row")))) (av (fOp uJ (ab 9) (fC .non))))) (bc (fL (aa (ab 9) (aa (ab 6) af)))) aB) (fIf (av (fOp aEq (ab 4) (fC (.str "row")))) (bS (fOp dW (ab 7) (ab 9)) (ac 7)) aB))))) (am (fIf (av (fOp aEq (ab 4) (fC (.str "row")))) (bc (fL (aa (fOp (aI0 λi j=>.int (i - j)) (ab 7) (ab 3)) (aa (ab 6) af)))) aB) (am (bS (fOp kY (fOp aIx (fOp aIx (ab 2) (fOp aIx (ab 6) (fC (.int 0)))) (fC (.int 0))) (fC .non)) (ac 11)) (bc (fL (aa (fOp aIx (i4 (aa (fC .non) (aa (fC (.int 0)) af))) (fCB Oq (aa (dD (fOp aNe (ab 4) (fC (.str "first"))) (fOp aEq (ab 11) (fOp aEq (ab 4) (fC (.str "ahead"))))) af))) (aa (ab 6) af))))))))))))))
section
variable   {ks:↥↥Key}      {E:As}
def wK(T:rY R t ks ds E.st)(j:goF R t m s far ls=!r)(hd:s.dn=false)(k:s.fm=.comp w ps)(f:cJ R t m s=E):∃(c:Nat)(q:Res),c<m/\goF R t c (bg w ps s q.ln) (max far q.far) (ng ls q.ls)=!r/\cJ R t c (bg w ps s q.ln)=E/\(∀l,q.ln=!l->∃g,rdF R t g (ae ps s).1 (ae ps s).2=!q)/\∃(a:Int)(st:↥Sp2)(b:↥Str),cF ks ds [.inr (ae ps s).1,.inl ((ae ps s).2:Int)]=!(gr q.ln a st b):=by obtain⟨c,rfl⟩:∃c,m=c+1:=by{cases m with|zero=>cases j|succ c=>exact {(c),rfl}};let⟨p,u,q,h1,h2,n⟩:=ig hd j;rw[k]at h1;cases h1;rw[gm hd k h2]at f;have d:ae ps s∈E.st:=by{rw[←f];refine vK ?_;let⟨_,_,_,_,e,_⟩:=dE w ps s q.ln;rw[e];exact aal _ (aac ..)};let⟨g,i,st,g1,g2⟩:=T _ d;have o:i=q:=hU g1 h2;subst o;exact{c,i,aaz _,n,f,λ_ _=>{(g),g1},_,st,_,g2}
theorem om:∀(f:Nat)(s:As),s.st.length<=(cJ R t f s).st.length|0,s=>aab _|f+1,s=>by unfold cJ;split;exact aab _;split;exact aab _;split;exact aab _;refine aao ?_ (om f _);let⟨_,_,_,_,e,_⟩:=dE _ _ s _;rw[e];show s.st.length<=(s.st++[_]).length;rw[aag];exact Nat.le_add_right _ _
def fu(a:goF R t m s far ls=!r)(hd:s.dn=true)(b:cJ R t m s=E):r.ln=s.ln/\E.st=s.st:=by cases m with|zero=>cases a|succ m=>rw[fS hd]at a;cases a;exact{rfl,by rw[←b,eY hd]}
end
def Bm{l:Nat}(h:l≠0):cI s ↑l={s with t:=s.t+l}:=-if_neg λz=>z.elim (λy=>nomatch y) λy=>h (aak y)
def L7:Hh bO L6 [2] 12:=by
  intro os P h;unfold bO at h;refine ex10 h ?_;clear h;rintro R t x w rest ks ds k f r ⟨rfl,hR,hN,hk,htl,hr,T,hle,q⟩;have sz:=sizeLine_eq;have M:goF R t f (bC R t x k) k [x]=!r:=hr;revert b8(di (w≠ "any" /\ w≠ "signs") (λhw=>?_) (λC=>?_))
  · ext
    refine{aan _,?_};revert{ai,?_};ext;have hE:(cJ R t f (bC R t x k)).st=eM R t f (x,k):=rfl;generalize W:cJ R t f (bC R t x k)=E at hE;rw[←hE]at T q hle;by_cases hag:w="again"
    · subst hag
      obtain⟨p,rfl⟩:∃p,rest=[p]:=by
        let⟨zs,_,h⟩:=hN;rcases h with ⟨h|h,_⟩|⟨h,_⟩|⟨_,h,_⟩|⟨h|h,_⟩
        · exact absurd h ∅
        · exact absurd h ∅
        · exact absurd h ∅
        · match rest,h with
          |[p],_=>exact{(p),rfl}
        · exact absurd h ∅
        · exact absurd h ∅
      have hR':R x=.comp "again" [p]:=hR;have eb:bC R t x k={.comp "again" [p],x,k,k,0,[],false,none}:=by unfold bC;rw[hR']
      rw[eb]at M W;rw[dA]
      refine dG (λm ρ=>∃(g:Bool)(j:Nat)(st:↥Sp2)(x9:Option OV),ρ=[!(.fz (aE "again" [p])),!(.fz (.str t)),!(.ft ks ds),!(.fz (.int k)),!(.fz (.str "again")),none,!(.fl (st.map aG)),!(.fz (.int j)),!(.fz (.bl g)),x9,none,none]/\k<=j/\
          ((g=true/\∃far ls,goF R t m {.comp "again" [p],x,k,j,0,st,false,none} far ls=!r/\cJ R t m {.comp "again" [p],x,k,j,0,st,false,none}=E)∨(g=false/\r.ln=!(j - k)/\E.st=st))) f
        {true,k,[],none,rfl,aab _,.inl {rfl,k,[x],M,W}} ?_
      rintro m ρ Q ⟨g,j,st,x9,rfl,O,hh⟩ kk;ext;rcases hh with ⟨rfl,far,ls,hg,he⟩|⟨rfl,hln,hst⟩
      · refine ci ?_
        let⟨m',S,hm',n,s,_,a,I,b,K⟩:=wK T hg rfl rfl he;have H:cF ks ds [.inr p,.inl (j:Int)]=!(gr S.ln a I b):=K;have hsl:st.length<=1000:=aao (he ▸ om m {.comp "again" [p],x,k,j,0,st,false,none}:st.length<=E.st.length) hle;have hlm:(st.map aG).length=st.length:=abR ..;rw[fX rfl]at n s;revert{rfl,?_}{lez 2,?_}{(),?_}{lez 2,?_}(c5 H ?_);ext;have B:(st++[(p,j)]).map aG=st.map aG++[aG (p,j)]:=aae
        cases hq:S.ln with
        |none=>
          rw[hq]at n s;let⟨f1,f2⟩:=fu n rfl s;refine cm ?_;revert aA cm;exact kk m' _ hm' {false,j,st++[(p,j)],!(.fz .non),by rw[B];rfl,O,.inr {(rfl),f1,f2}}
        |some l=>
          rw[hq]at n s;refine ci ?_;revert aA(ao ((0:Int)<(l:Int)) decide_eq_true_iff (λhl=>?_) (λhl=>?_))
          · rw[Bm ()]at n s
            revert(kk m' _ hm' {true,j+l,st++[(p,j)],!(.fz (.int l)),by rw[B];simp only[decide_eq_true hl];rfl,(),.inl {rfl,_,_,n,s}})
          · have hl0:l=0:=()
            subst hl0;let⟨f1,f2⟩:=fu n rfl s;exact kk m' _ hm' {false,j,st++[(p,j)],!(.fz (.int ((0:Nat):Int))),by rw[B];rfl,O,.inr {(rfl),f1,f2}}
      · refine cm ?_
        revert aA{ai,?_}(ao True {λ_=>trivial,λ_=>dA _} (λ_=>?_) (λh=>absurd trivial h)) ci{lez 2,?_};ext;rw[hln,hst]at q;have Y:P (.fz (.tup [.int ((j - k:Nat):Int),.lst (st.map aG)])) [.fz (aE "again" [p]),.fz (.str t),.ft ks ds,.fz (.int k)]:=q;rw[show ((j - k:Nat):Int)=(j:Int) - (k:Int)from ()]at Y;exact Y
    · rw[show dEq (.str w) (.str "again")=false from acB.mpr λy=>hag (au.mp y)]
      refine dG (λm ρ=>ρ=[!(.fz (aE w rest)),!(.fz (.str t)),!(.ft ks ds),!(.fz (.int k)),!(.fz (.str w)),none,!(.fl []),!(.fz (.int k)),!(.fz (.bl false)),none,none,none]) 0 rfl ?_;rintro m ρ Q rfl kk;revert cm aA{ai,?_}(ao False {λy=>hag (au.mp y),faa} faa (λ_=>?_)){ai,?_}(ao (w="none") au (λhno=>?_) (λhno=>?_))
      · subst hno
        have hR':R x=.leaf .none:=hR;have eb:bC R t x k={.leaf .none,x,k,k,0,[],true,!0}:=by unfold bC;rw[hR'];rfl
        rw[eb]at M W;let⟨f1,f2⟩:=fu M rfl W;revert{lez 2,?_};ext;rw[f1,f2]at q;show P (.fz (.tup [.int ((k:Int) - (k:Int)),.lst []])) _;rw[show (k:Int) - (k:Int)=((0:Nat):Int)from ()];exact q
      have hps:1<=rest.length/\rest.length<=8/\(w="row"∨w="first"∨w="ahead"∨w="not")/\((w="ahead"∨w="not")->rest.length=1):=by
        let⟨zs,_,h⟩:=hN;rcases h with ⟨h|h,_⟩|⟨h,_⟩|⟨h,h2,_⟩|⟨h,h2,h3,_⟩
        · exact absurd h hno
        · exact absurd h hw.1
        · exact absurd h hw.2
        · rcases h with h|h|h
          · exact absurd h hag
          · exact{(),(),.inr (.inr (.inl h)),λ_=>h2}
          · exact{(),(),.inr (.inr (.inr h)),λ_=>h2}
        · rcases h with h|h
          · exact{h2,h3,.inl h,λz=>by rcases z with z|z<;>exact absurd (h.symm.trans z) ∅}
          · exact{h2,h3,.inr (.inl h),λz=>by rcases z with z|z<;>exact absurd (h.symm.trans z) ∅}
      let⟨hp1,hp8,hwd,hone⟩:=hps
      have hR':R x=.comp w rest:=by
        rw[hR];unfold rlR;rw[if_neg hno,if_neg hw.1,if_neg hw.2]
      have eb:bC R t x k={.comp w rest,x,k,k,0,[],false,none}:=by unfold bC;rw[hR']
      rw[eb]at M W;have ecut:gc (D.str w::rest.map D.str) ↑1 none=rest.map .str:=cX _ 1;revert{by show dq (List.length (D.str w::rest.map D.str)) ↑((1:Nat):Int) none;unfold dq;rw[HT.sIx_nat,ab6];nofun,?_};rw[ecut];ext
      refine bf (λi ρ=>∃(j:Nat)(st:↥Sp2)(x9 x10:Option OV),ρ=[!(.fz (aE w rest)),!(.fz (.str t)),!(.ft ks ds),!(.fz (.int k)),!(.fz (.str w)),none,!(.fl (st.map aG)),!(.fz (.int j)),!(.fz (.bl false)),x9,x10,none]/\k<=j/\
        ((i<rest.length/\(i=0->st=[])/\(∀p A,st=p::A->∃J a I b,cF ks ds (hV p)=!(gr J a I b))/\∃m far ls,goF R t m {.comp w rest,x,k,j,i,st,false,none} far ls=!r/\cJ R t m {.comp w rest,x,k,j,i,st,false,none}=E)∨
         (i=rest.length/\E.st=st/\∃p A J a I b,st=p::A/\cF ks ds (hV p)=!(gr J a I b)/\(w="row" ->r.ln=!(j - k))/\(w="first" ->r.ln=none)/\(w="ahead" ->r.ln=if J=none then none else !0)/\(w="not" ->r.ln=if J=none then ↑0 else none))))
        {k,[],none,none,rfl,aab _,.inl {(),λ_=>rfl,(λ_ _ h=>nomatch h),f,k,[x],M,W}} ?_ ?_
      · rintro i d ρ Q' hd ⟨j,st,x9,x10,rfl,O,hh⟩ V
        rw[abW,aai]at hd;let⟨p,hp,rfl⟩:=hd;have hi:=(abT.mp hp).1;rcases hh with ⟨_,h0,hfst,m,far,ls,hg,he⟩|⟨rfl,_⟩
        · obtain⟨m',S,hm',n,s,_,a,I,b,K⟩:=wK T hg rfl rfl he
          have F:ae rest ⟨.comp w rest,x,k,j,i,st,false,none⟩=(p,j):=by
            show (rest.getD i "",j)=_;rw[ab5,hp];rfl
          rw[F]at K;have H:cF ks ds [.inr p,.inl (j:Int)]=!(gr S.ln a I b):=K;have hsl:st.length<=1000:=aao (he ▸ om m {.comp w rest,x,k,j,i,st,false,none}:st.length<=E.st.length) hle;have hlm:(st.map aG).length=st.length:=abR ..;have B:(st++[(p,j)]).map aG=st.map aG++[aG (p,j)]:=aae
          have L:∀Z A,st++[(p,j)]=Z::A->∃J a I b,cF ks ds (hV Z)=!(gr J a I b):=λZ A e=>by
            cases st with
            |nil=>cases e;exact{_,_,_,_,H}
            |cons y ys=>cases e;exact hfst _ _ rfl
          have hcons:∃Z A,st++[(p,j)]=Z::A:=by
            cases st with
            |nil=>exact{_,_,rfl}
            |cons y ys=>exact{_,_,rfl}
          revert{rfl,?_}{lez 2,?_}{(),?_}{lez 2,?_}(c5 H ?_)(di ((w="first" ->S.ln=none)/\(w="row" ->S.ln≠none)) (λhc=>?_) (λC=>?_))
          · ext
            refine aA ?_;revert{ai,?_}(ao (w="row") au (λu=>?_) (λu=>?_))
            · have hq:=hc.2 u
              rw[fq u,F]at n s
              cases N:S.ln with
              |none=>exact absurd N hq
              |some l=>
                rw[N]at n s;ext;let⟨Z,A,hpc⟩:=hcons;let⟨X,a2,st2,b2,hg2⟩:=L Z A hpc;by_cases G:i+1=rest.length
                · rw[show lz rest {({.comp w rest,x,k,j,i,st,false,none}:As)with st:=st++[(p,j)]} ↑l=fJ {.comp w rest,x,k,j+l,i+1,st++[(p,j)],false,none} ↑(j+l - k)from if_pos G]at n s
                  let⟨f1,f2⟩:=fu n rfl s;exact V _ {j+l,st++[(p,j)],!(.fz (.int l)),!(.fz (.str p)),by rw[B];rfl,(),.inr {G,f2,Z,A,X,a2,st2,b2,hpc,hg2,λ_=>f1,λz=>absurd (u.symm.trans z) ∅,λz=>absurd (u.symm.trans z) ∅,λz=>absurd (u.symm.trans z) ∅}}
                · rw[show lz rest {({.comp w rest,x,k,j,i,st,false,none}:As)with st:=st++[(p,j)]} ↑l={.comp w rest,x,k,j+l,i+1,st++[(p,j)],false,none}from if_neg G]at n s
                  exact V _ {j+l,st++[(p,j)],!(.fz (.int l)),!(.fz (.str p)),by rw[B];rfl,(),.inl {(),λz=>absurd z (Nat.succ_ne_zero i),L,m',_,_,n,s}}
            · rcases hwd with v|v|v|v
              · exact absurd v u
              · have hq:=hc.1 v
                rw[c8 v,F,hq]at n s;let⟨Z,A,hpc⟩:=hcons;let⟨X,a2,st2,b2,hg2⟩:=L Z A hpc;by_cases G:i+1=rest.length
                · rw[show ce rest {({.comp w rest,x,k,j,i,st,false,none}:As)with st:=st++[(p,j)]} none=fJ {.comp w rest,x,k,j,i+1,st++[(p,j)],false,none} none from if_pos (.inr G)]at n s
                  let⟨f1,f2⟩:=fu n rfl s;exact V _ {j,st++[(p,j)],!(.fz (cH S.ln)),!(.fz (.str p)),by rw[B];rfl,O,.inr {G,f2,Z,A,X,a2,st2,b2,hpc,hg2,λz=>absurd z u,λ_=>f1,λz=>absurd (v.symm.trans z) ∅,λz=>absurd (v.symm.trans z) ∅}}
                · rw[show ce rest {({.comp w rest,x,k,j,i,st,false,none}:As)with st:=st++[(p,j)]} none={.comp w rest,x,k,j,i+1,st++[(p,j)],false,none}from if_neg λz=>z.elim (λy=>y rfl) G]at n s
                  exact V _ {j,st++[(p,j)],!(.fz (cH S.ln)),!(.fz (.str p)),by rw[B];rfl,O,.inl {(),λz=>absurd z (Nat.succ_ne_zero i),L,m',_,_,n,s}}
              · have hl1:=hone (.inl v)
                obtain rfl:i=0:=()
                have hs0:=h0 rfl;subst hs0;rw[fZ v,F]at n s;let⟨f1,f2⟩:=fu n rfl s;exact V _ {j,[(p,j)],!(.fz (cH S.ln)),!(.fz (.str p)),rfl,O,.inr {hl1.symm,f2,(p,j),[],S.ln,a,I,b,rfl,H,λz=>absurd z u,λz=>absurd (v.symm.trans z) ∅,λ_=>f1,λz=>absurd (v.symm.trans z) ∅}}
              · have hl1:=hone (.inr v)
                obtain rfl:i=0:=()
                have hs0:=h0 rfl;subst hs0;rw[jz v,F]at n s;let⟨f1,f2⟩:=fu n rfl s;exact V _ {j,[(p,j)],!(.fz (cH S.ln)),!(.fz (.str p)),rfl,O,.inr {hl1.symm,f2,(p,j),[],S.ln,a,I,b,rfl,H,λz=>absurd z u,λz=>absurd (v.symm.trans z) ∅,λz=>absurd (v.symm.trans z) ∅,λ_=>f1}}
          · ext
            refine{ai,?_};revert(ao (w="first") au (λU=>?_) (λU=>?_))
            · have hnr:w≠ "row":=λz=>absurd (U.symm.trans z) ∅
              rw[c8 U,F]at n s
              cases N:S.ln with
              |none=>
                revert cm{ai,?_}(ao False {λy=>hnr (au.mp y),faa} faa (λ_=>?_));rw[N]at C;refine cm ?_;exact C {λ_=>rfl,λz=>absurd z hnr}
              |some l=>
                rw[N,show ce rest {({.comp w rest,x,k,j,i,st,false,none}:As)with st:=st++[(p,j)]} ↑l=fJ {.comp w rest,x,k,j,i+1,st++[(p,j)],false,none} ↑l from if_pos (.inl λz=>nomatch z)]at n s;let⟨f1,f2⟩:=fu n rfl s;revert ci ci{lez 2,?_};ext;rw[f1,f2]at q;have Y:P (.fz (.tup [.int l,.lst ((st++[(p,j)]).map aG)])) [.fz (aE w rest),.fz (.str t),.ft ks ds,.fz (.int k)]:=q;rw[B]at Y;exact Y
            · ext
              refine cm ?_;revert{ai,?_}(ao (w="row") au (λu=>?_) (λu=>?_))
              · rw[fq u,F]at n s
                cases N:S.ln with
                |none=>
                  rw[N]at n s;let⟨f1,f2⟩:=fu n rfl s;revert ci{lez 2,?_};ext;rw[f1,f2]at q;have Y:P (.fz (.tup [.non,.lst ((st++[(p,j)]).map aG)])) [.fz (aE w rest),.fz (.str t),.ft ks ds,.fz (.int k)]:=q;rw[B]at Y;exact Y
                |some l=>
                  ext;rw[N]at C;refine cm ?_;exact C {λz=>absurd z U,λ_ z=>by cases z}
              · refine cm ?_
                exact C {λz=>absurd z U,λz=>absurd z u}
        · nofun
      · rintro ρ ⟨j,st,x9,x10,rfl,O,hh⟩
        rw[abR]at hh;rcases hh with ⟨h,_⟩|⟨_,hst,p,A,J,a,I,b,rfl,K,h1,h2,h3,h4⟩
        · exact absurd h (aa2 _)
        revert aA{ai,?_}(ao (w="row") au (λu=>?_) (λu=>?_))
        · ext
          refine{lez 2,?_};ext;rw[h1 u,hst]at q;have Y:P (.fz (.tup [.int ((j - k:Nat):Int),.lst ((p::A).map aG)])) [.fz (aE w rest),.fz (.str t),.ft ks ds,.fz (.int k)]:=q;rw[show ((j - k:Nat):Int)=(j:Int) - (k:Int)from ()]at Y;exact Y
        revert b8(c5 K ?_){lez 2,?_}{ai,?_}(ao (w≠ "first") pf (λhnf=>?_) (λhnf=>?_))
        · ext
          refine{ai,?_};revert{{rfl,rfl,aan _},?_};have bft:dEq (.bl false) (.bl true)=false:=∅
          have btf:dEq (.bl true) (.bl false)=false:=∅
          have hA:∀o:Option Nat,r.ln=o->P (.fz (.tup [cH o,.lst ((p::A).map aG)])) [.fz (aE w rest),.fz (.str t),.ft ks ds,.fz (.int k)]:=λo ho=>by
            rw[←ho,←hst];exact q
          rcases hwd with v|v|v|v
          · exact absurd v u
          · exact absurd v hnf
          · have h3':=h3 v
            rw[show dEq (.str w) (.str "ahead")=true from au.mpr v]
            cases J with
            |none=>
              rw[show (⇑(jg (cH none)))=false from rfl,bft];revert{lez 2,?_}(hA none h3')
            |some l=>
              rw[show (⇑(jg (cH !l)))=true from rfl,dA];revert{lez 2,?_}(hA ↑0 h3')
          · have h4':=h4 v
            rw[show dEq (.str w) (.str "ahead")=false from acB.mpr λy=>absurd (v.symm.trans (au.mp y)) ∅]
            cases J with
            |none=>
              rw[show (⇑(jg (cH none)))=false from rfl,dA];revert{lez 2,?_}(hA ↑0 h4')
            |some l=>
              rw[show (⇑(jg (cH !l)))=true from rfl,btf];revert{lez 2,?_}(hA none h4')
        · have U:w="first":=Classical.not_not.mp hnf
          rw[h2 U,hst]at q;revert{lez 2,?_}(q)
  · have hlc:=bB t
    have leaf:∀l,R x=.leaf l->P (.fz (.tup [cH (jm l t k),.lst []])) [.fz (aE w rest),.fz (.str t),.ft ks ds,.fz (.int k)]:=λl hl=>by
      have eb:bC R t x k={.leaf l,x,k,k,0,[],true,jm l t k}:=by unfold bC;rw[hl]
      let⟨f1,f2⟩:=fu (E:=cJ R t f (bC R t x k)) (by rw[eb]at M;rw[eb];exact M) (by rw[eb]) rfl
      have f3:eM R t f (x,k)=[]:=by
        show (cJ R t f (bC R t x k)).st=[];rw[f2,eb]
      rw[f3]at q;rw[eb]at f1;rw[f1]at q;exact q
    revert{ai,?_}(ao (w="any") au (λha=>?_) (λha=>?_))
    · subst ha
      have q1:=leaf .any hR;rw[qm]at q1;revert ci{(),?_}(ao ((k:Int)<(t.length:Int)) decide_eq_true_iff (λhkl=>?_) (λhkl=>?_))
      · rw[if_pos ()]at q1
        revert{ai,?_}(ao True {λ_=>trivial,λ_=>dA _} (λ_=>?_) (λh=>absurd trivial h)){lez 2,?_}{aan _,?_}{lez 2,?_}(q1)
      · rw[if_neg ()]at q1
        revert{lez 2,?_}{aan _,?_}{lez 2,?_}(q1)
    revert{ai,?_}(ao (w="signs") au (λhb=>?_) (λhb=>C {(ha),hb}));subst hb
    obtain⟨z,rfl⟩:∃z,rest=[z]:=by
      let⟨zs,_,h⟩:=hN;rcases h with ⟨h|h,_⟩|⟨_,z,h,_⟩|⟨h|h|h,_⟩|⟨h|h,_⟩
      · exact absurd h ∅
      · exact absurd h ∅
      · exact{(z),h}
      · exact absurd h ∅
      · exact absurd h ∅
      · exact absurd h ∅
      · exact absurd h ∅
      · exact absurd h ∅
    have q1:=leaf (.signs z) hR;revert{(),?_}(ao ((k:Int)<(t.length:Int)) decide_eq_true_iff (λhkl=>?_) (λhkl=>?_))
    · obtain⟨c,hc⟩:∃c,t.cps.toList[k]?=!c:={_,abU ()}
      have ec:atI t.cps.toList (k:Int)=!c:=cV hc;revert{ai,?_}(ao False {λy=>ha (au.mp y),faa} faa (λ_=>?_)){(),?_};rw[ec];revert{lez 2,?_}
      have hln:jm (.signs z) t k=if c∈z.cps.toList then ↑1 else none:=by
        unfold jm;rw[nU hc];by_cases hz:c∈z.cps.toList
        · rw[if_pos hz,if_pos hz];rfl
        · rw[if_neg hz,if_neg hz]
      rw[hln]at q1
      have ea:atI [D.non,D.int 1] (if decide (c∈z.cps.toList)=true then 1 else 0)=!(cH (if c∈z.cps.toList then ↑1 else none)):=by
        by_cases hz:c∈z.cps.toList
        · rw[if_pos (decide_eq_true hz),if_pos hz];rfl
        · rw[if_neg (by rw[decide_eq_false hz];decide),if_neg hz];rfl
      ext;rw[ea];revert{aan _,?_}{lez 2,?_}(q1)
    · have:jm (.signs z) t k=none:=by unfold jm;rw[lb (acu ())]
      rw[this]at q1;revert{lez 2,?_}{aan _,?_}{lez 2,?_}(q1)
def Hk{rest:↥Str}{ks:↥↥Key}(d:R x=rlR w rest)(e:gM w rest)(c:k<=t.length)(a:t.length<=1000)(hr:rdF R t f x k=!r)(T:rY R t ks ds (eM R t f (x,k)))(b:(eM R t f (x,k)).length<=1000)(h:P (.fz (.tup [cH r.ln,.lst ((eM R t f (x,k)).map aG)])) [.fz (aE w rest),.fz (.str t),.ft ks ds,.fz (.int k)]):bO [.fz (aE w rest),.fz (.str t),.ft ks ds,.fz (.int k)] P:=by unfold bO;exact{(R),t,x,w,rest,ks,ds,k,f,r,rfl,d,e,c,a,hr,T,b,h}
def qo{a b:Sp2}:dEq (aG a) (aG b)=true↔a=b:=by show (dEq (.str a.1) (.str b.1)&&(dEq (.int a.2) (.int b.2)&&true))=true↔_;rw[Bool.and_true,ach,au,bu];constructor;rintro⟨h1,h2⟩;let⟨d,c⟩:=a;let⟨b1,b2⟩:=b;have:c=b2:=Int.ofNat.inj h2;rw[show d=b1 from h1,this];rintro rfl;exact{(rfl),rfl}
def wL{l:↥Sp2}:((l.map aG).any λx=>dEq x (aG q))=true↔q∈l:=by rw[aaM];constructor;rintro⟨x,b,h⟩;let⟨a,c,rfl⟩:=abZ.mp b;exact qo.mp h ▸ c;intro h;exact{_,abZ.mpr {(q),h,rfl},qo.mpr rfl}
def mQ(rows:↥Rw):okDs (rows.map gy)=true:=by induction rows with|nil=>rfl|cons r rows a=>exact ab8.mpr {ab8.mpr {fj r.2.2,rfl},a}
def Bn(r:Rw):dep (m9 (gy r))<=2:=by have h:=fW r.2.2;show max 0 (max (max 0 (deps (toDVs (r.2.2.map D.str)))+1) 0)+1<=2;rw[h];decide
def wM(rows:↥Rw):deps (toDVs (rows.map gy))<=2:=by induction rows with|nil=>exact aan _|cons r rows a=>exact acI.mpr {Bn r,a}
def wN:zg (.lst (rows.map gy)) (.lst (rows'.map gy)):=-{mQ rows,mQ rows',aao (abL (wM rows)) (by decide)}
def Bo:∀(es:Kp){e:Sp2×Res},e∈es->e.2.far<=cv k es:=-λes=>by have mono:∀(es:Kp)(a b:Nat),a<=b->a<=cv b es:=λes=>by{induction es with|nil=>exact fun a b h=>h|cons y es c=>exact fun a b h=>c a (max b y.2.far) ()};induction es generalizing k with|nil=>intro e h;cases h|cons y es c=>intro e h;rcases ab2.mp h with z|z;rw[z];exact mono es _ (max k y.2.far) ();exact c (k:=max k y.2.far) z
theorem CN{R:Rls}{t:Str}:∀(m:Nat)(s:As)(far:Nat)(ls:↥Str)(r:Res),goF R t m s far ls=!r->∃es:Kp,(cJ R t m s).st=s.st++es.map (·.1)/\(∀e∈es,∃g,rdF R t g e.1.1 e.1.2=!e.2)/\r.far=cv far es/\∀v,v∈r.ls↔v∈ls∨∃e∈es,v∈e.2.ls|0,s,far,ls,r,h=>by cases h|m+1,s,far,ls,r,h=>by cases hd:s.dn with|true=>rw[fS hd]at h;cases h;exact{[],by rw[eY hd,List.map_nil,aaw],(λ_ y=>nomatch y),rfl,λv=>{.inl,λy=>y.elim id fun⟨_,z,_⟩=>nomatch z}}|false=>let⟨w,p,q,h1,h2,b⟩:=ig hd h;let⟨es,g1,g2,g3,c⟩:=CN m _ _ _ r b;refine{(ae p s,q)::es,?_,λe a=>?_,g3,λv=>?_};rw[gm hd h1 h2,g1];let⟨_,_,_,_,e,_⟩:=dE w p s q.ln;rw[e,ab1];show (s.st++[ae p s])++_=_;rw[aay];rfl;rcases ab2.mp a with z|z;rw[z];exact{(m),h2};exact g2 e z;rw[c,fB,or_assoc];constructor;rintro (z|z|⟨e,a,z⟩);exact .inl z;exact .inr {_,aac ..,z};exact .inr {e,aad _ a,z};rintro (z|⟨e,a,z⟩);exact .inl z;rcases ab2.mp a with y|y;rw[y]at z;exact .inr (.inl z);exact .inr (.inr {(e),y,z})
@[irreducible] def bP:Ct:=λos P=>∃(ns nn:↥Str)(rows:↥Rw)(t x:Str)(ks:↥↥Key)(ds:↥D)(k f:Nat)(r:Res),os=[bn rows,.fz (.str t),.ft ks ds,.fz (.str x),.fz (.int k)]/\BkW ns nn rows/\x∈ns++nn/\k<=t.length/\t.length<=30/\rdF (bY (ag rows)) t f x k=!r/\rY (bY (ag rows)) t ks ds (eM (bY (ag rows)) t f (x,k))/\ P (.fz (gr r.ln ((r.far:Int) - (k:Int)+1) (bG [] (eM (bY (ag rows)) t f (x,k))) (aT r.ls))) os
abbrev CO:Stmt:=top 71
abbrev L8:FS:=(am (bS (fC .non) (ac 5)) (am (bS (i4 af) (ac 6)) (am (fIf (av (fOp aIn (ab 3) (ab 0))) (bS (al bO (aa (fFz (fOp aIx (ab 0) (ab 3))) (aa (fFz (ab 1)) (aa (ab 2) (aa (fFz (ab 4)) af))))) (i6 2 (aV (ac 5) (aV (ac 6) i5)))) aB) (am (cn 7 (i4 af)) (am (bS (fOp dW (ab 4) (fC (.int 1))) (ac 8)) (am (cn 9 (vg (ab 3) (fC (.bl true)))) (am (kJ (bW (ab 6)) (ac 10) (fIf (av (fOp nS (ab 10) (ab 7))) (am (bR (sh 7 (ab 10))) (am (bS (fCB MT (aa (ab 8) (aa (fOp dW (fOp aIx (ab 10) (fC (.int 1))) (fOp aIx (fOp aIx (ab 2) (ab 10)) (fC (.int 1)))) af))) (ac 8)) (kJ (bW (fOp aIx (fOp aIx (ab 2) (ab 10)) (fC (.int 3)))) (ac 11) (uy 9 (fC (.bl true)) (ab 11))))) aB)) (bc (fL (aa (ab 5) (aa (fOp (aI0 λi j=>.int (i - j)) (ab 8) (ab 4)) (aa (ab 7) (aa (fCB hJ (aa (ab 9) af)) af)))))))))))))
def L9:Hh bP L8 [0,2] 12:=by intro os P h;unfold bP at h;refine ex10 h ?_;clear h;rintro ns nn rows t x ks ds k f r ⟨rfl,B,hx,hk,htl,hr,T,q⟩;have sz:=sizeLine_eq;have RK:=B.rk htl;have K:=nX RK.rls hx hk hr;have G:=vL (f:=f) RK.rls (jn (z:=t) RK.rls hx hk);have V:(eM (bY (ag rows)) t f (x,k)).length<=1000:=by{have h5:=G.st;have h6:=G.t8;have h7:=G.tz;have:(if (cJ (bY (ag rows)) t f (bC (bY (ag rows)) t x k)).dn=true then 1 else 0)<=1:=by{split<;>nofun};show (cJ (bY (ag rows)) t f (bC (bY (ag rows)) t x k)).st.length<=1000;nofun};let⟨es,g1,g2,g3,g4⟩:=CN f _ _ _ r (hr:goF (bY (ag rows)) t f (bC (bY (ag rows)) t x k) k [x]=!r);have g1:eM (bY (ag rows)) t f (x,k)=es.map (·.1):=by{have hb:=(cu (R:=bY (ag rows)) (z:=t) (n:=x) (k:=k)).2.2;show (cJ (bY (ag rows)) t f (bC (bY (ag rows)) t x k)).st=_;rw[g1,hb];rfl};have U:(ns++nn).length<=32:=by{have:=B.l30;have:=B.nl;rw[aag];nofun};generalize hR:bY (ag rows)=R at*;revert{aan _,?_}(ji (λρ=>ρ=[!(bn rows),!(.fz (.str t)),!(.ft ks ds),!(.fz (.str x)),!(.fz (.int k)),!(.fz (cH r.ln)),!(.fz (.lst ((eM R t f (x,k)).map aG))),none,none,none,none,none]) ?_ ?_);rintro ρ rfl;revert{aan _,?_};ext;rw[g1,aar];refine bf (λi ρ=>∃(L:↥Str)(vs:↥D)(O u:Option OV),ρ=[!(bn rows),!(.fz (.str t)),!(.ft ks ds),!(.fz (.str x)),!(.fz (.int k)),!(.fz (cH r.ln)),!(.fz (.lst ((eM R t f (x,k)).map aG))),!(.fl ((bG [] ((es.map (·.1)).take i)).map aG)),!(.fz (.int ((cv k (es.take i):Nat)+1))),!(.fd (L.map Sum.inr) vs),O,u]/\L.Nodup/\(∀v∈L,v∈ns++nn)/\∀v,v∈L↔v=x∨∃e∈es.take i,v∈e.2.ls) {[x],[.bl true],none,none,by rw[g1,aar];rfl,by simp,λv Z=>by rw[List.mem_singleton.mp Z];exact hx,λv=>by simp} ?_ ?_;rintro i d ρ Q hd ⟨L,vs,O,u,rfl,p,C,F⟩ kk;rw[abW,aai]at hd;let⟨e,X,rfl⟩:=hd;have hi:=(abT.mp X).1;have hei:(es.map (·.1))[i]?=!e.1:=by{rw[abW,X];rfl};have hmem:e.1∈eM R t f (x,k):=by{rw[g1];exact abX hei};let⟨f',rq,st',t1,t2⟩:=T _ hmem;let⟨g5,g6⟩:=g2 e (abX X);obtain rfl:rq=e.2:=hU t1 g6;have hel:es.length<=1000:=by{rw[g1,abR]at V;exact V};have hol:=jr (ms:=(es.map (·.1)).take i) (ls:=[]);rw[aam,abR,abQ]at hol;have a:=ki (ls:=[]) hei;have M:=kh (k:=k) X;have htk:es.take (i+1)=es.take i++[e]:=by{rw[aaq,X];rfl};have Y:cF ks ds [.inr e.1.1,.inl (e.1.2:Int)]=!(gr e.2.ln ((e.2.far:Int) - (e.1.2:Int)+1) st' (aT e.2.ls)):=t2;have hLl:L.length<=32:=aao (aas p C) U;revert aA{{rfl,km _,aao (kn _) (by decide)},?_}(ao (e.1∉bG [] ((es.map (·.1)).take i)) (by rw[aaX,abJ];exact not_congr wL) (λJ=>?_) (λJ=>?_));rw[if_neg J]at a;revert{rfl,?_}{by rw[abR];nofun,?_}(c5 Y ?_)(c5 Y ?_);ext;have hmax:(if (e.1.2:Int)+((e.2.far:Int) - (e.1.2:Int)+1)>((cv k (es.take i):Nat):Int)+1 then (e.1.2:Int)+((e.2.far:Int) - (e.1.2:Int)+1) else ((cv k (es.take i):Nat):Int)+1)=((cv k (es.take (i+1)):Nat):Int)+1:=by{rw[M];split<;>nofun};have hsub:∀v∈e.2.ls,v∈ns++nn:=λv Z=>K.sub v ((g4 v).mpr (.inr {e,abX X,Z}));have hst2:(bG [] ((es.map (·.1)).take (i+1))).map aG=(bG [] ((es.map (·.1)).take i)).map aG++[aG e.1]:=by{rw[a];exact aae};refine bf (λj ρ=>∃(H:↥Str)(o:↥D)(I:Option OV),ρ=[!(bn rows),!(.fz (.str t)),!(.ft ks ds),!(.fz (.str x)),!(.fz (.int k)),!(.fz (cH r.ln)),!(.fz (.lst ((eM R t f (x,k)).map aG))),!(.fl ((bG [] ((es.map (·.1)).take (i+1))).map aG)),!(.fz (.int ((cv k (es.take (i+1)):Nat)+1))),!(.fd (H.map Sum.inr) o),!(.fz (aG e.1)),I]/\H.Nodup/\(∀v∈H,v∈ns++nn)/\∀v,v∈H↔v∈L∨v∈(aT e.2.ls).take j) {L,vs,u,by rw[hst2,←hmax];rfl,p,C,λv=>by simp} ?_ ?_;rintro j d ρ Q' hd ⟨H,o,I,rfl,l,g,m⟩ kk';rw[abW,aai]at hd;let⟨y,hy,rfl⟩:=hd;have hyl:y∈e.2.ls:=(aq _).mem_iff.mp (abX hy);have hLl':H.length<=32:=aao (aas l g) U;revert{rfl,?_}{by rw[abR];nofun,?_};refine kk' _ {_S.dedup1 H y,(jc (H.map Sum.inr) o (.inr y) (.bl true)).2,!(.fz (.str y)),by rw[←ma (ds:=o) (d:=.bl true)];rfl,gU l,λv Z=>?_,λv=>?_};rcases gH.mp Z with h|h;exact g v h;rw[h];exact hsub y hyl;rw[gH,m,aaq,hy,abS,or_assoc];simp;rintro ρ ⟨H,o,I,rfl,l,g,m⟩;rw[abR,aah (aab _)]at m;refine kk _ {H,o,!(.fz (aG e.1)),I,rfl,l,g,λv=>?_};rw[m,F,(aq _).mem_iff,htk,or_assoc];constructor;rintro (h|⟨N,c,h⟩|h);exact .inl h;exact .inr {N,abS.mpr (.inl c),h};exact .inr {e,abS.mpr (.inr (abY.mpr rfl)),h};rintro (h|⟨N,c,h⟩);exact .inl h;rcases abS.mp c with h2|h2;exact .inr (.inl {(N),h2,h});rw[abY.mp h2]at h;exact .inr (.inr h);have b:e.1∈(es.map (·.1)).take i:=by{have:=jq.mp (Classical.not_not.mp J);exact this.elim (λh=>nomatch h) id};rw[←List.map_take]at b;let⟨N,c,hee⟩:=abZ.mp b;let⟨g7,g8⟩:=g2 N (abb c);have hee':N.1=e.1:=hee;rw[hee']at g8;have he2:N.2=e.2:=hU g8 g6;rw[if_pos (Classical.not_not.mp J)]at a;have hf2:cv k (es.take (i+1))=cv k (es.take i):=by{rw[M];have:=Bo (k:=k) (es.take i) c;rw[he2]at this;nofun};refine kk _ {L,vs,!(.fz (aG e.1)),u,by rw[a,hf2];rfl,p,C,λv=>?_};rw[F,htk];constructor;rintro (h|⟨W,h1,h2⟩);exact .inl h;exact .inr {W,abS.mpr (.inl h1),h2};rintro (h|⟨W,h1,h2⟩);exact .inl h;rcases abS.mp h1 with h3|h3;exact .inr {(W),h3,h2};rw[abY.mp h3,←he2]at h2;exact .inr {(N),c,h2};rintro ρ ⟨L,vs,O,u,rfl,p,C,F⟩;have hLl:L.length<=32:=aao (aas p C) U;rw[abR,aah (aab _)]at F;rw[abR,aah (show es.length<=es.length from aab _),aah (by rw[abR];exact aab _)];revert(gl (zs:=L) () ?_){lez 4,?_};ext;have hs:aT L=aT r.ls:=rX p K.nd λv=>by{rw[F,g4,abY]};rw[hs];rw[g1,g3]at q;have q2:P (.fz (.tup [cH r.ln,.int (((cv k es:Nat):Int) - (k:Int)+1),.lst ((bG [] (es.map (·.1))).map aG),.lst ((aT r.ls).map .str)])) [bn rows,.fz (.str t),.ft ks ds,.fz (.str x),.fz (.int k)]:=q;rw[show ((cv k es:Nat):Int) - (k:Int)+1=((cv k es:Nat):Int)+1 - (k:Int)from ()]at q2;exact q2;intro rest;revert(ao (x∈rows.map (·.1)) bx (λb=>?_) (λb=>?_));let⟨⟨y,w,ps⟩,S,rfl⟩:=abZ.mp b;let⟨r',hr',e1,hrow⟩:=bo b;obtain rfl:=ju B.ndr S hr' e1;have hget:=fE hrow;have hRx:=mP B.ndr S;rw[hR]at hRx;let⟨j,s,_,_,hf⟩:=B.fm _ S;have hN:gM w ps:={ns++nn,B.nm,wJ gv hf};ext;erw [hget];revert(Hk hRx hN hk () hr T V ?_){rfl,?_};exact rest _ rfl;have hxn:x∉ns:=λh=>b (by rw[B.names,abM];exact h);have A:=B.lack hxn;rw[hR]at A;have eb:bC R t x k={.leaf .lack,x,k,k,0,[],true,none}:=by{unfold bC;rw[A];rfl};let⟨f1,f2⟩:=fu (E:=cJ R t f (bC R t x k)) (by have:goF R t f (bC R t x k) k [x]=!r:=hr;exact this) (by rw[eb]) rfl;rw[eb]at f1;have f3:eM R t f (x,k)=[]:=by{show (cJ R t f (bC R t x k)).st=[];rw[f2,eb]};refine rest _ ?_;rw[f1,f3];rfl
def Hl{ks:↥↥Key}(B:BkW ns nn rows)(hx:x∈ns++nn)(b:k<=t.length)(a:t.length<=30)(hr:rdF (bY (ag rows)) t f x k=!r)(T:rY (bY (ag rows)) t ks ds (eM (bY (ag rows)) t f (x,k)))(h:P (.fz (gr r.ln ((r.far:Int) - (k:Int)+1) (bG [] (eM (bY (ag rows)) t f (x,k))) (aT r.ls))) [bn rows,.fz (.str t),.ft ks ds,.fz (.str x),.fz (.int k)]):bP [bn rows,.fz (.str t),.ft ks ds,.fz (.str x),.fz (.int k)] P:=by unfold bP;exact{(ns),nn,rows,t,x,ks,ds,k,f,r,rfl,B,hx,b,a,hr,T,h}
def Ma(B:BkW ns nn rows)(a:t.length<=30)(hx:x∈ns++nn)(b:k<=t.length):∃r,rdF (bY (ag rows)) t 100000 x k=!r:=by let⟨r,hr⟩:=OI (B.rk a) (t.length*64+dN ns x) x k (Nat.le_add_right ..) hx b;have:=lu ns x;have:=B.l30;exact{r,nV () hr}
def Bp{k:↥Key}{k':↥Key}:∀{ks:↥↥Key}{ds:↥D},ks.length=ds.length->(ml ks ds k d).1.length=(ml ks ds k d).2.length/\(ml ks ds k d).1.length<=ks.length+1/\cF (ml ks ds k d).1 (ml ks ds k d).2 k'=if k=k' then ↑d else cF ks ds k':=by intro ks ds f;unfold ml;by_cases h:rA ks k=true;rw[if_pos h];refine{by simp[f],aba _,?_};unfold rA at h;unfold cF;induction ks generalizing ds with|nil=>cases h|cons a ks o=>{cases ds with|nil=>cases f|cons b ds=>simp only[List.zip_cons_cons,List.map_cons,List.find?_cons];by_cases l:a=k';rw[decide_eq_true l];by_cases c:k=k';rw[if_pos c,if_pos (l.trans c.symm)];rfl;rw[if_neg c,if_neg λy=>c (y.symm.trans l)];rw[decide_eq_false l];by_cases j:a=k;have c:k≠k':=λy=>l (j.trans y);rw[if_neg c];by_cases h2:(ks.any λx=>decide (x=k))=true;have:=o (Nat.succ.inj f) h2;rw[if_neg c]at this;exact this;have e:((ks.zip ds).map λg=>if g.1=k then d else g.2)=ds:=by{have m:ks.length=ds.length:=Nat.succ.inj f;refine List.ext_getElem (by simp[m]) λi h1 p=>?_;have hi:i<ks.length:=();rw[abw,List.getElem_zip];have:ks[i]≠k:=λy=>h2 (List.any_eq_true.mpr {ks[i],aaL _,decide_eq_true y});rw[if_neg this]};rw[e];have h2:(ks.any λx=>decide (x=k))=true:=by{rw[abD,decide_eq_false j,Bool.false_or]at h;exact h};exact o (Nat.succ.inj f) h2};rw[if_neg h];refine{by simp[f],by simp,?_};unfold cF;rw[List.zip_append f,List.find?_append];by_cases c:k=k';rw[if_pos c];subst c;have:((ks.zip ds).find? λg=>decide (g.1=k))=none:=acs.mpr λg n y=>h (List.any_eq_true.mpr {g.1,(List.of_mem_zip n).1,y});rw[this];simp;rw[if_neg c];simp[c]
theorem qp{R:Rls}{t:Str}{pool:↥Str}{rk:Str->Nat}{sol:Str->Prop}(h:RkOk R t pool rk sol){x w:Str}{ps:↥Str}{k:Nat}(v:R x=.comp w ps):∀(f:Nat)(s:As),s.fm=.comp w ps->k<=s.t->s.t<=t.length->(s.dn=false->s.tn<ps.length)->(s.t=k->w="row" ->∀y∈ps.take s.tn,¬sol y)->∀q∈(cJ R t f s).st,q∈s.st∨(q.1∈pool/\q.2<=t.length/\(k<q.2∨q.2=k/\rk q.1<rk x))
 |0,s,_,_,_,_,_,q,g=>.inl g
 |f+1,s,p,h1,h2,D,A,q,g=>by
  have C:=h.cp x w ps v
  cases hd:s.dn with
  |true=>rw [eY hd]at g;exact .inl g
  |false=>
   have j:=D hd
   cases hr:rdF R t f (ae ps s).1 (ae ps s).2 with
   |none=>
    unfold cJ at g;rw[if_neg (by rw[hd];decide),p]at g;simp only[hr]at g;exact .inl g
   |some r=>
    rw[gm hd p hr]at g;have m:=nX h.rls (C.pl _ (ei j)) h2 hr
    have u:(ae ps s).1∈pool/\(ae ps s).2<=t.length/\(k<(ae ps s).2∨(ae ps s).2=k/\rk (ae ps s).1<rk x):=by
     refine{C.pl _ (ei j),h2,?_};by_cases e:s.t=k
     .refine .inr {e,?_};by_cases d:w="row"
      .exact C.rw d _ _ (gP j) (A e d)
      .exact C.nr d _ (ei j)
     .exact .inl (by show k<s.t;nofun)
    have o:∀q∈(bg w ps s r.ln).st,q∈s.st∨(q.1∈pool/\q.2<=t.length/\(k<q.2∨q.2=k/\rk q.1<rk x)):=λq g=>by
     let⟨_,_,_,_,e,_⟩:=dE w ps s r.ln;rw[e]at g;rcases abS.mp g with h|h
     .exact .inl h
     .rw[abY.mp h];exact .inr u
    have fin:(bg w ps s r.ln).dn=true->q∈s.st∨(q.1∈pool/\q.2<=t.length/\(k<q.2∨q.2=k/\rk q.1<rk x)):=λhs=>by
     rw[eY hs]at g;exact o q g
    have b:(bg w ps s r.ln).fm=.comp w ps->k<=(bg w ps s r.ln).t->(bg w ps s r.ln).t<=t.length->((bg w ps s r.ln).dn=false->(bg w ps s r.ln).tn<ps.length)->((bg w ps s r.ln).t=k->w="row" ->∀y∈ps.take (bg w ps s r.ln).tn,¬sol y)->q∈s.st∨(q.1∈pool/\q.2<=t.length/\(k<q.2∨q.2=k/\rk q.1<rk x)):=λI H G F E=>
     (qp h v f _ I H G F E q g).elim (o q) .inr
    rcases C.wd with d|d|d|d|d
    .rw[fq d]at fin b
     cases c:r.ln with
     |none=>rw[c]at fin;exact fin rfl
     |some l=>
      have n:=m.ln l c;rw[c]at fin b;by_cases a:s.tn+1=ps.length
      .rw[show lz ps {s with st:=s.st++[ae ps s]} ↑l=fJ {s with st:=s.st++[ae ps s],t:=s.t+l,tn:=s.tn+1} ↑(s.t+l - s.k)from if_pos a]at fin;exact fin rfl
      .rw[show lz ps {s with st:=s.st++[ae ps s]} ↑l={s with st:=s.st++[ae ps s],t:=s.t+l,tn:=s.tn+1}from if_neg a]at b;refine b p (by show k<=s.t+l;nofun) n (λ_=>by show s.tn+1<_;nofun) (λe _ y B=>?_);have J:s.t+l=k:=e;have i:y∈ps.take (s.tn+1):=B;rw[aaq,gP j]at i;rcases abS.mp i with i|i
       .exact A () d y i
       .have:y=(ae ps s).1:=(by exists i);rw[this];exact λz=>h.sl _ z _ _ _ hr (by rw[c];congr 1;nofun)
    .rw[c8 d]at fin b;by_cases a:r.ln≠none∨s.tn+1=ps.length
     .rw[show ce ps {s with st:=s.st++[ae ps s]} r.ln=fJ {s with st:=s.st++[ae ps s],tn:=s.tn+1} r.ln from if_pos a]at fin;exact fin rfl
     .rw[show ce ps {s with st:=s.st++[ae ps s]} r.ln={s with st:=s.st++[ae ps s],tn:=s.tn+1}from if_neg a]at b;exact b p h1 h2 (λ_=>by show s.tn+1<_;nofun) (λ_ z=>by rw[d]at z;exact absurd z ∅)
    .rw[fX d]at fin b;by_cases a:r.ln=none∨r.ln=!0
     .rw[show cI {s with st:=s.st++[ae ps s]} r.ln=fJ {s with st:=s.st++[ae ps s]} ↑(s.t - s.k)from if_pos a]at fin;exact fin rfl
     .rw[show cI {s with st:=s.st++[ae ps s]} r.ln={s with st:=s.st++[ae ps s],t:=s.t+r.ln.getD 0}from if_neg a]at b
      cases c:r.ln with
      |none=>exact absurd (.inl c) a
      |some l=>
       have n:=m.ln l c;rw[c]at b;exact b p (by show k<=s.t+l;nofun) n (λ_=>j) (λ_ z=>by rw[d]at z;exact absurd z ∅)
    .rw[fZ d]at fin;exact fin rfl
    .rw[jz d]at fin;exact fin rfl
def Mb{rk:Str->Nat}(h:RkOk R t pool rk sol)(i:k<=t.length)(g:q∈eM R t f (x,k)):q.1∈pool/\q.2<=t.length/\(k<q.2∨q.2=k/\rk q.1<rk x):=by have a:q∈(cJ R t f (bC R t x k)).st:=g;cases b:R x with|leaf l=>have d:bC R t x k={.leaf l,x,k,k,0,[],true,jm l t k}:=by{unfold bC;rw[b]};rw[d,eY rfl]at a;cases a|comp w ps=>have d:bC R t x k={.comp w ps,x,k,k,0,[],false,none}:=by{unfold bC;rw[b]};rw[d]at a;have C:=h.cp x w ps b;rcases qp h b f _ rfl (aab _) i (λ_=>by have:=C.l1;show 0<_;nofun) (λ_ _ y e=>by have c:y∈ps.take 0:=e;cases c) q a with z|z;cases z;exact z
def Bq(nd:(ns++nn).Nodup)(hx:(nn++ns.reverse)[i]?=!x)(f:y∈ns++nn)(hr:dN ns y<dN ns x):y∈(nn++ns.reverse).take i:=by let⟨b,g,d⟩:=ace.mp nd;by_cases hi:i<nn.length;rw[acg hi]at hx;have:x∉ns:=λz=>d x z x (abX hx) rfl;rw[jA this]at hr;exact absurd hr (Nat.not_lt_zero _);rw[ab7 ()]at hx;have a:=(abT.mp hx).1;rw[aaB]at a;rw[List.getElem?_reverse a]at hx;rw[gu b hx]at hr;rw[List.take_append];rcases abS.mp f with h|h;let⟨j,c,e⟩:=acD.mp h;rw[gu (j:=j) b (by rw[abU c,e])]at hr;refine abS.mpr (.inr ?_);refine aci.mpr {ns.length - 1 - j,?_};rw[acr (),List.getElem?_reverse (),show ns.length - 1 - (ns.length - 1 - j)=j from (),abU c,e];exact abS.mpr (.inl (by rw[aah ()];exact h))
def wO(rows:↥Rw)(t:Str)(ks:↥↥Key)(ds:↥D)(S:Sp2->Prop):Prop:=∀q,S q->∃a,rdF (bY (ag rows)) t 100000 q.1 q.2=!a/\cF ks ds (hV q)=!(gr a.ln ((a.far:Int) - (q.2:Int)+1) (bG [] (eM (bY (ag rows)) t 100000 q)) (aT a.ls))
inductive c9:Ct
 |mk {ns nn:↥Str} {rows:↥Rw} {t:Str} {P:OV->↥OV->Prop} (B:BkW ns nn rows) (htl:t.length<=30) (h:∀(ks:↥↥Key)(ds:↥D),wO rows t ks ds (λq=>q.1∈ns++nn/\q.2<=t.length)->P (.ft ks ds) [.fz (.lst (ns.map .str)),.fz (.lst (nn.map .str)),bn rows,.fz (.str t)]):c9 [.fz (.lst (ns.map .str)),.fz (.lst (nn.map .str)),bn rows,.fz (.str t)] P
abbrev wQ:Stmt:=top 72
abbrev Hm:FS:=(am (cn 4 pA) (am (kJ (vv (aa (fOp dW (fCB eO (aa (ab 3) af)) (fC (.int 1))) af)) (ac 5) (kJ (bW (fOp dW (ab 1) (fRv (ab 0)))) (ac 6) (pB 4 (al bP (aa (ab 2) (aa (fFz (ab 3)) (aa (ab 4) (aa (fFz (ab 6)) (aa (fFz (ab 5)) af)))))) (fL (aa (ab 6) (aa (ab 5) af)))))) (bc (ab 4))))
def Hn:Hh c9 Hm [2] 7:=by intro os P h;obtain@⟨ns,nn,rows,t,_,B,l,q⟩:=h;have sz:=sizeLine_eq;have E:=B.l30;have L:=B.nl;have w:=B.rk (t:=t) l;revert{(),?_}{{(),()},?_};ext;have O:((t.length:Int)+1).toNat=t.length+1:=();rw[O];refine bf (λi ρ=>∃(ks:↥↥Key)(ds:↥D)(s c:Option OV),ks.length=ds.length/\ks.length<=32*i/\i<=t.length+1/\wO rows t ks ds (λq=>q.1∈ns++nn/\q.2<=t.length/\t.length+1<=q.2+i)/\ρ=[!(.fz (.lst (ns.map .str))),!(.fz (.lst (nn.map .str))),!(bn rows),!(.fz (.str t)),!(.ft ks ds),s,c]) {[],[],none,none,rfl,aab _,aan _,(λq C=>()),rfl} ?_ ?_;rintro i d ρ Q hd ⟨ks,ds,s,c,b,f,v,a,rfl⟩ u;let⟨hi,rfl⟩:=mr hd;obtain⟨p,V⟩:∃p,t.length=p+i:={t.length - i,()};rw[show ((t.length+1:Nat):Int) - 1 - (i:Int)=(p:Int)from ()];revert{by rw[abR,aaB,abR];nofun,?_};ext;rw[←List.map_reverse,←aae];refine bf (λj ρ=>∃(ks:↥↥Key)(ds:↥D)(c:Option OV),ks.length=ds.length/\ks.length<=32*i+j/\wO rows t ks ds (λq=>(q.1∈ns++nn/\q.2<=t.length/\t.length+1<=q.2+i)∨(q.2=p/\q.1∈(nn++ns.reverse).take j))/\ρ=[!(.fz (.lst (ns.map .str))),!(.fz (.lst (nn.map .str))),!(bn rows),!(.fz (.str t)),!(.ft ks ds),!(.fz (.int p)),c]) {ks,ds,c,b,(),(λq C=>a q (C.elim id λz=>nomatch z.2)),rfl} ?_ ?_;rintro j d ρ Q hd ⟨ks,ds,c,b,f,a,rfl⟩ u;rw[abW,aai]at hd;let⟨x,n,rfl⟩:=hd;have N:=(abT.mp n).1;have m:x∈ns++nn:=by{rcases abS.mp (abX n)with h|h;exact abS.mpr (.inr h);exact abS.mpr (.inl (List.mem_reverse.mp h))};let⟨r,hr⟩:=Ma B l m (show p<=t.length from ());have T:rY (bY (ag rows)) t ks ds (eM (bY (ag rows)) t 100000 (x,p)):=λy g=>by{let⟨G,U,o⟩:=Mb w (show p<=t.length from ()) g;let⟨H,J,I⟩:=a y (by rcases o with o|⟨o,S⟩;exact .inl {G,U,()};exact .inr {o,Bq B.nd n G S});exact{_,H,_,J,I}};have M:j<ns.length+2:=by{rw[aag,aaB]at N;nofun};revert(Hl B m (show p<=t.length from ()) l hr T ?_){rfl,?_}{lez 2,?_}{(),?_};have A:=λK=>Bp (k:=hV (x,p)) (d:=gr r.ln ((r.far:Int) - (p:Int)+1) (bG [] (eM (bY (ag rows)) t 100000 (x,p))) (aT r.ls)) (k':=K) b;refine u _ {_,_,!(.fz (.str x)),(A []).1,by have:=(A []).2.1;nofun,λy g=>?_,rfl};rw[(A (hV y)).2.2];by_cases e:hV (x,p)=hV y;rw[if_pos e];have R:=iB e;subst R;exact{(r),hr,rfl};rw[if_neg e];refine a y ?_;rcases g with h|⟨h1,h2⟩;exact .inl h;rw[aaq,n]at h2;rcases abS.mp h2 with h|h;exact .inr {(h1),h};have F:y.1=x:=(by exists h);exact absurd (by rw[←F,←h1]) e;rintro ρ ⟨ks,ds,c,b,f,a,rfl⟩;rw[abR,aah (aab _)]at a;rw[abR,aag,aaB]at f;refine u _ {ks,ds,!(.fz (.int p)),c,b,(),(),λy g=>a y ?_,rfl};let⟨h1,h2,F⟩:=g;by_cases e:y.2=p;refine .inr {e,?_};rcases abS.mp h1 with h|h;exact abS.mpr (.inr (List.mem_reverse.mpr h));exact abS.mpr (.inl h);exact .inl {h1,h2,()};rintro ρ ⟨ks,ds,s,c,b,f,v,a,rfl⟩;rw[ke]at a;revert(q ks ds λy g=>a y {g.1,g.2,()})
def mvN(a b p:Nat):Nat:=p - a+b
def mvQ(a b:Nat)(q:Sp2):Sp2:=(q.1,mvN a b q.2)
def mvA(a b:Nat)(s:As):As:={s with k:=mvN a b s.k,t:=mvN a b s.t,st:=s.st.map (mvQ a b)}
section
variable{R':Rls}  {a b:Nat}
def Ho(h:y.cps.toList[j]?=z.cps.toList[i]?):jm l y j=jm l z i:=by have e:jO l y j=jO l z i:=by{cases l with|lack=>rfl|none=>rfl|any=>have:j<y.length↔i<z.length:=by{rw[bB,bB];by_cases g:j<y.cps.toList.length;rw[abU g]at h;exact{λ_=>(abT.mp h.symm).1,λ_=>g};rw[acu ()]at h;have:=acy.mp h.symm;nofun};unfold jO;by_cases g:j<y.length;rw[if_pos g,if_pos (this.mp g)];rw[if_neg g,if_neg λq=>g (this.mpr q)]|signs s=>unfold jO;rw [h]};unfold jm;rw[e]
theorem Br:∀{f:Nat}{s:As}{far:Nat}{ls:↥Str}{r:Res},goF R z f s far ls=!r->far<=r.far/\∀x∈ls,x∈r.ls|0,_,_,_,_,e=>nomatch e|f+1,s,far,ls,r,e=>by cases h:s.dn with|true=>rw [fS h]at e;cases e;exact {aab _,fun _ h=>h}|false=>let⟨w,p,t,d,c,b⟩:=ig h e;let⟨h1,h2⟩:=Br b;exact{(),λx a=>h2 x (fB.mpr (.inl a))}
def wR{x:Option Nat}(h1:a<=s.k)(h2:s.k<=s.t):bg w p (mvA a b s) x=mvA a b (bg w p s x):=by have i:∀l,mvN a b s.t+l=mvN a b (s.t+l):=λl=>by{unfold mvN;rw[Nat.sub_add_comm (aao h1 h2),Nat.add_right_comm]};have j:∀l,mvN a b (s.t+l) - mvN a b s.k=s.t+l - s.k:=λl=>by{unfold mvN;rw[Nat.add_sub_add_right,Nat.sub_sub_sub_cancel_right h1]};have k:mvN a b s.t - mvN a b s.k=s.t - s.k:=j 0;have m:({mvA a b s with st:=(mvA a b s).st++[ae p (mvA a b s)]}:As)=mvA a b {s with st:=s.st++[ae p s]}:=by{unfold mvA;rw[aae];rfl};unfold bg;simp only;rw[m];by_cases f:w="row";rw[if_pos f,if_pos f];cases x with|none=>rfl|some l=>{unfold lz;simp only;by_cases g:s.tn+1=p.length;rw[if_pos g,if_pos (show (mvA a b {s with st:=s.st++[ae p s]}).tn+1=p.length from g)];unfold mvA fJ;simp only[i,j];rw[if_neg g,if_neg (show ¬(mvA a b {s with st:=s.st++[ae p s]}).tn+1=p.length from g)];unfold mvA;simp only[i]};rw[if_neg f,if_neg f];by_cases e:w="first";rw[if_pos e,if_pos e];unfold ce;by_cases g:x≠none∨s.tn+1=p.length;rw[if_pos g];exact if_pos g;rw[if_neg g];exact if_neg g;rw[if_neg e,if_neg e];by_cases d:w="again";rw[if_pos d,if_pos d];unfold cI;by_cases g:x=none∨x=!0;rw[if_pos g,if_pos g];unfold mvA fJ;simp only[k];rw[if_neg g,if_neg g];unfold mvA;simp only[i];rw[if_neg d,if_neg d];by_cases c:w="ahead";rw[if_pos c,if_pos c];rfl;rw[if_neg c,if_neg c];rfl
def CP(d:R' n=R n)(c:y.cps.toList[mvN a b k]?=z.cps.toList[k]?):bC R' y n (mvN a b k)=mvA a b (bC R z n k):=by unfold bC;rw[d];cases R n with|leaf l=>show ({_,_,_,_,_,_,_,_}:As)={_,_,_,_,_,_,_,_};rw[Ho (l:=l) c];rfl|comp w p=>rfl
theorem Hq:∀{f:Nat}{s:As}{far:Nat}{ls:↥Str}{r:Res},goF R z f s far ls=!r->a<=s.k->s.k<=s.t->a<=far->(∀n∈r.ls,R' n=R n)->(∀i,a<=i->i<=r.far->y.cps.toList[mvN a b i]?=z.cps.toList[i]?) ->goF R' y f (mvA a b s) (mvN a b far) ls=!{r.ln,mvN a b r.far,r.ls}/\cJ R' y f (mvA a b s)=mvA a b (cJ R z f s)/\∀q∈(cJ R z f s).st,q∈s.st∨a<=q.2|0,_,_,_,_,e,_,_,_,_,_=>nomatch e|f+1,s,far,ls,r,e,h1,h2,U,A,g=>by cases h:s.dn with|true=>rw[fS h]at e;cases e;rw[fS (show (mvA a b s).dn=true from h),eY (show (mvA a b s).dn=true from h),eY h];exact{rfl,rfl,λ_ h=>.inl h}|false=>let⟨w,p,t,v,o,D⟩:=ig h e;let⟨X,J⟩:=Br D;let⟨I,G⟩:=Br o;have C:∀x∈t.ls,x∈r.ls:=λx O=>J x (fB.mpr (.inr O));have H:s.t<=t.far:=I;have S:mvN a b (max far t.far)=max (mvN a b far) (mvN a b t.far):=by{unfold mvN;rw[Nat.add_max_add_right,Nat.sub_max_sub_right]};let⟨b1,b2,Z⟩:=cu (R:=R) (z:=z) (n:=(ae p s).1) (k:=(ae p s).2);have T:=CP (R:=R) (R':=R') (z:=z) (y:=y) (a:=a) (b:=b) (n:=(ae p s).1) (k:=(ae p s).2) (A _ (C _ (G _ (abY.mpr rfl)))) (g _ (aao h1 h2) (show s.t<=r.far from ()));have u:(bC R z (ae p s).1 (ae p s).2).k<=(bC R z (ae p s).1 (ae p s).2).t:=by{unfold bC;cases R (ae p s).1<;>exact aab _};have d:=(Hq o (by rw[b2];exact aao h1 h2) u (aao h1 h2) (λn Q=>A n (C n Q)) (λi N Y=>g i N ())).1;rw[←T]at d;have d:rdF R' y f (ae p (mvA a b s)).1 (ae p (mvA a b s)).2=!{t.ln,mvN a b t.far,t.ls}:=d;let⟨K,L,V,M,B,m⟩:=dE w p s t.ln;have c:(bg w p s t.ln).k=s.k:=by{rw[B]};have j:s.t<=(bg w p s t.ln).t:=by{rw[B];show s.t<=K;rcases m with ⟨_,h|⟨l,_,h⟩,_⟩|⟨_,⟨l,_,h,_⟩|⟨h,_⟩|⟨l,_,_,h,_⟩⟩<;>nofun};let⟨F,E,W⟩:=Hq D (by rw[c];exact h1) (by rw[c];exact aao h2 j) (aao U (Nat.le_max_left _ _)) A g;rw[←wR h1 h2,S]at F;rw[←wR h1 h2]at E;rw[iE (show (mvA a b s).dn=false from h) (show (mvA a b s).fm=.comp w p from v) d,gm (show (mvA a b s).dn=false from h) (show (mvA a b s).fm=.comp w p from v) d,gm h v o];refine{F,E,λq P=>(W q P).elim (λh=>?_) .inr};rw[B]at h;rcases abS.mp h with h|h;exact .inl h;rw[abY.mp h];exact .inr (aao h1 h2)
theorem lv{g:Sp2->Sp2}:∀(ms ls:↥Sp2),(∀p q,p∈ls++ms->q∈ls++ms->g p=g q->p=q)->bG (ls.map g) (ms.map g)=(bG ls ms).map g|[],_,_=>rfl|m::ms,ls,c=>by have d:m∈ls++m::ms:=by{simp};show bG (if g m∈ls.map g then ls.map g else ls.map g++[g m]) (ms.map g)=(bG (if m∈ls then ls else ls++[m]) ms).map g;by_cases h:m∈ls;rw[if_pos h,if_pos (abZ.mpr {(m),h,rfl})];exact lv ms ls λp q b a=>c p q (by simp at b ⊢;exact b.elim .inl λz=>.inr (.inr z)) (by simp at a ⊢;exact a.elim .inl λz=>.inr (.inr z));rw[if_neg h,if_neg λy=>h (by let⟨q,h1,h2⟩:=abZ.mp y;rw[←c q m (by simp[h1]) d h2];exact h1)];rw[show ls.map g++[g m]=(ls++[m]).map g by rw[aae];rfl];exact lv ms (ls++[m]) λp q b a=>c p q (by exists b) (by exists a)
def OJ{k':Nat}(e:rdF R z f x k=!r)(m:∀n∈r.ls,R' n=R n)(A:∀i,k+i<=r.far->y.cps.toList[k'+i]?=z.cps.toList[k+i]?):rdF R' y f x k'=!{r.ln,r.far - k+k',r.ls}/\bG [] (eM R' y f (x,k'))=(bG [] (eM R z f (x,k))).map (mvQ k k')/\∀q∈bG [] (eM R z f (x,k)),k<=q.2:=by have B:mvN k k' k=k':=by{unfold mvN;nofun};let⟨u,t⟩:=Br e;have d:∀i,k<=i->i<=r.far->y.cps.toList[mvN k k' i]?=z.cps.toList[i]?:=λi I H=>by{have:=A (i - k) ();rwa [show k+(i - k)=i from (),show k'+(i - k)=mvN k k' i by unfold mvN;nofun]at this};have C:=CP (R:=R) (R':=R') (z:=z) (y:=y) (a:=k) (b:=k') (n:=x) (k:=k) (m _ (t _ (abY.mpr rfl))) (d k (aab _) u);let⟨b1,b2,G⟩:=cu (R:=R) (z:=z) (n:=x) (k:=k);have l:(bC R z x k).k<=(bC R z x k).t:=by{unfold bC;cases R x<;>exact aab _};let⟨s,o,F⟩:=Hq e (by rw[b2];exact aab _) l (aab _) m d;rw[←C,B]at s o;refine{s,?_};have lo:∀q∈eM R z f (x,k),k<=q.2:=λq c=>(F q c).elim (λh=>by rw[G]at h;cases h) id;rw[show eM R' y f (x,k')=(eM R z f (x,k)).map (mvQ k k')from congrArg As.st o];refine{lv _ [] λp q g c e=>?_,λq c=>lo q ((jq.mp c).elim (λh=>nomatch h) id)};have g:=lo p g;have c:=lo q c;let⟨w,p2⟩:=p;let⟨v,j⟩:=q;let⟨E,D⟩:=Prod.mk.inj (show (w,mvN k k' p2)=(v,mvN k k' j)from e);unfold mvN at D;have g:k<=p2:=g;have c:k<=j:=c;rw[E,show p2=j from ()]
end
structure AltR(rows rows':↥Rw):Prop where
 nd:(rows'.map (·.1)).Nodup
 fm:∀r∈rows',r∈rows∨(dc r.1/\(r.2.1="any" /\ r.2.2=[]∨r.2.1="signs" /\ ∃z,r.2.2=[z]/\du z))
 few:rows'.length<=30
def rZ(nd:(rows.map (·.1)).Nodup){r:Rw}(h:r∈rows):r∈ag rows:=by have a:r.1∈rows.map (·.1):=abZ.mpr {(r),h,rfl};let⟨r',h1,h2,b⟩:=bo a;rw[ju nd h h1 h2]at b;exact acN.mpr {r.1,(aq _).mem_iff.mpr a,b}
def AltR.emp(B:BkW ns nn rows)(A:AltR rows rows')(h:Emp (ag rows') x):Emp (ag rows) x:=by have key:∀{r:Rw},r∈ag rows'->(r∈ag rows)∨r.2.1="any"∨r.2.1="signs":=λh=>(A.fm _ (bV h)).elim (λh=>.inl (rZ B.ndr h)) λh=>.inr (h.2.imp (·.1) (·.1));induction h with|base h1 h2=>{rcases key h1 with h|h|h;exact .base h h2;rw[h]at h2;exact absurd h2 (by unfold pV;decide+kernel);rw[h]at h2;exact absurd h2 (by unfold pV;decide+kernel)}|row h1 h2 _ a=>{rcases key h1 with h|h|h;exact .row h h2 a;exact absurd (h.symm.trans h2) ∅;exact absurd (h.symm.trans h2) ∅}|first h1 h2 b _ a=>rcases key h1 with h|h|h;exact .first h h2 b a;exact absurd (h.symm.trans h2) ∅;exact absurd (h.symm.trans h2) ∅
def AltR.bk(B:BkW ns nn rows)(A:AltR rows rows'):BookR (ag rows'):=by have d:=B.l30;have c:=B.nl;refine ia (pool:=ns++nn) (rank:=dN ns) {A.nd,λr hr=>?_,A.few,B.nm,by rw[aag];nofun,λzs b r hr x a=>?_};rcases A.fm r hr with h|⟨h1,h|h⟩;exact B.okr h;exact{h1,.inl {.inr h.1,h.2}};exact{h1,.inr (.inl h)};rcases A.fm r hr with h|⟨h1,h|h⟩;exact B.dw (λz h=>A.emp B ((b z).mp h)) h a;have:=cT a;unfold bX at this;rw[h.2]at this;split at this<;>cases this;have:=cT a;unfold bX at this;rw[if_pos h.1]at this;cases this
def oo(h:x∉rows.map (·.1)):bY (ag rows) x=.leaf .lack:=by unfold bY;rw[acs.mpr λr hr y=>h (abZ.mpr {r,bV hr,of_decide_eq_true y})]
def Hr(nd:(rows.map (·.1)).Nodup)(a:(rows'.map (·.1)).Nodup)(h:∀p,(x,p)∈rows'↔(x,p)∈rows):bY (ag rows') x=bY (ag rows) x:=by by_cases g:x∈rows.map (·.1);let⟨⟨b,p⟩,hr,rfl⟩:=abZ.mp g;rw[mP nd hr,mP a ((h p).mpr hr)];rw[oo g,oo λy=>g (by let⟨⟨b,p⟩,hr,rfl⟩:=abZ.mp y;exact abZ.mpr {_,(h p).mp hr,rfl})]
abbrev CQ(a:Addr)(R:Rls)(n z:Str)(k:Nat)(r:Res):OV:=.ot [.fz (.str n),.fz (cH r.ln),.fz (.int ((r.far:Int) - (k:Int)+1)),.fz (.str (gZ z ↑(k:Int) !((k:Int)+((r.far:Int) - (k:Int)+1)))),.fz (.bl (decide ((z.length:Int)<(k:Int)+((r.far:Int) - (k:Int)+1)))),.fl a ((aT r.ls).map λx=>.tup [.str x,rlD (R x)])]
inductive dO:Ct
 |mk {ks:↥Key} {ds:↥D} {R:Rls} {z n:Str} {zs:↥Str} {k f:Nat} {K:Kp} {r:Res} {P:OV->↥OV->Prop} (hD:gn ks ds R) (M:MkOk R z zs n k f) (hK:KpOk R z zs K) (hzs:zs.length<=46) (hin:((n,k),r)∈K) (h:∀a,P (CQ a R n z k r) [cw ks ds,.fz (.str z),ij K,.fz (.str n),.fz (.int k)]):dO [cw ks ds,.fz (.str z),ij K,.fz (.str n),.fz (.int k)] P
abbrev mR:Stmt:=top 51
abbrev wU:FS:=(am (bS (fOp aIx (ab 2) (fL (aa (ab 3) (aa (ab 4) af)))) (i6 3 (aV (ac 5) (aV (ac 6) (aV (ac 7) i5))))) (am (cn 8 (bI [0] 1 (bW (fCB hJ (aa (ab 7) af))) (ac 0) i3 (fL (aa (ab 0) (aa (zZ (ab 1) (ab 0)) af))))) (bc (zP (aa (ab 3) (aa (ab 5) (aa (ab 6) (aa (fSl aSl (ab 1) (fM (ab 4)) (fM (fOp dW (ab 4) (ab 6)))) (aa (fOp (ir (λi j=>decide (j<i)) λi j=>aY j i) (fOp dW (ab 4) (ab 6)) (fCB eO (aa (ab 1) af))) (aa (ab 8) af))))))))))
def wV:Hh dO wU [] 9:=by intro os P h;obtain@⟨ks,ds,R,z,n,zs,k,f,K,r,_,m,M,c,g,a,q⟩:=h;have T:=c.res M.r a;have o:r.ls.length<=zs.length:=aas T.nd T.sub;have j:=M.l;have sz:=sizeLine_eq;have l:(aT r.ls).length=r.ls.length:=(aq _).length_eq;revert{lez 2,?_}(c5 (show cF (lh K) (lA K) [.inr n,.inl (k:Int)]=↑(xF k r)from gN c.nd a) ?_){rfl,?_}(gl (zs:=r.ls) () ?_)(aH (λi as ρ=>∃(x:Option OV),as=((aT r.ls).take i).map (λx=>.tup [.str x,rlD (R x)])/\ρ=[x,!(cw ks ds),!(.fz (.str z)),!(ij K),!(.fz (.str n)),!(.fz (.int k)),!(.fz (cH r.ln)),!(.fz (.int ((r.far:Int) - (k:Int)+1))),!(.fz (lsD r.ls)),none]) {(none),rfl,rfl} ?_ ?_);rintro i d as ρ Q hd ⟨x,rfl,rfl⟩ e;rw[abW,aai]at hd;let⟨y,b,rfl⟩:=hd;have hi:=(abT.mp b).1;revert ci{lez 2,?_}{by rw[abR,aam];nofun,e _ _ {_,?_,rfl}};rw[m y,aaq,b,aae];rfl;rintro as ρ ⟨x,rfl,rfl⟩;rw[abR,aah (aab _)];revert{(),?_}{(),?_};ext;intro as;revert{lez 6,?_}(q _)
inductive gb:Ct
 |mk {rows:↥Rw} {n z:Str} {k f:Nat} {r:Res} {P:OV->↥OV->Prop} (A:AskR rows n z k) (hz:z.length<=10000) (hf:f<sizeLine) (hr:rdF (bY rows) z f n k=!r) (h:∀a,P (CQ a (bY rows) n z k r) (xG rows n z k)):gb (xG rows n z k) P
abbrev wW:Stmt:=top 52
abbrev Hs:FS:=(am (bS (al cf (aa (fFz (ab 0)) (aa (fFz (ab 1)) (aa (fFz (ab 2)) (aa (fFz (ab 3)) af))))) (ac 4)) (bc (al dO (aa (fFz (fCB pz (aa (ab 0) af))) (aa (fFz (ab 2)) (aa (fFz (ab 4)) (aa (fFz (ab 1)) (aa (fFz (ab 3)) af))))))))
def Ht:Hh gb Hs [] 5:=by intro os P h;obtain@⟨rows,n,z,k,f,r,_,A,d,e,hr,q⟩:=h;revert(.mk A d e hr λzs K b M g c=>?_)(oa {G5 A.b.b.nd,?_})(.mk (lm A.b.b) M g b c λa=>?_)(q a)
abbrev Pr:=Str×Option (Str×↥Str)
def HS:Option (Str×↥Str)->D|none=>.non|some q=>aE q.1 q.2
abbrev prP(p:Pr):Str×D:=(p.1,HS p.2)
abbrev Hu(ps:↥Pr):D:=.lst ((ps.map prP).map eN)
def Mc(p:Pr):Prop:=dc p.1/\∀q,p.2=!q->gM q.1 q.2
def gw(ps:↥Pr):↥Rw:=ps.filterMap λp=>p.2.map λq=>(p.1,q.1,q.2)
def wX(ps:↥Pr):(gw ps).length<=ps.length:=-List.length_filterMap_le ..
inductive bQ:Ct
 |mk {p:Pr} {P:OV->↥OV->Prop} (hr:Mc p) (h:P (.fz (.bl true)) [.fz (eN (prP p))]):bQ [.fz (eN (prP p))] P
abbrev mS:Stmt:=top 53
abbrev wY:FS:=(am (fIf (fOr (iq (cO (fCB cIs (aa (ab 0) (aa (fC (.ty "tuple")) af))))) (av (fOp aNe (fCB eO (aa (ab 0) af)) (fC (.int 2))))) (bc (fC (.bl false))) aB) (bc (dD (al b5 (aa (fFz (fOp aIx (ab 0) (fC (.int 0)))) af)) (MS (fOp uJ (fOp aIx (ab 0) (fC (.int 1))) (fC .non)) (al dI (aa (fFz (fOp aIx (ab 0) (fC (.int 1)))) af))))))
def wZ:Hh bQ wY [] 1:=by intro os P h;obtain@⟨⟨n,o⟩,_,⟨a,b⟩,q⟩:=h;revert aA{{(rfl),rfl},?_} cm{aM,?_} cm(.mk a ?_) ci;cases o with|none=>revert ci;exact q|some o=>revert cm(.mk (b o rfl) ?_)(q)
inductive bp:Ct
 |mk {rows:↥Pr} {P:OV->↥OV->Prop} (hl:rows.length<=1000) (ho:∀r∈rows,Mc r) (hr:v9 (rows.map prP)) (h:P (.fz (.bl true)) [.fz (Hu rows)]):bp [.fz (Hu rows)] P
abbrev jB:Stmt:=top 54
abbrev oq:FS:=(am (fIf (iq (cO (fCB cIs (aa (ab 0) (aa (fC (.ty "list")) af))))) (bc (fC (.bl false))) aB) (bc (dD (fCB uG (aa (bI [] 1 (bW (ab 0)) (ac 0) i3 (al bQ (aa (fFz (ab 0)) af))) af)) (al bK (aa (fFz (ab 0)) af)))))
def ou:Hh bp oq [] 1:=by intro os P h;obtain@⟨rows,_,c,b,hr,q⟩:=h;have sz:=sizeLine_eq;revert aA{{(rfl),rfl},?_} cm(aH (λi as ρ=>∃(x:Option OV),as=tru i/\ρ=[x,!(.fz (Hu rows))]) {(none),rfl,rfl} ?_ ?_);rintro i d as ρ R hd ⟨x,rfl,rfl⟩ k;rw[aar,abW,aai]at hd;let⟨r,a,rfl⟩:=hd;have hi:=(abT.mp a).1;revert ci(.mk (b r (abX a)) ?_){by rw[fU];nofun,k _ _ {_,eh,rfl}};rintro as ρ ⟨x,rfl,rfl⟩;revert js;ext;rw[fV];refine ci ?_;revert(.mk (by rw[abR];exact c) hr ?_)(q)
def w9{a:↥Str}:zg (.lst (zs.map D.str)) (.lst (a.map D.str)):=-{fj zs,fj a,qd zs}
abbrev ox(n:Str)(ln:Option Nat)(m:Int)(u:Str)(e:Bool)(rows:↥Pr):D:=.tup [.str n,cH ln,.int m,.str u,.bl e,Hu rows]
inductive bq:Ct
 |mk {n:Str} {ln:Option Nat} {m:Int} {u:Str} {e:Bool} {rows:↥Pr} {P:OV->↥OV->Prop} (A:dc n/\u.length<sizeLine/\v7 u) (C:rows.length<=1000/\(∀r∈rows,Mc r)/\v9 (rows.map prP)) (h:P (.fz (.bl true)) [.fz (ox n ln m u e rows)]):bq [.fz (ox n ln m u e rows)] P
abbrev kq:Stmt:=top 55
abbrev r8:FS:=(am (fIf (fOr (iq (cO (fCB cIs (aa (ab 0) (aa (fC (.ty "tuple")) af))))) (av (fOp aNe (fCB eO (aa (ab 0) af)) (fC (.int 6))))) (bc (fC (.bl false))) aB) (am (bS (ab 0) (i6 6 (aV (ac 1) (aV (ac 2) (aV (ac 3) (aV (ac 4) (aV (ac 5) (aV (ac 6) i5)))))))) (am (fIf (fOr (iq (cO (al b5 (aa (fFz (ab 1)) af)))) (iq (fOr (av (fOp uJ (ab 2) (fC .non))) (cO (al cy (aa (fFz (ab 2)) af)))))) (bc (fC (.bl false))) aB) (bc (dD (al cy (aa (fFz (ab 3)) af)) (dD (al c6 (aa (fFz (ab 4)) af)) (dD (fCB cIs (aa (ab 5) (aa (fC (.ty "bool")) af))) (al bp (aa (fFz (ab 6)) af)))))))))
def r9:Hh bq r8 [] 7:=by intro os P h;obtain@⟨n,ln,m,u,e,rows,_,A,C,q⟩:=h;revert aA{{(rfl),rfl},?_} cm{aM,?_} cm{rfl,?_}(di True (λ_=>?_) (λrest=>?_));revert(.mk ?_) ci(.mk A.2.1 A.2.2 ?_) ci{{(rfl),rfl},?_} ci(.mk C.1 C.2.1 C.2.2 ?_)(q);revert(.mk A.1 ?_) cm;cases ln with|none=>revert ci cm;exact rest trivial|some l=>revert cm(.mk ?_) cm;exact rest trivial
inductive dP:Ct
 |mk {n:Str} {ln:Option Nat} {m:Int} {u:Str} {e:Bool} {rows:↥Pr} {f:Nat} {r:Res} {P:OV->↥OV->Prop} (A:AskR (gw rows) n u 0) (C:rows.length<=1000/\(∀r∈rows,Mc r)/\v9 (rows.map prP)) (hu:u.length<=10000) (hf:f<sizeLine) (hr:rdF (bY (gw rows)) u f n 0=!r) (hm:m=u.length+(if e=true then 1 else 0)) (h0:r.ln=ln) (h1:(r.far:Int)+1=m) (h2:aT r.ls=rows.map (·.1)) (h:P (.fz (.bl true)) [.fz (ox n ln m u e rows)]):dP [.fz (ox n ln m u e rows)] P
abbrev mT:Stmt:=top 56
abbrev xa:FS:=(am (fIf (iq (cO (al bq (aa (fFz (ab 0)) af)))) (bc (fC (.bl false))) aB) (am (bS (ab 0) (i6 6 (aV (ac 1) (aV (ac 2) (aV (ac 3) (aV (ac 4) (aV (ac 5) (aV (ac 6) i5)))))))) (am (fIf (av (fOp aNe (ab 3) (fOp dW (fCB eO (aa (ab 4) af)) (JQ (Ce (ab 5)) (fC (.int 1)) (fC (.int 0)))))) (bc (fC (.bl false))) aB) (am (bS (bI [] 1 (bW (ab 6)) (ac 0) (av (fOp kY (fOp aIx (ab 0) (fC (.int 1))) (fC .non))) (ab 0)) (ac 7)) (am (fIf (av (fOp kY (al kj (aa (fFz (ab 7)) af)) (fC .non))) (bc (fC (.bl false))) aB) (am (bS (al e9 (aa (fFz (ab 7)) (aa (fFz (ab 1)) (aa (fFz (ab 4)) (aa (fC (.int 0)) af))))) (ac 8)) (bc (dD (fOp aEq (fOp aIx (ab 8) (fC (.int 0))) (ab 2)) (dD (fOp aEq (fOp aIx (ab 8) (fC (.int 1))) (ab 3)) (fOp aEq (fOp aIx (ab 8) (fC (.int 3))) (bI [] 1 (bW (ab 6)) (ac 0) i3 (fOp aIx (ab 0) (fC (.int 0))))))))))))))
def Bs:zg (cH a) (cH b):=by cases a<;>cases b<;>exact{rfl,rfl,aan _}
def Hv:dEq (cH a) (cH b)=true↔a=b:=by
 cases a with
 |none=>cases b with
  |none=>exact {fun _=>rfl,fun _=>rfl}
  |some b=>exact {(fun h=>by cases h),fun h=>by cases h}
 |some a=>cases b with
  |none=>exact {(fun h=>by cases h),fun h=>by cases h}
  |some b=>exact bu.trans {fun h=>congrArg some (Int.ofNat_inj.mp h),fun h=>congrArg _ (aak h)}
def xb:Hh dP xa [] 9:=by intro os P h;obtain@⟨n,ln,m,u,e,rows,f,r,_,A,C,p,s,hr,l,t,h1,h2,q⟩:=h;have few:=C.1;have sz:=sizeLine_eq;revert aA(.mk {(A.n),A.s,A.t} C ?_) cm{rfl,?_}(di True (λ_=>?_) (λrest=>?_));revert(aH (λi as ρ=>∃(x:Option OV),as=(gw (rows.take i)).map gy/\ρ=[x,!(.fz (ox n ln m u e rows)),!(.fz (.str n)),!(.fz (cH ln)),!(.fz (.int m)),!(.fz (.str u)),!(.fz (.bl e)),!(.fz (Hu rows)),none,none]) {(none),rfl,rfl} ?_ ?_);rintro i d as ρ Q hd ⟨x,rfl,rfl⟩ j;rw[aar,abW,aai]at hd;let⟨⟨y,o⟩,c,rfl⟩:=hd;have hi:=(abT.mp c).1;have k:=wX (rows.take i);rw[aam]at k;have g:rows.take (i+1)=rows.take i++[(y,o)]:=by{rw[aaq,c];rfl};cases o with|none=>revert cm;refine j _ _ {_,?_,rfl};unfold gw;rw[g,abK];exact congrArg (List.map gy) (aaw _).symm|some o=>{revert ci{by rw[abR];nofun,j _ _ {_,?_,rfl}};unfold gw;rw[g,abK,aae];rfl};rintro as ρ ⟨x,rfl,rfl⟩;rw[abR,abR,aah (aab _)];revert aA(.mk A.b.b A.b.free ?_) cm(.mk A p s hr λa b=>?_){Bs,?_}(ao (r.ln=ln) Hv (λh=>?_) (λh=>absurd t h));revert{aM,?_}(ao True {λ_=>trivial,λ_=>bu.mpr (by rw[Int.natCast_zero,Int.sub_zero];exact h1)} (λ_=>?_) (λh=>absurd trivial h))(aH (λi as ρ=>∃(x:Option OV),as=((rows.take i).map (·.1)).map .str/\ρ=[x,!(.fz (ox n ln m u e rows)),!(.fz (.str n)),!(.fz (cH ln)),!(.fz (.int m)),!(.fz (.str u)),!(.fz (.bl e)),!(.fz (Hu rows)),!(.fz (ik (gw rows))),!(.fz (.tup [cH r.ln,.int ((r.far:Int) - ((0:Nat):Int)+1),.lst ((bG [] (eM (bY (gw rows)) u f (n,0))).map aG),.lst ((aT r.ls).map .str)]))]) {(none),rfl,rfl} ?_ ?_);rintro i d as ρ Q hd ⟨x,rfl,rfl⟩ j;rw[aar,abW,aai]at hd;let⟨y,c,rfl⟩:=hd;have hi:=(abT.mp c).1;revert ci{by rw[abR,abR,aam];nofun,j _ _ {_,?_,rfl}};rw[aaq,c,aae,aae];rfl;rintro as ρ ⟨x,rfl,rfl⟩;rw[abR,abR,aah (aab _),←h2];revert{w9,?_};ext;erw [dA (.lst ((aT r.ls).map .str))];exact q;revert{(),?_};ext;cases e with|true=>revert ci{aM,?_}(ao False {λy=>?_,faa} faa (λ_=>rest trivial));rw[bu.mpr (show m=(u.length:Int)+1 from l)]at y;cases y|false=>revert cm{aM,?_}(ao False {λy=>?_,faa} faa (λ_=>rest trivial));rw[bu.mpr (show m=(u.length:Int)+0 from l)]at y;cases y
def CS(rows:↥Rw)(x:Str):Option (Str×↥Str):=(de rows x).map (·.2)
abbrev nh(rows:↥Rw)(ls:↥Str):↥Pr:=ls.map λx=>(x,CS rows x)
def gQ(h:x∉rows.map (·.1)):de rows x=none:=-acs.mpr λr hr y=>h (abZ.mpr {r,hr,of_decide_eq_true y})
def Md:(gY ((rows.map (·.1)).map Sum.inr) (rows.map λr=>aE r.2.1 r.2.2) (.inr x)).getD .non=HS (CS rows x):=by by_cases h:x∈rows.map (·.1);let⟨r,hr,_,e⟩:=bo h;unfold CS;rw[fE e,e];rfl;unfold CS;rw[wD λr hr y=>h (abZ.mpr {(r),hr,y}),gQ h];rfl
def OL(nd:(rows.map (·.1)).Nodup)(ok:∀r∈rows,gM r.2.1 r.2.2):rlD (bY (ag rows) x)=HS (CS rows x):=by unfold CS;by_cases h:x∈rows.map (·.1);let⟨r,hr,rfl,e⟩:=bo h;rw[mP nd hr,e,←LJ (ok r hr)];rfl;rw[oo h,gQ h];rfl
inductive cA:Ct
 |mk {rows:↥Rw} {t x:Str} {ks:↥↥Key} {ds:↥D} {k:Nat} {ln:Option Nat} {m:Nat} {st:↥Sp2} {ls:↥Str} {P:OV->↥OV->Prop} (htl:t.length<=30) (hll:ls.length<=100) (hg:cF ks ds (hV (x,k))=!(gr ln m st ls)) (h:P (.fz (ox x ln m (gZ t ↑(k:Int) !((k:Int)+(m:Int))) (decide ((t.length:Int)<(k:Int)+(m:Int))) (nh rows ls))) [bn rows,.fz (.str t),.fz (.dt ks ds),.fz (.str x),.fz (.int k)]):cA [bn rows,.fz (.str t),.fz (.dt ks ds),.fz (.str x),.fz (.int k)] P
abbrev qq:Stmt:=top 73
abbrev Bt:FS:=(am (bS (fOp aIx (ab 2) (fL (aa (ab 3) (aa (ab 4) af)))) (i6 4 (aV (ac 5) (aV (ac 6) (aV (ac 7) (aV (ac 8) i5)))))) (am (bS (bI [0] 1 (bW (ab 8)) (ac 0) i3 (fL (aa (ab 0) (aa (zZ (ab 1) (ab 0)) af)))) (ac 9)) (bc (fL (aa (ab 3) (aa (ab 5) (aa (ab 6) (aa (fSl aSl (ab 1) (fM (ab 4)) (fM (fOp dW (ab 4) (ab 6)))) (aa (fOp (ir (λi j=>decide (j<i)) λi j=>aY j i) (fOp dW (ab 4) (ab 6)) (fCB eO (aa (ab 1) af))) (aa (ab 9) af))))))))))
def Bu:Hh cA Bt [0] 10:=by intro os P h;obtain@⟨rows,t,x,ks,ds,k,ln,m,st,ls,_,f,g,j,q⟩:=h;have sz:=sizeLine_eq;revert{lez 2,?_}(c5 j ?_){rfl,?_}(aH (λi as ρ=>∃a:Option OV,as=((nh rows (ls.take i)).map prP).map eN/\ρ=[a,!(bn rows),!(.fz (.str t)),!(.fz (.dt ks ds)),!(.fz (.str x)),!(.fz (.int k)),!(.fz (cH ln)),!(.fz (.int m)),!(.fz (.lst (st.map aG))),!(.fz (.lst (ls.map .str))),none]) {(none),rfl,rfl} ?_ ?_);rintro i d as ρ R hd ⟨a,rfl,rfl⟩ c;rw[abW,aai]at hd;let⟨e,b,rfl⟩:=hd;have hi:=(abT.mp b).1;revert ci{lez 2,?_}{by rw[abR,abR,abR,aam];nofun,c _ _ {_,?_,rfl}};rw[Md,aaq,b];unfold nh;rw[aae,aae,aae];rfl;rintro as ρ ⟨a,rfl,rfl⟩;rw[abR,aah (aab _)];revert{(),?_}{(),?_}{lez 6,?_}(q)
theorem okp:∀ps:↥Pr,okDs ((ps.map prP).map eN)=true/\deps (toDVs ((ps.map prP).map eN))<=2|[]=>{rfl,aan _}|p::ps=>by let⟨h1,h2⟩:=okp ps;have a:okD (HS p.2)=true/\dep (m9 (HS p.2))<=1:=by{cases p.2 with|none=>exact{rfl,aan _}|some q=>refine{fj q.2,?_};have h:=fW q.2;show max 0 (deps (toDVs (q.2.map D.str)))+1<=1;rw[h];decide};refine{ab8.mpr {ab8.mpr {(a.1),rfl},h1},acI.mpr {?_,h2}};show max 0 (max (dep (m9 (HS p.2))) 0)+1<=2;nofun
def Me(n:Str)(ln:Option Nat)(m:Int)(u:Str)(e:Bool)(ps:↥Pr):zg (ox n ln m u e ps) (ox n ln m u e ps):=by have a:okD (cH ln)=true:=by{cases ln<;>rfl};let⟨h1,h2⟩:=okp ps;have ok:okD (ox n ln m u e ps)=true:=by{show okDs [.str n,cH ln,.int m,.str u,.bl e,Hu ps]=true;exact ab8.mpr {rfl,ab8.mpr {a,ab8.mpr {rfl,ab8.mpr {rfl,ab8.mpr {rfl,ab8.mpr {(h1),rfl}}}}}}};have b:dep (m9 (cH ln))=0:=by{cases ln<;>rfl};refine{ok,ok,?_};show max 0 (max (dep (m9 (cH ln))) (max 0 (max 0 (max 0 (max (deps (toDVs ((ps.map prP).map eN))+1) 0)))))+1<=_;rw[b];exact aao (abL (acI.mpr {aan _,acI.mpr {aan _,acI.mpr {aan _,acI.mpr {aan _,acI.mpr {aan _,acI.mpr {abL h2,aan _}}}}}})) (by decide)
def OM{e:D}{A B:Prop}(h:d=e)(b:B):br (⇑(dEq d e)) A B:=by subst h;rw[dA];exact cm b
inductive cU:Ct
 |mk {n:Str} {ln:Option Nat} {m:Int} {u:Str} {e:Bool} {ps:↥Pr} {P:OV->↥OV->Prop} (h:P (.fz (.bl true)) [.fz (ox n ln m u e ps),.fz (ox n ln m u e ps)]):cU [.fz (ox n ln m u e ps),.fz (ox n ln m u e ps)] P
abbrev CT:Stmt:=top 74
abbrev Mf:FS:=(am (fIf (fOr (iq (cO (fCB cIs (aa (ab 0) (aa (fC (.ty "tuple")) af))))) (fOr (av (fOp aNe (ab 0) (ab 1))) (iq (cO (fCB cIs (aa (fOp aIx (ab 0) (fC (.int 4))) (aa (fC (.ty "bool")) af))))))) (bc (fC (.bl false))) aB) (bc (dD (yT (fCB cIs (aa (fOp aIx (ab 0) (fC (.int 1))) (aa (fC (.ty "bool")) af)))) (yT (fCB cIs (aa (fOp aIx (ab 0) (fC (.int 2))) (aa (fC (.ty "bool")) af)))))))
def Mg:Hh cU Mf [] 2:=by intro os P h;obtain@⟨n,ln,m,u,e,ps,_,q⟩:=h;revert aA{{(rfl),rfl},?_} cm{Me n ln m u e ps,?_}(OM rfl ?_){{(rfl),rfl},?_} cm;cases ln with|none=>revert{{(rfl),rfl},?_} ci{{(rfl),rfl},?_};exact q|some l=>revert{{(rfl),rfl},?_} ci{{(rfl),rfl},?_};exact q
theorem lw{α β:Type}{f g:α->Option β}:∀{l:↥α},(∀x∈l,f x=g x)->l.filterMap f=l.filterMap g|[],_=>rfl|a::l,h=>by have b:=lw (l:=l) λx c=>h x (aad _ c);rw[aa8,aa8,h a (aac ..),b]
def Hw(L:↥Str):gw (nh rows L)=L.filterMap (de rows):=by unfold gw nh;rw[List.filterMap_map];refine lw λx _=>?_;show (CS rows x).map _=_;unfold CS;cases h:de rows x with|none=>rfl|some r=>have h2:=List.find?_some (show rows.find? (λr=>decide (r.1=x))=↑r from h);have:r.1=x:=of_decide_eq_true h2;rw[←this];rfl
def sd(nd:(rows.map (·.1)).Nodup)(f:ls.Nodup):(aT ls).filterMap (de rows)=ag (rows.filter λr=>decide (r.1∈ls)):=by have b:((rows.filter λr=>decide (r.1∈ls)).map (·.1)).Nodup:=nd.sublist (acK.map _);have hs:aT ((rows.filter λr=>decide (r.1∈ls)).map (·.1))=(aT ls).filter λx=>decide (x∈rows.map (·.1)):=by{refine(eW ((List.perm_ext_iff_of_nodup (((aq ls).nodup_iff.mpr f).filter _) b).mpr λx=>?_) ((bt ls).filter _)).symm;rw[acb,(aq ls).mem_iff,decide_eq_true_iff];constructor;rintro⟨h1,h2⟩;let⟨r,hr,rfl⟩:=abZ.mp h2;exact abZ.mpr {r,acb.mpr {hr,decide_eq_true h1},rfl};intro h;let⟨r,hr,rfl⟩:=abZ.mp h;let⟨g1,g2⟩:=acb.mp hr;exact{of_decide_eq_true g2,abZ.mpr {(r),g1,rfl}}};unfold ag;rw[hs,List.filterMap_filter];refine lw λx c=>?_;by_cases h:x∈rows.map (·.1);rw[if_pos (decide_eq_true h)];let⟨r,hr,rfl,e⟩:=bo h;have d:r.1∈(rows.filter λr=>decide (r.1∈ls)).map (·.1):=abZ.mpr {r,acb.mpr {hr,decide_eq_true ((aq ls).mem_iff.mp c)},rfl};let⟨r',a,g,i⟩:=bo d;rw[e,i,ju nd hr (acb.mp a).1 g];rw[if_neg λy=>h (of_decide_eq_true y),gQ h]
def xc(B:BkW ns nn rows)(ls:↥Str):AltR rows (rows.filter λr=>decide (r.1∈ls)):=-{B.ndr.sublist (acK.map _),λr hr=>.inl (acb.mp hr).1,aao (aaZ ..) (by have:=B.few;have:=B.l30;nofun)}
def Mh(a:k<=t.length):(gZ t ↑(k:Int) !((k:Int)+(m:Int))).cps.toList=(t.cps.toList.drop k).take m:=by rw[show (k:Int)+(m:Int)=((k+m:Nat):Int)from (Int.natCast_add ..).symm];show (gc t.cps.toList ↑(k:Int) !((k+m:Nat):Int)).toArray.toList=_;rw[abP,zv,Nat.min_eq_left (show k<=t.cps.toList.length from (bB t) ▸ a)];by_cases h:k+m<=t.cps.toList.length;rw[Nat.min_eq_left h,aa3];rw[Nat.min_eq_right (Nat.le_of_not_le h),aah (by rw[aaC];exact aab _),aah (by rw[aaC];nofun)]
def Bv(B:BkW ns nn rows){c:Str}(w:t.length<=30)(v:v7 t)(hx:x∈ns++nn)(C:k<=t.length)(hr:rdF (bY (ag rows)) t 100000 x k=!r)(P:r.far+1=k+m)(G:gZ t ↑(k:Int) ↑((k:Int)+(m:Int))=c):AskR (gw (nh rows (aT r.ls))) x c 0/\((nh rows (aT r.ls)).length<=1000/\(∀p∈nh rows (aT r.ls),Mc p)/\v9 ((nh rows (aT r.ls)).map prP))/\c.length<=10000/\rdF (bY (gw (nh rows (aT r.ls)))) c 100000 x 0=!{r.ln,r.far - k+0,r.ls}/\(m:Int)=c.length+(if decide ((t.length:Int)<(k:Int)+(m:Int))=true then 1 else 0):=by have sz:=sizeLine_eq;have L:=B.rk (t:=t) w;have f:=nX L.rls hx C hr;have O:=f.fz;have rk:=f.kf;have J:=B.l30;have F:=B.nl;have A:(ns++nn).length<=32:=by{rw[aag];nofun};have N:r.ls.length<=32:=aao (aas f.nd f.sub) A;have M:(aT r.ls).length=r.ls.length:=(aq _).length_eq;have n:=Mh (t:=t) (m:=m) C;rw[G]at n;have lt:=bB t;have E:=congrArg List.length n;rw[←bB,aam,aaC,←lt]at E;have D:gw (nh rows (aT r.ls))=ag (rows.filter λr'=>decide (r'.1∈r.ls)):=(Hw _).trans (sd B.ndr f.nd);have u:v7 c:=λy j=>by{rw[n]at j;exact v y (abr (abb j))};refine{{?_,B.nm x hx,u,(),aan _},{by rw[abR];nofun,λp e=>?_,λi p q e d=>?_},(),?_,?_};rw[D];exact(xc B r.ls).bk B;let⟨y,j,rfl⟩:=abZ.mp e;refine{B.nm y (f.sub y ((aq _).mem_iff.mp j)),λq d=>?_};have z:(de rows y).map (·.2)=!q:=d;let⟨r',h1,rfl⟩:=acG.mp z;have:=B.okr (acx h1);exact{_,B.nm,this.2};rw[abW,aai]at e d;let⟨p,e,rfl⟩:=e;let⟨q,d,rfl⟩:=d;rw[abW,aai]at e d;let⟨a,I,rfl⟩:=e;let⟨b,H,rfl⟩:=d;let⟨g1,n⟩:=abT.mp I;let⟨g2,K⟩:=abT.mp H;have s:=acm.mp (bt r.ls) i (i+1) g1 g2 (aaz i);have o:=acm.mp ((aq r.ls).nodup_iff.mpr f.nd) i (i+1) g1 g2 (aaz i);rw[n,K]at s o;exact qi s o;refine(OJ (R':=bY (gw (nh rows (aT r.ls)))) (y:=c) (k':=0) hr (λy j=>?_) λi hi=>?_).1;rw[D];refine Hr B.ndr (xc B r.ls).nd λp=>?_;rw[acb];exact{(·.1),λh=>{h,decide_eq_true j}};rw[n,Nat.zero_add];by_cases g:k+i<t.length;rw[acr (),acF];rw[acu (l:=t.cps.toList) (),acy,aam,aaC];nofun;by_cases g:(t.length:Int)<(k:Int)+(m:Int);rw[decide_eq_true g,if_pos rfl];nofun;rw[decide_eq_false g,if_neg (by decide)];nofun
@[irreducible] def se:Ct:=λos P=>∃ns:↥Int,os=[.fz (.lst (ns.map .int))]/\ns.length<=63/\P (.fz (.bl true)) os
abbrev Mi:Stmt:=top 75
abbrev ON:FS:=(am (Ln 1 2 3 (al dM (aa (fFz (fSl aSl (ab 0) (fM (fC (.int 1))) cY)) (aa (fC (.int 8)) af)))) (am (cn 4 (al cR (aa (fFz (al bm (aa (fFz (ab 0)) (aa (fC (.int 0)) af)))) (aa (fC (.int 100)) af)))) (am (bS (al dL (aa (ab 4) (aa (ab 3) (aa (fC (.int 16)) af)))) (ac 5)) (am (bS (al c9 (aa (fFz (ab 1)) (aa (fFz (ab 2)) (aa (ab 3) (aa (fFz (ab 5)) af))))) (ac 6)) (am (bS (al cg (aa (ab 3) af)) (ac 7)) (am (cn 8 (i4 (aa (fL (aa (fOp aIx (ab 1) (fC (.int 0))) (aa (fC (.int 0)) af))) af))) (am (kJ (eS (aa (fC (.int 5)) af)) (ac 9) (am (bS (fOp dW (ab 1) (ab 2)) (ac 10)) (bR (sh 8 (fL (aa (fOp aIx (ab 10) (al ar (aa (ab 4) (aa (fFz (fCB eO (aa (ab 10) af))) af)))) (aa (al ar (aa (ab 4) (aa (fFz (fOp dW (fCB eO (aa (ab 5) af)) (fC (.int 1)))) af))) af))))))) (am (kJ (bW (ab 8)) (i6 2 (aV (ac 11) (aV (ac 12) i5))) (am (bS (al cA (aa (ab 3) (aa (fFz (ab 5)) (aa (fFz (ab 6)) (aa (fFz (ab 11)) (aa (fFz (ab 12)) af)))))) (ac 13)) (am (cn 14 (al gb (aa (fFz (ab 7)) (aa (fFz (ab 11)) (aa (fFz (ab 5)) (aa (fFz (ab 12)) af)))))) (am (fIf (fOr (iq (cO (pv cU 14 (aa (ab 14) (aa (ab 13) af))))) (av (fOp Lg (pv dP 14 (aa (ab 14) af)) (fC (.bl true))))) (bc (fC (.bl false))) aB) (am (bR (zQ 14 5 (fL (aa (fC (.str "a")) (aa (fC .non) af))))) (fIf (iq (cO (al cU (aa (fFz (al gb (aa (fFz (ab 7)) (aa (fFz (ab 11)) (aa (fFz (ab 5)) (aa (fFz (ab 12)) af)))))) (aa (fFz (ab 13)) af))))) (bc (fC (.bl false))) aB)))))) (bc (fOp aEq (ab 7) (al cg (aa (ab 3) af))))))))))))
def OO:Hh se ON [] 15:=by intro os P h;unfold se at h;let⟨L,rfl,hcl,q⟩:=h;have sz:=sizeLine_eq;have I:gc (L.map D.int) ↑1 none=(L.drop 1).map .int:=by{rw[show (↑1:Option Int)=↑((1:Nat):Int)from rfl,cX,List.map_drop]};ext;rw[I];revert(.mk (M:=8) (by rw[aaC];nofun) () () λns nn rows a b c B hns=>?_)(ww (k:=0) λz=>?_)(.mk (k:=100) (by decide) λb0 b1 b2 _ g=>?_);have F:∀r∈rows,r.2.1="signs" ->∃y,r.2.2=[y]/\du y:=λr hr u=>by{rcases (B.okr hr).2 with ⟨h|h,_⟩|⟨_,h⟩|⟨h|h|h,_⟩|⟨h|h,_⟩;exact absurd (u.symm.trans h) ∅;exact absurd (u.symm.trans h) ∅;exact h;exact absurd (u.symm.trans h) ∅;exact absurd (u.symm.trans h) ∅;exact absurd (u.symm.trans h) ∅;exact absurd (u.symm.trans h) ∅;exact absurd (u.symm.trans h) ∅};have hl2:=B.l2;have hl30:=B.l30;have hnl:=B.nl;have hfew:=B.few;have U:(ns++nn).length<=32:=by{rw[aag];nofun};revert(.mk (M:=16) 0 g (by decide) (by decide) F () λt b0 b1 b2 htl E g=>?_)(.mk B () λks ds G=>?_)(.mk B.ndr () ?_)(cZ (by decide) (by rw[abR];nofun) λe X=>?_);let⟨n0,W,rfl⟩:=abZ.mp X;revert{lez 2,?_}{lez 1,?_}{{by decide,by decide},?_}(bf (λi ρ=>∃(KS:↥Sp2)(J j:Option OV)(b0 b1 b2:Int),KS.length=i+1/\(∀p∈KS,p.1∈ns++nn/\p.2<=t.length)/\WellB b1 b2 (200+2*i)/\ρ=[!(.fz (.lst (L.map .int))),!(.fz (.lst (ns.map .str))),!(.fz (.lst (nn.map .str))),!(bn rows),!(bN b0 b1 b2),!(.fz (.str t)),!(.fz (.dt ks ds)),!(.fz (ik (ag rows))),!(.fl (KS.map aG)),J,j,none,none,none,none]) {[(n0,0)],none,none,b0,b1,b2,rfl,λp V=>by rw[abY.mp V];exact{abS.mpr (.inl W),aan _},g.mono (),rfl} ?_ ?_);rintro i d ρ Q hd ⟨KS,J,j,b0,b1,b2,H,v,g,rfl⟩ S;let⟨hi,rfl⟩:=bw hd;have hi2:i<5:=hi;revert{by rw[abR,abR];nofun,?_};rw[←aae];revert{rfl,?_}(bi _ g () (by rw[abR,aag];nofun) (by rw[abR];nofun) λr1 b0 b1 b2 R O g=>?_)(cZ R O λe X=>?_);let⟨y,hy,rfl⟩:=abZ.mp X;revert{(),?_}(bi _ g () () () λr2 b0 b1 b2 N r21 g=>?_);let⟨K,rfl⟩:=abE N;revert{lez 2,?_}{by rw[abR];nofun,S _ {KS++[(y,K)],!(.fz (.int (0+(i:Int)))),!(.fz (.lst ((ns++nn).map .str))),b0,b1,b2,by rw[aag,H];rfl,λp V=>?_,g.mono (),?_}};rcases abS.mp V with h|h;exact v p h;rw[abY.mp h];exact{hy,by show K<=t.length;nofun};rw[show (KS++[(y,K)]).map aG=KS.map aG++[aG (y,K)]from aae];rfl;rintro ρ ⟨KS,J,j,b0,b1,b2,H,v,g,rfl⟩;revert(bf (λi ρ=>∃s o n l:Option OV,ρ=[!(.fz (.lst (L.map .int))),!(.fz (.lst (ns.map .str))),!(.fz (.lst (nn.map .str))),!(bn rows),!(bN b0 b1 b2),!(.fz (.str t)),!(.fz (.dt ks ds)),!(.fz (ik (ag rows))),!(.fz (.lst (KS.map aG))),J,j,s,o,n,l]) {(none),none,none,none,rfl} ?_ ?_);rintro i d ρ Q hd ⟨s,o,n,l,rfl⟩ S;rw[abW,aai]at hd;let⟨⟨x,k⟩,T,rfl⟩:=hd;let⟨w,C⟩:=v _ (abX T);have w:x∈ns++nn:=w;have C:k<=t.length:=C;let⟨r,hr,f⟩:=G (x,k) {(w),C};have hr:rdF (bY (ag rows)) t 100000 x k=!r:=hr;have Z:=nX (B.rk (t:=t) ()).rls w C hr;have rk:=Z.kf;obtain⟨m,hm⟩:∃m,r.far+1=k+m:={r.far+1 - k,()};have em:(r.far:Int) - (k:Int)+1=(m:Int):=();have f:cF ks ds (hV (x,k))=!(gr r.ln ((r.far:Int) - (k:Int)+1) (bG [] (eM (bY (ag rows)) t 100000 (x,k))) (aT r.ls)):=f;rw[em]at f;have rl:r.ls.length<=32:=aao (aas Z.nd Z.sub) U;have rs:(aT r.ls).length=r.ls.length:=(aq _).length_eq;have A:AskR (ag rows) x t k:={B.bk,B.nm _ w,E,(),C};have PI:=Bv B () E w C hr hm rfl;have Y:((aT r.ls).map λx=>D.tup [.str x,rlD (bY (ag rows) x)])=((nh rows (aT r.ls)).map prP).map eN:=by{unfold nh;rw[aar,aar];refine abh λy _=>?_;rw[OL B.ndr λr hr=>{_,B.nm,(B.okr hr).2}];rfl};have hP:∀{Q:OV->↥OV->Prop},(∀a,Q (.ot [.fz (.str x),.fz (cH r.ln),.fz (.int m),.fz (.str (gZ t ↑(k:Int) !((k:Int)+(m:Int)))),.fz (.bl (decide ((t.length:Int)<(k:Int)+(m:Int)))),.fl a (((nh rows (aT r.ls)).map prP).map eN)]) (xG (ag rows) x t k))->gb (xG (ag rows) x t k) Q:=λh=>.mk A () () hr λa=>by{have:=h a;rw[←em,←Y]at this;exact this};have hL:∀{Q:OV->↥OV->Prop},Q (.fz (ox x r.ln m (gZ t ↑(k:Int) !((k:Int)+(m:Int))) (decide ((t.length:Int)<(k:Int)+(m:Int))) (nh rows (aT r.ls)))) [bn rows,.fz (.str t),.fz (.dt ks ds),.fz (.str x),.fz (.int k)]->cA [bn rows,.fz (.str t),.fz (.dt ks ds),.fz (.str x),.fz (.int k)] Q:=λh=>.mk () () f h;generalize gZ t ↑(k:Int) ↑((k:Int)+(m:Int))=c at*;let⟨p1,p2,p3,p4,p5⟩:=PI;generalize decide ((t.length:Int)<(k:Int)+(m:Int))=en at*;revert{rfl,?_} hL(hP λa=>?_)(di True (λ_=>?_) λrest=>?_);revert{lez 2,?_}{rfl,by rw[abR,abR,abR];nofun,?_}(di True (λ_=>S _ {_,_,_,_,rfl}) λrest=>?_)(hP λa=>?_)(.mk ?_)(cm (rest trivial));revert(.mk ?_){rfl,?_} cm(.mk p1 p2 p3 () p4 p5 rfl (show ((r.far - k+0:Nat):Int)+1=(m:Int)from ()) (by rw[aar];exact(List.map_id _).symm) ?_){rfl,?_}(cm (rest trivial));rintro ρ ⟨s,o,n,l,rfl⟩;revert(.mk B.ndr () ?_){wN,?_};ext;rw[dA];exact q
end _K
open PySem _L
local macro_rules|`(tactic|fail $s:str)=>do
 let a←(s.getString.splitOn " ").toArray.mapM fun x=>match x.splitOn "/" with |[n,c]=>do let b←c.toList.toArray.mapM fun k=>if k=='d' then `(by decide) else if k=='a' then `(by assumption) else `(rfl);`(tactic|exact $(Lean.mkIdent n.toName) $b*)|_=>`(tactic|apply $(Lean.mkIdent x.toName))
 if s.getString.startsWith "! " then let c:=a.extract 1 a.size;`(tactic|first $[|$c:tactic]*) else `(tactic|(with_reducible first $[|$a:tactic]*))
local macro_rules|`(tactic|walk_at "f1") => `(tactic|(repeat' (first|fail "Pg/d JS JT NN uo J0 Kd Kf gf_n/d um Kz KC KA Fl Fg Ak Aj Fk KB rO uE Fh zf Fi Fj Fv zy Au NQ zG NS Od/d NL JU NM EO JV EQ NO yV J1 J2 NR KD NY KH KI zq Fn Lm zm Fy KE KF KJ kQ N6 ET EU NU Ke E2 EZ Gb E3 E4 Kg za y9 E1 zb E6 zF tf_B JW JX NP JY JZ gf_c/dd Ka EV yY y4 Ay Ax vp EX EY y6 y8 Oe Of Og Fq Fp N9 nN zw ES"|(show ClsF _ _ _;assumption)|fail "Go Ab Gg Ac Ad F6 FW zI FX F8 Ae vh Af zO Gd Ge Ag zS zW zX zY Gn Aa Oc Gu Aq Gz Oh/r"|fail "! rfl/"|fail "zt/d N1/d"|(show Program;exact Zz.P (by assumption))|(show World;exact Zz.w (by assumption))|decide)))
local macro_rules|`(tactic|walk_at "f2") => `(tactic|(repeat' (first|fail "tU Ca B9 yG Er Ep wa_c Jq Km"|fail "! rfl/ Or.inl/r Or.inr/r"|exact Or.inr (Or.inl rfl)|assumption|fail "NE Jm Jr"|((with_reducible apply Ol);exact rfl)|fail "FH JA JB NJ Jz Es JC yI Et yH nH EI zE"|fail "! Room.units/a Nw/a Room.gd/a Room.mono/ad"|exact fun _=>rfl|exact fun _ _=>rfl|fail "! nomarkB/dd"|fail "Jn zH NC Jh Jl NF Jk Jj NG yv yD Jo Jp yz uQ Ef Eg Ec JD JE ze Eu Ai Ah E9 Fa Fb Fc E8 rN rn Ew yJ Ex Ey Ez yL Ar JG Kt JJ JK zp EH Ll yS zB JH JI Kw JM"|exact Or.inl ⟨_,rfl⟩|exact Or.inr ⟨_,rfl⟩|fail "Js Ej Jt Ju NH Ek El Em Jv En yF Jw"|fail "! PassesOwn.never/"|fail "tX tY vt Eo Jx Jy FB Eh Ei FF Oj"|fail "! CompScope.of/rrr"|(intro C s H fp)|fail "! Oi/r"|fail "Eb yy PySem.F.plainAttrs_list PySem.F.plainAttrs_str PySem.F.slot_list_append PySem.F.type_list_append tZ PySem.F.slot_str_join PySem.F.type_str_join EA PySem.F.slot_list_extend PySem.F.type_list_extend PySem.F.slot_list_reverse PySem.F.type_list_reverse PySem.F.slot_list_index PySem.F.type_list_index PySem.F.slot_list_remove PySem.F.type_list_remove PySem.F.slot_str_split PySem.F.type_str_split PySem.F.slot_str_partition PySem.F.type_str_partition PySem.F.slot_str_find PySem.F.type_str_find PySem.F.slot_str_upper PySem.F.type_str_upper K6 K8 K9 La Gh Om Lb"|fail "! ClsF.cl/a"|exact ⟨_,rfl⟩|fail "zT Gi tW zV FD Ap abB PySem.F.slot_dict_update PySem.F.type_dict_update vk PySem.F.slot_list_pop PySem.F.type_list_pop Lc PySem.F.slot_list_clear PySem.F.type_list_clear ND tV Ji Ff Fs KW Oa tV wt_w tW"|fail "! yB Ed Ca/ tU/"|exact ⟨rfl,rfl,rfl,rfl⟩|decide|decide +kernel)))
local macro_rules|`(tactic|walk_at "bd") => `(tactic|(intro cdv A outer s H E T nd hr;cases T;apply Exists.intro;apply And.intro;(focus walk_at "f1");(focus ((conv => (arg 2;whnf));walk_at "f2"))))
local macro_rules|`(tactic|walk_at "bn") => `(tactic|(intro _ _ _ _ _ _;first|exact us_1 λ_ => rfl|exact us_2 λ_ _ => rfl|exact us_3 λ_ _ _ => rfl|exact us_4 λ_ _ _ _ => rfl|exact us_5 λ_ _ _ _ _ => rfl|exact us_6 λ_ _ _ _ _ _ => rfl|exact us_0 rfl))
local macro_rules|`(tactic|walk_at "o") => `(tactic|((focus walk_at "bn");(focus exact _L.sc_of rfl rfl rfl rfl (by decide +kernel));walk_at "bd"))
local macro_rules|`(tactic|walk_at "ol") => `(tactic|((focus exact _L.sc_of rfl rfl rfl rfl (by decide +kernel));walk_at "bd"))
local macro_rules|`(tactic|walk_at "l") => `(tactic|(repeat (obtain⟨x,h⟩ := h)))
namespace _K
section
variable{Z:Zz}{f C:Addr}{fd:FuncData}(t:TopZ Z (Txt Z.K Z.mg))(hC:ClsF Z.K 0 C)
include t hC
abbrev xf(Z:Zz)(C:Addr):Prop:=Le Z C "Asking" 1 ["self","form","name","place"] aQ
abbrev kr(Z:Zz)(C:Addr):Prop:=nP Z C "end" 1 ["self","length"] aJ
abbrev gx(Z:Zz)(C:Addr):Prop:=nP Z C "wanted" 1 ["self"] a7
abbrev CU(Z:Zz)(C:Addr):Prop:=nP Z C "take_in_row" 2 ["self","length"] aX
abbrev qr(Z:Zz)(C:Addr):Prop:=nP Z C "take_in_first" 2 ["self","length"] aN
abbrev qt(Z:Zz)(C:Addr):Prop:=nP Z C "take_in_again" 2 ["self","length"] aO
abbrev oy(Z:Zz)(C:Addr):Prop:=nP Z C "take" 3 ["self","length"] bU
def Hx(D:DfM Z.K C "__init__" "Asking.__init__" vA f fd)(a:PySem.W.nsIn Z.K mainGlobals "Asking"=!!(.ref C))(mk:PySem.W.makesIn Z.K C=true)(b:PySem.W.keepIn Z.K (.ref C)=true):xf Z C:=by refine Gp t D a mk b (k7 ["self","form","name","place"] t D.fn (by delta aQ) GC ?_ ?_) ?_;rotate_right;(focus walk_at "bn");walk_at "ol"
def Mj(D:DfM Z.K C "end" "Asking.end" Co f fd):kr Z C:=by refine gL D (k7 ["self","length"] t D.fn (by delta aJ) Lp ?_ ?_) ?_;rotate_right;(focus walk_at "bn");walk_at "ol"
def xg(D:DfM Z.K C "wanted" "Asking.wanted" my f fd):gx Z C:=by refine gL D (k7 ["self"] t D.fn (by delta a7) vJ ?_ ?_) ?_;rotate_right;(focus walk_at "bn");walk_at "ol"
def Ml(D:DfM Z.K C "take_in_row" "Asking.take_in_row" Cq f fd)(_:kr Z C):CU Z C:=by refine gL D (k7 ["self","length"] t D.fn (by delta aX) Lr ?_ ?_) ?_;rotate_right;(focus walk_at "bn");walk_at "ol"
def Bw(D:DfM Z.K C "take_in_first" "Asking.take_in_first" pJ f fd)(_:kr Z C):qr Z C:=by refine gL D (k7 ["self","length"] t D.fn (by delta aN) AE ?_ ?_) ?_;rotate_right;(focus walk_at "bn");walk_at "ol"
def Bx(D:DfM Z.K C "take_in_again" "Asking.take_in_again" pK f fd)(_:kr Z C):qt Z C:=by refine gL D (k7 ["self","length"] t D.fn (by delta aO) AG ?_ ?_) ?_;rotate_right;(focus walk_at "bn");walk_at "ol"
def Hy(D:DfM Z.K C "take" "Asking.take" vI f fd)(_:gx Z C)(_:kr Z C)(_:CU Z C)(_:qr Z C)(_:qt Z C):oy Z C:=by refine gL D (k7 ["self","length","word"] t D.fn (by delta bU) GM ?_ ?_) ?_;rotate_right;(focus walk_at "bn");walk_at "ol"
abbrev qu(Z:Zz):Prop:=cG Z "length_alone" 1 ["form","text","place"] b4
def By(D:Df Z.K "length_alone" pG f fd):qu Z:=by refine aw ["form","text","place"] t D (by delta b4) AB ?_ ?_ ?_;walk_at "o"
abbrev lx(Z:Zz):Prop:=cG Z "parts_of" 1 ["form"] bT
def Hz(D:Df Z.K "parts_of" vE f fd):lx Z:=by refine aw ["form"] t D (by delta bT) GH ?_ ?_ ?_;walk_at "o"
abbrev oz(Z:Zz):Prop:=cG Z "begun" 3 ["rules","text","name","place"] ef
def HA(D:Df Z.K "begun" vG f fd)(_:xf Z C)(_:kr Z C)(_:lx Z)(_:qu Z):oz Z:=by refine aw ["rules","text","name","place","form","asking"] t D (by delta ef) GJ ?_ ?_ ?_;walk_at "o"
abbrev xh(Z:Zz):Prop:=cG Z "found" 1 ["asking","kept"] fT
def HB(D:Df Z.K "found" vO f fd):xh Z:=by refine aw ["asking","kept","farthest","leans","step","length","reach","leaned"] t D (by delta fT) GR ?_ ?_ ?_;walk_at "o"
abbrev CV(Z:Zz):Prop:=cG Z "make" 4 ["rules","text","kept","name","place"] jo
def Mm(D:Df Z.K "make" Cv f fd)(_:gx Z C)(_:oy Z C)(_:oz Z)(_:xh Z):CV Z:=by refine aw ["rules","text","kept","name","place","new","under_way","asking","wanted"] t D (by delta jo) Lw ?_ ?_ ?_;walk_at "o"
abbrev fF(Z:Zz):Prop:=cG Z "is_name" 1 ["thing"] b5
def Bz(D:Df Z.K "is_name" pN f fd):fF Z:=by refine aw ["thing"] t D (by delta b5) AL ?_ ?_ ?_;walk_at "o"
abbrev qv(Z:Zz):Prop:=cG Z "is_sign" 1 ["sign"] eZ
def BB(D:Df Z.K "is_sign" pO f fd):qv Z:=by refine aw ["sign"] t D (by delta eZ) AN ?_ ?_ ?_;walk_at "o"
abbrev iC(Z:Zz):Prop:=cG Z "is_text" 2 ["thing"] c6
def BC(D:Df Z.K "is_text" pP f fd)(_:qv Z):iC Z:=by refine aw ["thing"] t D (by delta c6) AQ ?_ ?_ ?_;walk_at "o"
abbrev qw(Z:Zz):Prop:=cG Z "are_rising_signs" 3 ["thing"] bj
def BD(D:Df Z.K "are_rising_signs" pQ f fd)(_:iC Z):qw Z:=by refine aw ["thing"] t D (by delta bj) AS ?_ ?_ ?_;walk_at "o"
abbrev ly(Z:Zz):Prop:=cG Z "is_form" 4 ["thing"] dI
def BF(D:Df Z.K "is_form" pR f fd)(_:qw Z)(_:fF Z):ly Z:=by refine aw ["thing","word"] t D (by delta dI) AU ?_ ?_ ?_;walk_at "o"
abbrev qx(Z:Zz):Prop:=cG Z "is_rule" 5 ["thing"] e7
def BH(D:Df Z.K "is_rule" pT f fd)(_:fF Z)(_:ly Z):qx Z:=by refine aw ["thing"] t D (by delta e7) AW ?_ ?_ ?_;walk_at "o"
abbrev oA(Z:Zz):Prop:=cG Z "names_rise" 1 ["rows"] bK
def HC(D:Df Z.K "names_rise" wa f fd):oA Z:=by refine aw ["rows"] t D (by delta bK) GW ?_ ?_ ?_;walk_at "o"
abbrev qy(Z:Zz):Prop:=cG Z "is_book" 6 ["thing"] e8
def BJ(D:Df Z.K "is_book" pU f fd)(_:qx Z)(_:oA Z):qy Z:=by refine aw ["thing"] t D (by delta e8) AY ?_ ?_ ?_;walk_at "o"
abbrev Mn(Z:Zz):Prop:=cG Z "may_be_empty" 2 ["form","empty"] b6
def OP(D:Df Z.K "may_be_empty" LB f fd)(_:lx Z):Mn Z:=by refine aw ["form","empty"] t D (by delta b6) OB ?_ ?_ ?_;walk_at "o"
abbrev qz(Z:Zz):Prop:=cG Z "empty_names" 3 ["book"] bv
def BK(D:Df Z.K "empty_names" pX f fd)(_:Mn Z):qz Z:=by refine aw ["book","empty","grows","name","form"] t D (by delta bv) A7 ?_ ?_ ?_;walk_at "o"
abbrev CW(Z:Zz):Prop:=cG Z "begins_of_row" 1 ["parts","empty"] bM
def Mo(D:Df Z.K "begins_of_row" Cz f fd):CW Z:=by refine aw ["parts","empty","begun","part"] t D (by delta bM) LD ?_ ?_ ?_;walk_at "o"
abbrev xi(Z:Zz):Prop:=cG Z "begins_of_form" 2 ["form","empty"] bz
def HD(D:Df Z.K "begins_of_form" wj f fd)(_:lx Z)(_:CW Z):xi Z:=by refine aw ["form","empty"] t D (by delta bz) G0 ?_ ?_ ?_;walk_at "o"
abbrev xj(Z:Zz):Prop:=cG Z "steps_of" 4 ["book"] dJ
def HE(D:Df Z.K "steps_of" wl f fd)(_:qz Z)(_:xi Z):xj Z:=by refine aw ["book","empty","steps","name","form"] t D (by delta dJ) G3 ?_ ?_ ?_;walk_at "o"
abbrev qA(Z:Zz):Prop:=cG Z "steps_within" 1 ["steps","name","left"] aZ
def BL(D:Df Z.K "steps_within" qb f fd):qA Z:=by refine aw ["steps","name","left"] t D Bc Bd ?_ ?_ ?_;walk_at "o"
abbrev mU(Z:Zz):Prop:=cG Z "endless_rules" 5 ["steps"] a8
def xk(D:Df Z.K "endless_rules" mK f fd)(_:qA Z):mU Z:=by refine aw ["steps","left","shrinks","ended","name"] t D (by delta a8) wo ?_ ?_ ?_;walk_at "o"
abbrev xl(Z:Zz):Prop:=cG Z "loop" 6 ["book"] kj
def Mp(D:Df Z.K "loop" CB f fd)(_:xj Z)(_:mU Z):xl Z:=by refine aw ["book","steps","left","walked","name"] t D (by delta kj) LH ?_ ?_ ?_;walk_at "o"
abbrev CY(Z:Zz):Prop:=cG Z "asked_anew" 4 ["rules","text","kept","name","place"] bJ
def Mq(D:Df Z.K "asked_anew" Cw f fd)(_:gx Z C)(_:oy Z C)(_:oz Z):CY Z:=by refine aw ["rules","text","kept","name","place","asking"] t D (by delta bJ) Ly ?_ ?_ ?_;walk_at "o"
abbrev mV(Z:Zz):Prop:=cG Z "asked_of" 5 ["rules","text","kept","name","place"] cx
def xm(D:Df Z.K "asked_of" mE f fd)(_:CY Z):mV Z:=by refine aw ["rules","text","kept","name","place","asked","step"] t D (by delta cx) vT ?_ ?_ ?_;walk_at "o"
abbrev jC(Z:Zz):Prop:=cG Z "is_whole" 1 ["thing"] cy
def xn(D:Df Z.K "is_whole" mF f fd):jC Z:=by refine aw ["thing"] t D (by delta cy) vV ?_ ?_ ?_;walk_at "o"
abbrev mW(Z:Zz):Prop:=cG Z "is_place" 2 ["text","thing"] dH
def xo(D:Df Z.K "is_place" mG f fd)(_:jC Z):mW Z:=by refine aw ["text","thing"] t D (by delta dH) vX ?_ ?_ ?_;walk_at "o"
abbrev Mr(Z:Zz):Prop:=cG Z "refuse_wrong_book" 7 ["book"] a9
def OQ(D:Df Z.K "refuse_wrong_book" LI f fd)(_:qy Z)(_:xl Z):Mr Z:=by refine aw ["book"] t D (by delta a9) OD ?_ ?_ ?_;walk_at "o"
abbrev Po(Z:Zz):Prop:=cG Z "refuse_wrong" 8 ["book","name","text","place"] b7
def o_rw(D:Df Z.K "refuse_wrong" Pn f fd)(_:Mr Z)(_:fF Z)(_:iC Z)(_:mW Z):Po Z:=by refine aw ["book","name","text","place"] t D (by delta b7) h_rw ?_ ?_ ?_;walk_at "o"
abbrev oB(Z:Zz):Prop:=cG Z "made_alone" 9 ["book","name","text","place"] cf
def HF(D:Df Z.K "made_alone" wt f fd)(_:Po Z)(_:CV Z):oB Z:=by refine aw ["book","name","text","place","kept"] t D (by delta cf) G7 ?_ ?_ ?_;walk_at "o"
abbrev mX(Z:Zz):Prop:=cG Z "reading" 10 ["book","name","text","place"] e9
def xp(D:Df Z.K "reading" mM f fd)(_:oB Z)(_:mV Z):mX Z:=by refine aw ["book","name","text","place","kept","length","reach","leans"] t D (by delta e9) wv ?_ ?_ ?_;walk_at "o"
abbrev xq(Z:Zz):Prop:=cG Z "_law_cell_at" 1 ["script","k"] bm
def Ms(D:Df Z.K "_law_cell_at" CC f fd):xq Z:=by refine aw ["script","k"] t D (by delta bm) LM ?_ ?_ ?_;walk_at "o"
abbrev xr(Z:Zz):Prop:=cG Z "_law_stir" 1 ["seed","turn"] cQ
def Mt(D:Df Z.K "_law_stir" CD f fd):xr Z:=by refine aw ["seed","turn","number"] t D (by delta cQ) LO ?_ ?_ ?_;walk_at "o"
abbrev xt(Z:Zz):Prop:=cG Z "_law_well" 2 ["cell","k"] cR
def Mu(D:Df Z.K "_law_well" CF f fd)(_:xr Z):xt Z:=by refine aw ["cell","k","seed"] t D (by delta cR) LQ ?_ ?_ ?_;walk_at "o"
abbrev jD(Z:Zz):Prop:=cG Z "_law_draw" 2 ["well","many"] ar
def Mv(D:Df Z.K "_law_draw" CG f fd)(_:xr Z):jD Z:=by refine aw ["well","many","taken"] t D (by delta ar) LS ?_ ?_ ?_;walk_at "o"
abbrev mY(Z:Zz):Prop:=cG Z "_law_new_name" 3 ["well","names"] bA
def xu(D:Df Z.K "_law_new_name" mN f fd)(_:jD Z):mY Z:=by refine aw ["well","names","letters","way","letter","name","old","at","some"] t D (by delta bA) wB ?_ ?_ ?_;walk_at "o"
abbrev xv(Z:Zz):Prop:=cG Z "_law_sign" 3 ["well"] cS
def Mw(D:Df Z.K "_law_sign" CH f fd)(_:jD Z):xv Z:=by refine aw ["well","signs"] t D (by delta cS) LW ?_ ?_ ?_;walk_at "o"
abbrev xw(Z:Zz):Prop:=cG Z "_law_signs" 4 ["well"] b9
def HG(D:Df Z.K "_law_signs" wx f fd)(_:jD Z)(_:xv Z):xw Z:=by refine aw ["well","many"] t D (by delta b9) G9 ?_ ?_ ?_;walk_at "o"
abbrev CZ(Z:Zz):Prop:=cG Z "_law_text" 4 ["well","rules","most"] dL
def Mx(D:Df Z.K "_law_text" CJ f fd)(_:jD Z)(_:xv Z):CZ Z:=by refine aw ["well","rules","most","own","signs","k","sign"] t D (by delta dL) LZ ?_ ?_ ?_;walk_at "o"
abbrev qB(Z:Zz):Prop:=cG Z "_law_listed" 1 ["rules"] cg
def BM(D:Df Z.K "_law_listed" qh f fd):qB Z:=by refine aw ["rules"] t D (by delta cg) Bj ?_ ?_ ?_;walk_at "o"
abbrev mZ(Z:Zz):Prop:=cG Z "paper_of" 1 ["forms","text","kept","name","place"] dO
def xx(D:Df Z.K "paper_of" mR f fd):mZ Z:=by refine aw ["forms","text","kept","name","place","length","reach","leans","rules"] t D (by delta dO) wV ?_ ?_ ?_;walk_at "o"
abbrev xy(Z:Zz):Prop:=cG Z "paper" 10 ["book","name","text","place"] gb
def HH(D:Df Z.K "paper" wW f fd)(_:oB Z)(_:mZ Z):xy Z:=by refine aw ["book","name","text","place","kept"] t D (by delta gb) Ht ?_ ?_ ?_;walk_at "o"
abbrev m6(Z:Zz):Prop:=cG Z "is_paper_rule" 5 ["thing"] bQ
def xz(D:Df Z.K "is_paper_rule" mS f fd)(_:fF Z)(_:ly Z):m6 Z:=by refine aw ["thing"] t D (by delta bQ) wZ ?_ ?_ ?_;walk_at "o"
abbrev jE(Z:Zz):Prop:=cG Z "are_paper_rules" 6 ["thing"] bp
def oC(D:Df Z.K "are_paper_rules" jB f fd)(_:m6 Z)(_:oA Z):jE Z:=by refine aw ["thing"] t D (by delta bp) ou ?_ ?_ ?_;walk_at "o"
abbrev ku(Z:Zz):Prop:=cG Z "has_paper_parts" 7 ["thing"] bq
def sg(D:Df Z.K "has_paper_parts" kq f fd)(_:fF Z)(_:jC Z)(_:iC Z)(_:jE Z):ku Z:=by refine aw ["thing","name","length","reach","signs","ends","rules"] t D (by delta bq) r9 ?_ ?_ ?_;walk_at "o"
abbrev m7(Z:Zz):Prop:=cG Z "is_paper" 11 ["thing"] dP
def xA(D:Df Z.K "is_paper" mT f fd)(_:ku Z)(_:xl Z)(_:mX Z):m7 Z:=by refine aw ["thing","name","length","reach","signs","ends","rules","book","told"] t D (by delta dP) xb ?_ ?_ ?_;walk_at "o"
abbrev xB(Z:Zz):Prop:=cG Z "_law_solid" 1 ["form","solid"] c7
def HI(D:Df Z.K "_law_solid" wH f fd):xB Z:=by refine aw ["form","solid"] t D (by delta c7) Hf ?_ ?_ ?_;walk_at "o"
abbrev xC(Z:Zz):Prop:=cG Z "_law_form" 5 ["well","later","every","solid"] cz
def HJ(D:Df Z.K "_law_form" wI f fd)(_:jD Z)(_:xw Z):xC Z:=by refine aw ["well","later","every","solid","words","word","parts","k","some"] t D (by delta cz) Hi ?_ ?_ ?_;walk_at "o"
abbrev C5(Z:Zz):Prop:=cG Z "_law_book" 6 ["cells","most"] dM
def My(D:Df Z.K "_law_book" CK f fd)(_:xq Z)(_:xt Z)(_:mY Z)(_:xC Z)(_:xB Z):C5 Z:=by refine aw ["cells","most","many","wells","names","k","none","rules","solid"] t D (by delta dM) L4 ?_ ?_ ?_;walk_at "o"
abbrev C6(Z:Zz):Prop:=cG Z "_law_length" 1 ["form","text","table","place"] bO
def Mz(D:Df Z.K "_law_length" CM f fd):C6 Z:=by refine aw ["form","text","table","place","word","there","asked","at","going","step","part","read"] t D (by delta bO) L7 ?_ ?_ ?_;walk_at "o"
abbrev C8(Z:Zz):Prop:=cG Z "_law_record" 2 ["rules","text","table","name","place"] bP
def MA(D:Df Z.K "_law_record" CO f fd)(_:C6 Z):C8 Z:=by refine aw ["rules","text","table","name","place","length","asked","once","far","leans","key","one"] t D (by delta bP) L9 ?_ ?_ ?_;walk_at "o"
abbrev xD(Z:Zz):Prop:=cG Z "_law_plain" 3 ["names","none","rules","text"] c9
def HK(D:Df Z.K "_law_plain" wQ f fd)(_:C8 Z):xD Z:=by refine aw ["names","none","rules","text","table","place","name"] t D (by delta c9) Hn ?_ ?_ ?_;walk_at "o"
abbrev qC(Z:Zz):Prop:=cG Z "_law_paper" 1 ["rules","text","table","name","place"] cA
def BN(D:Df Z.K "_law_paper" qq f fd):qC Z:=by refine aw ["rules","text","table","name","place","length","reach","asked","leans","forms"] t D (by delta cA) Bu ?_ ?_ ?_;walk_at "o"
abbrev C9(Z:Zz):Prop:=cG Z "_law_same" 1 ["found_v","due"] cU
def MB(D:Df Z.K "_law_same" CT f fd):C9 Z:=by refine aw ["found_v","due"] t D (by delta cU) Mg ?_ ?_ ?_;walk_at "o"
def o_law(D:Df Z.K "law" Mi f fd)(_:C5 Z)(_:xq Z)(_:xt Z)(_:CZ Z)(_:jD Z)(_:xD Z)(_:qB Z)(_:qC Z)(_:xy Z)(_:C9 Z)(_:m7 Z):FnOk Z.P Z.w Z.K Z.mg Z.base CX0 13 f fd ["script"] (spM Z.K se):=by refine k7 ["script","names","none","rules","well","text","table","book","keys","k","some","name","place","due","found_v"] t D.fn (by delta se) OO ?_ ?_;walk_at "ol"
end
end _K
open PySem _L
namespace _K
def BP(K:Frag):Sp:=λvs H Q _=>∃(a:Addr)(ns:↥Int),vs=[.ref a]/\SqL K H a (ns.map V.int)/\ns.length<=63/\∀H',Q (.bl true) H'
variable{q:Program}{loose:↥Str}{XP:(Str->Option Value)->Heap->Prop}
def MC{K:Frag}(vs:↥V)(H:Hp)(Q:VK)(E:XK)(h:BP K vs H Q E):spM K se vs H Q E:=by let⟨a,ns,rfl,g,f,q⟩:=h;refine{H,λ_=>none,[.fz (.lst (ns.map .int))],[],λo _=>o=.fz (.bl true),Same.refl H,SameN.none,λ_ _ _=>rfl,.cons (.fz (.lst g (Dens.ints ns))) .nil,aaH,(λ_ z=>nomatch z),?_,λo c v F' H' i B e _ _ _ _ _ b _ _=>?_};unfold se;exact{(ns),rfl,f,rfl};subst e;cases b with|fz d=>rw [d.bl_eq];exact q H'
def all_mk{l:PySem.W.OpenLaw}{w:World}{K:Frag}{h:Heap}{mg:Str->Option Value}{fa f0 f1 f2 f3 f4 f5 f6 f7 f8 f9 f10 f11 f12 f13 f14 f15 f16 f17 f18 f19 f20 f21 f22 f23 f24 f25 f26 f27 f28 f29 f30 f31 f32 f33 f34 f35 f36 f37 f38 f39 f40 f41 f42 f43 f44 f45 f46 f47 f48 f49 f50 f51 f52:Addr}{u0 u1 u2 u3 u4 u5 u6 u7 u8 u9 u10 u11 u12 u13 u14 u15 u16 u17 u18 u19 u20 u21 u22 u23 u24 u25 u26 u27 u28 u29 u30 u31 u32 u33 u34 u35 u36 u37 u38 u39 u40 u41 u42 u43 u44 u45 u46 u47 u48 u49 u50 u51 u52:FuncData}{C fi fm0 fm1 fm2 fm3 fm4 fm5:Addr}{ui um0 um1 um2 um3 um4 um5:FuncData}(X:K.In h)(G:h.Ns mainGlobals mg)(hfa:mg "law"=!(.ref fa))(d0:Df K "length_alone" pG f0 u0)(d1:Df K "parts_of" vE f1 u1)(d2:Df K "begun" vG f2 u2)(d3:Df K "found" vO f3 u3)(d4:Df K "make" Cv f4 u4)(d5:Df K "is_name" pN f5 u5)(d6:Df K "is_sign" pO f6 u6)(d7:Df K "is_text" pP f7 u7)(d8:Df K "are_rising_signs" pQ f8 u8)(d9:Df K "is_form" pR f9 u9)(d10:Df K "is_rule" pT f10 u10)(d11:Df K "names_rise" wa f11 u11)(d12:Df K "is_book" pU f12 u12)(d13:Df K "may_be_empty" LB f13 u13)(d14:Df K "empty_names" pX f14 u14)(d15:Df K "begins_of_row" Cz f15 u15)(d16:Df K "begins_of_form" wj f16 u16)(d17:Df K "steps_of" wl f17 u17)(d18:Df K "steps_within" qb f18 u18)(d19:Df K "endless_rules" mK f19 u19)(d20:Df K "loop" CB f20 u20)(d21:Df K "asked_anew" Cw f21 u21)(d22:Df K "asked_of" mE f22 u22)(d23:Df K "is_whole" mF f23 u23)(d24:Df K "is_place" mG f24 u24)(d25:Df K "refuse_wrong_book" LI f25 u25)(d26:Df K "refuse_wrong" Pn f26 u26)(d27:Df K "made_alone" wt f27 u27)(d28:Df K "reading" mM f28 u28)(d29:Df K "_law_cell_at" CC f29 u29)(d30:Df K "_law_stir" CD f30 u30)(d31:Df K "_law_well" CF f31 u31)(d32:Df K "_law_draw" CG f32 u32)(d33:Df K "_law_new_name" mN f33 u33)(d34:Df K "_law_sign" CH f34 u34)(d35:Df K "_law_signs" wx f35 u35)(d36:Df K "_law_text" CJ f36 u36)(d37:Df K "_law_listed" qh f37 u37)(d38:Df K "paper_of" mR f38 u38)(d39:Df K "paper" wW f39 u39)(d40:Df K "is_paper_rule" mS f40 u40)(d41:Df K "are_paper_rules" jB f41 u41)(d42:Df K "has_paper_parts" kq f42 u42)(d43:Df K "is_paper" mT f43 u43)(d44:Df K "_law_solid" wH f44 u44)(d45:Df K "_law_form" wI f45 u45)(d46:Df K "_law_book" CK f46 u46)(d47:Df K "_law_length" CM f47 u47)(d48:Df K "_law_record" CO f48 u48)(d49:Df K "_law_plain" wQ f49 u49)(d50:Df K "_law_paper" qq f50 u50)(d51:Df K "_law_same" CT f51 u51)(d52:Df K "law" Mi f52 u52)(z0:PySem.W.nsIn K mainGlobals "len"=!none)(z1:PySem.W.nsIn K mainGlobals "max"=!none)(z2:PySem.W.nsIn K mainGlobals "min"=!none)(z3:PySem.W.nsIn K mainGlobals "isinstance"=!none)(z4:PySem.W.nsIn K mainGlobals "all"=!none)(z5:PySem.W.nsIn K mainGlobals "any"=!none)(z6:PySem.W.nsIn K mainGlobals "sorted"=!none)(z7:PySem.W.nsIn K mainGlobals "range"=!none)(z8:PySem.W.nsIn K mainGlobals "str"=!none)(z9:PySem.W.nsIn K mainGlobals "bool"=!none)(z10:PySem.W.nsIn K mainGlobals "int"=!none)(z11:PySem.W.nsIn K mainGlobals "list"=!none)(z12:PySem.W.nsIn K mainGlobals "tuple"=!none)(z13:PySem.W.nsIn K mainGlobals "dict"=!none)(z14:PySem.W.nsIn K mainGlobals "set"=!none)(z15:PySem.W.nsIn K mainGlobals "ord"=!none)(z16:PySem.W.nsIn K mainGlobals "ValueError"=!none)(z17:PySem.W.nsIn K mainGlobals "reversed"=!none){tk0:Tok}(gl0:PySem.W.nsIn K mainGlobals "LETTERS"=!!(.str "abcdefghijklmnopqrstuvwxyz" tk0)){tk1:Tok}(gl1:PySem.W.nsIn K mainGlobals "MOST_LETTERS"=!!(.int 8 tk1)){tk2:Tok}(gl2:PySem.W.nsIn K mainGlobals "MOST_SIGNS"=!!(.int 40 tk2)){tk3:Tok}(gl3:PySem.W.nsIn K mainGlobals "MOST_PARTS"=!!(.int 8 tk3)){tk4:Tok}(gl4:PySem.W.nsIn K mainGlobals "BARRED_SIGN"=!!(.int 37 tk4)){ta0:Addr}{odt0:Option Addr}{nt0:Nat}{slt0:Array (Option Value)}{tt0_0 tt0_1:Tok}(ga0:PySem.W.nsIn K mainGlobals "WORDS_ALONE"=!!(.ref ta0))(gt0:K.lookup ta0=!{.type "tuple",odt0,.seq #[.str "none" tt0_0,.str "any" tt0_1] nt0,slt0}){ta1:Addr}{odt1:Option Addr}{nt1:Nat}{slt1:Array (Option Value)}{tt1_0 tt1_1 tt1_2:Tok}(ga1:PySem.W.nsIn K mainGlobals "WORDS_WITH_ONE"=!!(.ref ta1))(gt1:K.lookup ta1=!{.type "tuple",odt1,.seq #[.str "again" tt1_0,.str "ahead" tt1_1,.str "not" tt1_2] nt1,slt1}){ta2:Addr}{odt2:Option Addr}{nt2:Nat}{slt2:Array (Option Value)}{tt2_0 tt2_1:Tok}(ga2:PySem.W.nsIn K mainGlobals "WORDS_WITH_SOME"=!!(.ref ta2))(gt2:K.lookup ta2=!{.type "tuple",odt2,.seq #[.str "row" tt2_0,.str "first" tt2_1] nt2,slt2}){ta3:Addr}{odt3:Option Addr}{nt3:Nat}{slt3:Array (Option Value)}{tt3_0 tt3_1 tt3_2 tt3_3:Tok}(ga3:PySem.W.nsIn K mainGlobals "WORDS_EVER_EMPTY"=!!(.ref ta3))(gt3:K.lookup ta3=!{.type "tuple",odt3,.seq #[.str "none" tt3_0,.str "again" tt3_1,.str "ahead" tt3_2,.str "not" tt3_3] nt3,slt3})(cN:PySem.W.nsIn K mainGlobals "Asking"=!!(.ref C))(mi:DfM K C "__init__" "Asking.__init__" vA fi ui)(mm0:DfM K C "end" "Asking.end" Co fm0 um0)(mm1:DfM K C "wanted" "Asking.wanted" my fm1 um1)(mm2:DfM K C "take_in_row" "Asking.take_in_row" Cq fm2 um2)(mm3:DfM K C "take_in_first" "Asking.take_in_first" pJ fm3 um3)(mm4:DfM K C "take_in_again" "Asking.take_in_again" pK fm4 um4)(mm5:DfM K C "take" "Asking.take" vI fm5 um5)(cM:PySem.W.makesIn K C=true)(cK:PySem.W.keepIn K (.ref C)=true)(pg:PySem.W.plainGet K C Str.empty=true)(hd:PySem.W.hasDictIn K C=true)(po:PySem.W.plainOver K C=true)(sa:PySem.W.findIn K (.ref C) "__setattr__"=!!(.builtin "object.__setattr__"))(na0:PySem.W.findIn K (.ref C) "form"=!none)(na1:PySem.W.findIn K (.ref C) "name"=!none)(na2:PySem.W.findIn K (.ref C) "place"=!none)(na3:PySem.W.findIn K (.ref C) "at"=!none)(na4:PySem.W.findIn K (.ref C) "turn"=!none)(na5:PySem.W.findIn K (.ref C) "steps"=!none)(na6:PySem.W.findIn K (.ref C) "done"=!none)(na7:PySem.W.findIn K (.ref C) "length"=!none):∃fd:FuncData,(∀(s:Shared)(v:Value),BindsTo s fd {[v],[]} [("script",v)])/\∀base:Heap,K.In base->base.Ns mainGlobals mg->FnOk l.prog w K mg base CX0 13 fa fd ["script"] (BP K):=by have e:=hfa.symm.trans (aaY X G d52.ns);cases e;have T:Txt K mg:={aat X G z0,aat X G z1,aat X G z2,aat X G z3,aat X G z4,aat X G z5,aat X G z6,aat X G z7,aat X G z8,aat X G z9,aat X G z10,aat X G z11,aat X G z12,aat X G z13,aat X G z14,aat X G z15,aat X G z16,aat X G z17,{_,aaY X G gl0,{_,rfl}},{_,aaY X G gl1,{_,rfl}},{_,aaY X G gl2,{_,rfl}},{_,aaY X G gl3,{_,rfl}},{_,aaY X G gl4,{_,rfl}},{ta0,aaY X G ga0,λ_=>.inr {_,_,_,gt0,rfl,rfl,(by show 2<=sizeLine;decide),(.cons {_,rfl} (.cons {_,rfl} Paired.nil))}},{ta1,aaY X G ga1,λ_=>.inr {_,_,_,gt1,rfl,rfl,(by show 3<=sizeLine;decide),(.cons {_,rfl} (.cons {_,rfl} (.cons {_,rfl} Paired.nil)))}},{ta2,aaY X G ga2,λ_=>.inr {_,_,_,gt2,rfl,rfl,(by show 2<=sizeLine;decide),(.cons {_,rfl} (.cons {_,rfl} Paired.nil))}},{ta3,aaY X G ga3,λ_=>.inr {_,_,_,gt3,rfl,rfl,(by show 4<=sizeLine;decide),(.cons {_,rfl} (.cons {_,rfl} (.cons {_,rfl} (.cons {_,rfl} Paired.nil))))}}};refine{u52,?_,λbase _ _=>?_};let⟨oc,od,kV,doc,pm,an,cdv,ct,osl,rfl,lk,hcd⟩:=d52.fn.ex;exact λs v=>.of_eq rfl;have t:TopZ {(l.prog),w,K,mg,base,h} (Txt K mg):={(X),G,T};have hC:ClsF K 0 C:=Ld cN pg hd po sa (aco.mpr {na0,aco.mpr {na1,aco.mpr {na2,aco.mpr {na3,aco.mpr {na4,aco.mpr {na5,aco.mpr {na6,aco.mpr {na7,λ_ z=>nomatch z}}}}}}}});have A_ainit:=Hx t hC mi cN cM cK;have d:=Mj t hC mm0;have c:=xg t hC mm1;have A_arow:=Ml t hC mm2 d;have W:=Bw t hC mm3 d;have Y:=Bx t hC mm4 d;have q:=Hy t hC mm5 c d A_arow W Y;have Q:=By t hC d0;have g:=Hz t hC d1;have p:=HA t hC d2 A_ainit d g Q;have O_found:=HB t hC d3;have O_make:=Mm t hC d4 c q p O_found;have a:=Bz t hC d5;have R:=BB t hC d6;have f:=BC t hC d7 R;have N:=BD t hC d8 f;have j:=BF t hC d9 N a;have S:=BH t hC d10 a j;have m:=HC t hC d11;have U:=BJ t hC d12 S m;have O_may:=OP t hC d13 g;have V:=BK t hC d14 O_may;have O_brow:=Mo t hC d15;have O_bform:=HD t hC d16 g O_brow;have Z:=HE t hC d17 V O_bform;have M:=BL t hC d18;have D:=xk t hC d19 M;have J:=Mp t hC d20 Z D;have O_anew:=Mq t hC d21 c q p;have E:=xm t hC d22 O_anew;have i:=xn t hC d23;have A:=xo t hC d24 i;have O_rwb:=OQ t hC d25 U J;have O_rw:=o_rw t hC d26 O_rwb a f A;have n:=HF t hC d27 O_rw O_make;have r:=xp t hC d28 n E;have L:=Ms t hC d29;have H:=Mt t hC d30;have F:=Mu t hC d31 H;have b:=Mv t hC d32 H;have x:=xu t hC d33 b;have I:=Mw t hC d34 b;have O_signs:=HG t hC d35 b I;have O_text:=Mx t hC d36 b I;have P:=BM t hC d37;have u:=xx t hC d38;have O_paper:=HH t hC d39 n u;have y:=xz t hC d40 a j;have k:=oC t hC d41 y m;have o:=sg t hC d42 a i f k;have B:=xA t hC d43 o J r;have O_solid:=HI t hC d44;have O_lform:=HJ t hC d45 b O_signs;have O_book:=My t hC d46 L F x O_lform O_solid;have O_llen:=Mz t hC d47;have O_lrec:=MA t hC d48 O_llen;have O_plain:=HK t hC d49 O_lrec;have O:=BN t hC d50;have O_same:=MB t hC d51;exact(o_law t hC d52 O_book L F O_text b O_plain P O O_paper O_same B).imp MC
def walk{l:PySem.W.OpenLaw}{c:World->Heap->Prop}{d:DefRec}{K:Params->Frag}(e:l.most=!63)(b:d.params.defaults=[])(i:∀(w:World)(h:Heap),c w h->(K w.params).In h)(F:∀(w:World)(mg:Str->Option Value)(fa:Addr)(h:Heap),(K w.params).In h->h.Ns mainGlobals mg->mg d.name=↑(.ref fa) ->∃fd:FuncData,(∀(s:Shared)(u:Value),BindsTo s fd {[u],[]} [("script",u)])/\∀base:Heap,(K w.params).In base->base.Ns mainGlobals mg->FnOk l.prog w (K w.params) mg base CX0 13 fa fd ["script"] (BP (K w.params))):PySem.W.WalkO q loose XP c l.row.toRowW d [] (λf vs=>PySem.call f vs):=- _L.walk_of (n:=63) (k:=13) (x:="script") (CX:=λ_=>CX0) (sp:=λw=>BP (K w.params)) e (by decide) b {rfl,by decide,by decide,rfl} i F (λ_ _ a ns g _ j=>{a,ns,rfl,j,g,λ_=>rfl}) λ_ _ _ _ _ z=>z
def walkX{r:PySem.W.RowW}{d:DefRec}{f:↥(Str×Expr)}{run:Value->↥Value->Sem Value}{K:Params->Frag}{as:↥Addr}{n t:Nat}(e:∀P,as=(K P).map (·.1))(W:PySem.W.WalkO q loose XP (λw h=>(K w.params).In h) r d f run):PySem.W.WalkX q loose XP (PySem.W.X.obsZ as) (PySem.W.X.valZ K n t) r d f run:=by intro w s₀ c mg u G y a o pm B doc A kV v hd p z l x args b s L g i k j m;exact W w s₀ c mg u G (PySem.W.InK.keeps w _ _ (PySem.W.X.z_facts e y).2.1 L.keeps) a o pm B doc A kV v hd p z l x args b s g i k j m
end _K
end
open PySem PySem.W PyProof.Rows
local macro_rules|`(tactic|walk_at "df") => `(tactic|(refine' _L.df_mk ?a ?l ?c ?k;(case a => k_is);(case l => k_is);(case c => k_is);(case k => k_is)))
local macro_rules|`(tactic|walk_at "dm") => `(tactic|(refine' _L.dfm_mk ?a ?i ?l ?c ?k;(case a => k_is);(case i => k_is);(case l => k_is);(case c => k_is);(case k => k_is)))
local macro_rules|`(universe $x*)=>return Lean.mkNullNode (← x.mapM fun y=>`(def $y:ident:=0))
namespace PySem.W.Fast
universe tw6829847444290815403 tw6820578018984483652 tw15400629948674494096 tw7802478688394211510 tw14347039215489690482 tw1358284114166198416 tw14655000783535588456 tw5965166736344412784 tw2700576711750874544 tw11992494526935153824 tw11736991489506379129 tw14464071386029301812 tw7292116401653345968 tw5940222995234246582 tw15937201342988233579 tw2570768535750544513 tw13025880206237098372 tw14021672295050827176 tw5835356579766235127 tw11171492717278533728 tw10849245474869444686 tw6203523029581143831 tw8425244223466534130 tw3201780537433439661 tw11923617374539952595 tw1214264906727496956 tw545645466036609541 tw1656426355010371618 tw16166425894150689741 tw9944629071488705172 tw14385302937078027664 tw1339424443523972982 tw2132416641028559683 tw5020945385597985853 tw7961752034913717291 tw10201306417521351887 tw9435914920693205362 tw18312528865237446391 tw595889266687954098 tw10548407058273183534 tw9132195637572837671 tw10410037644835947231 tw11616612258456618044 tw16102242555726146091 tw17076372468519265516 tw5335665998714191787 tw13057673420776376379 tw4401195371422714956 tw17849798127959472230 tw13887212027408742843 tw8416652911045189784 tw12468608782267278867 tw10590776988128895496 tw2523477418095353101 tw8237399112859690697 tw9789523983239084389 tw9843004553707186222 tw15712431008089288041 tw5053478053407997217 tw17376967322144316555 tw10714149259953689692 tw1878473182904776030 tw6113582337992446575 tw11215754322534072205 tw4506959463401091896 tw17630020245678126041 tw15867410714217713140 tw6679585949786103767 tw8816031576769656309 tw4898232182191849084 tw16083439313754487399 tw5674460481354135986 tw10157220129012939079 tw15325362905994938868 tw13537564450734260329 tw14117982529228616310 tw2840665756142977205 tw9751822880264646173 tw11804835002384626490 tw13849736503008666389 tw4918359563631848532 tw15653529084487549934 tw16262766087262241867 tw9323066927080705389 tw1219036311867687992 tw17042036952391884616 tw9785788431316318156 tw6811760621605102067 tw9403650814833676620 tw16676557592823513694 tw2925157794222492023 tw2778040118191049828 tw1924803002057397126 tw14666218902499785661 tw9045931705169565979 tw18366692853566031634 tw9158055425304069663 tw4377578997049837329 tw2492067736794693159 tw9016722465624225550 tw4636359976609977346 tw9475781535708708319 tw14483261647581627662 tw3574020733254770654 tw10170838993937846585 tw4472264451193836340 tw8227715296769483972 tw11997707870031883003 tw14333266190209873211 tw4763036528652213704 tw17313938451590443905 tw13343847568924843349 tw13912371891011306974 tw463062575344648753 tw3698113522828611190 tw7084117330063709955 tw9131930884939435601 tw11223011049150444434 tw8705612730441304931 tw3629658258782525395 tw2687547885960075349 tw17366835047568136069 tw18115481784960384555 tw4916303428772862522 tw698487676510537304 tw7756031758771769838 tw5647385818970601117 tw4591459082276701723 tw7864325158390668394 tw3387194542524591596 tw770622342584012374 tw3988611104628923973 tw17450841631352507575 tw3132980800443807191 tw5197671955958693308 tw10858717120683741872 tw6872524339045880264 tw15352120229744855545 tw17129776301956258105 tw17777254344577767216 tw4052678005470795795 tw14775558893924973733 tw7642986648088468222 tw297052633477409722 tw16252928395077012864 tw8663262842514416738 tw1685959433375449217 tw13738654492268196300 tw1882847980546057235 tw9089439167615739893 tw10739631857850209606 tw7599787182528276554 tw7071109462458466306 tw5301349129819153259 tw15393833372729172388 tw16963896765837745819 tw5811809833053961406 tw17446838704249703901 tw2928749354800253553 tw14413407176209802948 tw7370849612108043657 tw16601716518278867549 tw15112511935034510652 tw11414206983868644497 tw3777344815017321219 tw16359124738231752591 tw12685723102103597692 tw14010999702232127006 tw14353376928802313951 tw3946069817739347546 tw8119448193092430294 tw11979460782364803942 tw18274154620047648893 tw4171873012397765294 tw14450127750818845910 tw6477074404928656105 tw3627091217981111717 tw12067422204044656457 tw7365213833913223388 tw3663729580724110986 tw15755785897861149353 tw4044621138421147173 tw4538559595683868690 tw15145281498714822300 tw7569963713769295889 tw15083743719074414783 tw10265827741164277239 tw9320913924216890068 tw10607778961901299547 tw17301961647884940829 tw11948884298354924736 tw8675300171509822457 tw10360781816697703448 tw1220012497730123694 tw1337147089054636853 tw4073541893181503680 tw11979413191972230244 tw14759839619025551181 tw5726975883505100227 tw6235155855531972902 tw3917193031881262044 tw13224235555174859514 tw13497499225345646604 tw312684229030186645 tw5766239160878765094 tw9083966842078647090 tw1308339486338583077 tw1269464156720895460 tw12775114293160409449 tw14802596172261202088 tw10110990991753795603 tw7303328802906749197 tw17887760013765895255 tw5349790768135380577 tw10774246623201412769 tw12638017695939682684 tw13777594584388570509 tw12708210422792593093 tw8759381319370311441 tw1775812467815511580 tw6864160304901092649 tw13982143963131746167 tw11759202103354657031 tw7735951340105587113 tw14797575187842284067 tw6032767296833210359 tw13511770810270905427 tw4112289649443726473 tw850305312289846282 tw1428467005545024216 tw13229940885165638037 tw15115992441000808341 tw14939482536623779055 tw15759784584276158514 tw7437896904241470279 tw2607884979081760570 tw7341478649711341581 tw2935325577606085114 tw13670762549047164973 tw17649090575339089577 tw3165386505076130271 tw2556191524451885549 tw5227347104423882771 tw7959440564522925745 tw4396849055848914055 tw8004394212407510324 tw13057341205392225883 tw16067665442042274408 tw13511649103739902236 tw17378565883008915116 tw1167191437946726535 tw13550894933290687443 tw6801771409628824723 tw9633138115942839977 tw15567940414563543820 tw2402780845293358913 tw17338892133729196910 tw18334548654984344611 tw1197360317693849333 tw1651855194487882328 tw11695652362842129956 tw16976177727266749418 tw7533201240761862136 tw1816143418138389209 tw16026787734120923842 tw1078119674302763424 tw13114434257910659344 tw18128805476057418623 tw11504127148624111908 tw14399064958081177173 tw17781473277204074059 tw16421354746068461245 tw9947396222517123664 tw13586799881354720025 tw2427252726998111553 tw6694173960133455064 tw18085908654955372053 tw6183738182332740707 tw6600928404166423141 tw10101860813050005791 tw16387582857846849698 tw7632911584678517763 tw628689438647602931 tw9941769400406725191 tw17090380432463258533 tw14519133943743808836 tw1820151076652013935 tw17087359610199514053 tw8519533773474636365 tw2891311353315657964 tw5671039477279292481 tw16948785044638919699 tw10486402958405638871 tw9776197238104840999 tw12687757449504755962 tw4666051801696827061 tw8141732616185725629 tw16160351797119424480 tw8570373195255719726 tw7533397327647875294 tw16079481398830412208 tw8229073472362290923 tw14746751499533164112 tw16620305289390716504 tw4693806311052069580 tw15228480724811064075 tw10941213196795450096 tw12394442065166456691 tw538894143791368379 tw16032162290531006876 tw9971553917933035721 tw15297667319514751411 tw10401396621967632198 tw17440618158983156314 tw485826058699777558 tw15906362270452861468 tw11412269746517692514 tw4401842138719394177 tw204570364770472660 tw7394122963878564716 tw7613917766549049530 tw16567644435647979186 tw9145109536138742659 tw17614992526233721891 tw18024455016218901547
end PySem.W.Fast
set_option maxRecDepth 100000 in
set_option maxHeartbeats 0 in
theorem PySem.Challenge.cw_keptreading_k19_papers_told_holds : PySem.Challenge.rw_keptreading_k19_papers_told.Holds := by
  w_on; o_law; z_head; (case hw=>w_witness2)
  k_fill
  refine _K.walkX (λ _=>rfl) (_K.walk (l:=PySem.Challenge.rw_keptreading_k19_papers_told) rfl rfl (λ w h Y=>Y) ?F)
  case F =>
    intro w mg fa h KX G hmg
    refine' _K.all_mk KX G hmg ?_ ?_ ?_ ?_ ?_ ?_ ?_ ?_ ?_ ?_ ?_ ?_ ?_ ?_ ?_ ?_ ?_ ?_ ?_ ?_ ?_ ?_ ?_ ?_ ?_ ?_ ?_ ?_ ?_ ?_ ?_ ?_ ?_ ?_ ?_ ?_ ?_ ?_ ?_ ?_ ?_ ?_ ?_ ?_ ?_ ?_ ?_ ?_ ?_ ?_ ?_ ?_ ?_ ?_ ?_ ?_ ?_ ?_ ?_ ?_ ?_ ?_ ?_ ?_ ?_ ?_ ?_ ?_ ?_ ?_ ?_ ?_ ?_ ?_ ?_ ?_ ?_ ?_ ?_ ?_ ?_ ?_ ?_ ?_ ?_ ?_ ?_ ?_ ?_ ?_ ?_ ?_ ?_ ?_ ?_ ?_ ?_ ?_ ?_ ?_ ?_ ?_ ?_ ?_ ?_ ?_
    any_goals first | walk_at "df" | walk_at "dm" | k_is
